/- Plain facts on the sum's register (32 bits, four at a time), as numbers. -/
import Derived.Laws.BitsAllLaws
namespace Go.Proofs.YteplapigkofgaaaDoor
def tab : List Nat := [0, 498536548, 997073096, 651767980, 1994146192, 1802195444, 1303535960, 1342533948, 3988292384, 4027552580, 3604390888, 3412177804, 2607071920, 2262029012, 2685067896, 3183342108]
def nib (x : Nat) : Nat := (x / 16) ^^^ tab.getD (x % 16) 0
def stp (r c : Nat) : Nat := nib (nib (r ^^^ c))
theorem tab_lt : ∀ j, tab.getD j 0 < 4294967296 := by
  intro j
  by_cases h : j < 16
  · have : ∀ j : Fin 16, tab.getD j.val 0 < 4294967296 := by decide
    exact this ⟨j, h⟩
  · rw [List.getD_eq_getElem?_getD, List.getElem?_eq_none (by simp [tab]; omega)]; simp
theorem nib_lt {x : Nat} (h : x < 4294967296) : nib x < 4294967296 :=
  Nat.xor_lt_two_pow (n := 32) (by omega) (tab_lt _)
theorem xor_lt' {x y : Nat} (h : x < 4294967296) (h' : y < 4294967296) : x ^^^ y < 4294967296 := Nat.xor_lt_two_pow (n := 32) h h'
theorem stp_lt {r c : Nat} (h : r < 4294967296) (h' : c < 256) : stp r c < 4294967296 := nib_lt (nib_lt (xor_lt' h (by omega)))
theorem and15 {x : Nat} (h : x < 4294967296) : bits .and .u32 (x : Int) 15 = ((x % 16 : Nat) : Int) := by
  have := u32_and_nat x 15 h (by omega)
  rw [show ((15 : Nat) : Int) = 15 from rfl] at this
  rw [this, show (15 : Nat) = 2 ^ 4 - 1 from rfl, Nat.and_two_pow_sub_one_eq_mod]
def crc (r : Nat) (l : List Nat) : Nat := l.foldl stp r
theorem crc_lt {r : Nat} (h : r < 4294967296) : ∀ (l : List Nat) (_ : ∀ c ∈ l, c < 256), crc r l < 4294967296 := by
  intro l
  induction l generalizing r with
  | nil => intro _; exact h
  | cons c l ih => intro hl; exact ih (stp_lt h (hl c (by simp))) (fun c hc => hl c (by simp [hc]))

theorem crc_take_succ {r : Nat} (l : List Nat) (k : Nat) (h : k < l.length) : crc r (l.take (k + 1)) = stp (crc r (l.take k)) l[k] := by
  unfold crc
  rw [List.take_succ_eq_append_getElem h, List.foldl_append]; rfl
theorem x32 {a b : Nat} (h : a < 4294967296) (h' : b < 4294967296) : bits .xor .u32 (a : Int) (b : Int) = ((a ^^^ b : Nat) : Int) := u32_xor_nat a b h h'
theorem x32d {a b : Nat} (h : a < 4294967296) (h' : b < 4294967296) : bits .xor .u32 ((a : Int) / 16) (b : Int) = ((a / 16 ^^^ b : Nat) : Int) := by
  have := u32_xor_nat (a / 16) b (by omega) h'
  rwa [Int.natCast_ediv] at this

/-- The register behind the bytes l, and the sum that is told. -/
def more (s : Nat) (l : List Nat) : Nat := crc (s ^^^ 4294967295) l ^^^ 4294967295
theorem more_lt {s : Nat} (h : s < 4294967296) (l : List Nat) (hl : ∀ c ∈ l, c < 256) : more s l < 4294967296 := xor_lt' (crc_lt (xor_lt' h (by decide)) l hl) (by decide)
theorem x32max {a : Nat} (h : a < 4294967296) : bits .xor .u32 (IntKind.u32.max) (a : Int) = ((a ^^^ 4294967295 : Nat) : Int) := by
  have := u32_xor_nat 4294967295 a (by omega) h
  rw [Nat.xor_comm] at this
  exact this
/-- The number in bytes, the lowest first. -/
def num : List Nat → Nat
  | [] => 0
  | c :: l => c + 256 * num l
theorem num_snoc (l : List Nat) (c : Nat) : num (l ++ [c]) = num l + c * 2 ^ (8 * l.length) := by
  induction l with
  | nil => simp [num]
  | cons d l ih =>
    simp only [List.cons_append, num, ih, List.length_cons]
    rw [show 8 * (l.length + 1) = 8 * l.length + 8 from by omega, Nat.pow_add]
    rw [Nat.mul_add, ← Nat.add_assoc]
    congr 1
    rw [show (2 : Nat) ^ 8 = 256 from rfl, Nat.mul_left_comm, Nat.mul_comm 256]
theorem num_lt (l : List Nat) (h : ∀ c ∈ l, c < 256) : num l < 2 ^ (8 * l.length) := by
  induction l with
  | nil => simp [num]
  | cons d l ih =>
    have h1 := h d (by simp)
    have h2 := ih (fun c hc => h c (by simp [hc]))
    simp only [num, List.length_cons]
    rw [show 8 * (l.length + 1) = 8 * l.length + 8 from by omega, Nat.pow_add]
    omega
theorem num_take_succ (l : List Nat) (k : Nat) (h : k < l.length) : num (l.take (k + 1)) = num (l.take k) + l[k] * 2 ^ (8 * k) := by
  rw [List.take_succ_eq_append_getElem h, num_snoc, List.length_take, Nat.min_eq_left (by omega)]
theorem orshl {r c k : Nat} (hr : r < 2 ^ (8 * k)) (hc : c < 256) (hk : k < 8) : bits .or .u64 (r : Int) (IntKind.u64.wrap ((c : Int) * 2 ^ (8 * k))) = ((r + c * 2 ^ (8 * k) : Nat) : Int) := by
  have hp : 2 ^ (8 * k) ≤ 2 ^ 56 := Nat.pow_le_pow_right (by omega) (by omega)
  have hle : c * 2 ^ (8 * k) ≤ 255 * 2 ^ 56 := Nat.mul_le_mul (by omega) hp
  have h1 : ((c : Int) * 2 ^ (8 * k)) = ((c * 2 ^ (8 * k) : Nat) : Int) := by push_cast; rfl
  have h2 : IntKind.u64.wrap (((c * 2 ^ (8 * k) : Nat) : Int)) = ((c * 2 ^ (8 * k) : Nat) : Int) := by
    rw [IntKind.wrap_u64]; omega
  rw [h1, h2, u64_or_nat _ _ (by omega) (by omega)]
  congr 1
  have := Nat.shiftLeft_add_eq_or_of_lt hr c
  rw [Nat.shiftLeft_eq] at this
  rw [Nat.or_comm, ← this, Nat.add_comm]
end Go.Proofs.YteplapigkofgaaaDoor
