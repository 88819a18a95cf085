/- Bytes in order; the least bytes above all that begin with some: plain words and laws. -/
import Derived.Test.YtpbdchcocadnkaaDoorKeyOwn
import Derived.Lib.BytesEntry
import Derived.Laws.Externs
namespace Go.Proofs.YtpbdchcocadnkaaDoor
open Go.ChangeShapes Go.WideShapes Go.ChangeAt Go.RowKit

/-- Bytes in order: -1, 0 or 1. -/
def cmpN : List Nat → List Nat → Int
  | [], [] => 0
  | [], _ :: _ => -1
  | _ :: _, [] => 1
  | a :: x, b :: y => if a < b then -1 else if b < a then 1 else cmpN x y
theorem u8_lt {a b : Nat} (ha : a < 256) (hb : b < 256) : (UInt8.ofNat a < UInt8.ofNat b) ↔ a < b := by
  rw [UInt8.lt_iff_toNat_lt, UInt8.toNat_ofNat', UInt8.toNat_ofNat', Nat.mod_eq_of_lt ha, Nat.mod_eq_of_lt hb]
theorem u8_eq {a b : Nat} (ha : a < 256) (hb : b < 256) : (UInt8.ofNat a = UInt8.ofNat b) ↔ a = b := by
  constructor
  · intro h
    have := congrArg UInt8.toNat h
    rwa [UInt8.toNat_ofNat', UInt8.toNat_ofNat', Nat.mod_eq_of_lt ha, Nat.mod_eq_of_lt hb] at this
  · rintro rfl; rfl
theorem cmp_bytes : ∀ (l m : List Nat), (∀ c ∈ l, c < 256) → (∀ c ∈ m, c < 256) → Lib.compareBytes (l.map UInt8.ofNat) (m.map UInt8.ofNat) = cmpN l m
  | [], [], _, _ => rfl
  | [], _ :: _, _, _ => rfl
  | _ :: _, [], _, _ => rfl
  | a :: x, b :: y, hl, hm => by
    have ha := hl a (List.mem_cons_self ..)
    have hb := hm b (List.mem_cons_self ..)
    have ih := cmp_bytes x y (fun c hc => hl c (List.mem_cons_of_mem _ hc)) (fun c hc => hm c (List.mem_cons_of_mem _ hc))
    simp only [List.map_cons, Lib.compareBytes, cmpN, u8_lt ha hb, u8_lt hb ha, ih]
theorem cmp_less : ∀ (l m : List Nat), (∀ c ∈ l, c < 256) → (∀ c ∈ m, c < 256) → Op.bytesLess (l.map UInt8.ofNat) (m.map UInt8.ofNat) = decide (cmpN l m = -1)
  | [], [], _, _ => rfl
  | [], _ :: _, _, _ => rfl
  | _ :: _, [], _, _ => rfl
  | a :: x, b :: y, hl, hm => by
    have ha := hl a (List.mem_cons_self ..)
    have hb := hm b (List.mem_cons_self ..)
    have ih := cmp_less x y (fun c hc => hl c (List.mem_cons_of_mem _ hc)) (fun c hc => hm c (List.mem_cons_of_mem _ hc))
    simp only [List.map_cons, Op.bytesLess, cmpN, ih, u8_lt ha hb]
    by_cases h1 : a < b
    · simp [h1]
    · by_cases h2 : b < a
      · have h3 : ¬ (UInt8.ofNat a = UInt8.ofNat b) := fun e => by rw [u8_eq ha hb] at e; omega
        simp [h1, h2, h3]
      · obtain rfl : a = b := by omega
        simp
theorem cmp_zero : ∀ (l m : List Nat), cmpN l m = 0 ↔ l = m
  | [], [] => by simp [cmpN]
  | [], _ :: _ => by simp [cmpN]
  | _ :: _, [] => by simp [cmpN]
  | a :: x, b :: y => by
    have ih := cmp_zero x y
    simp only [cmpN, List.cons.injEq]
    by_cases h1 : a < b
    · simp [h1]; omega
    · by_cases h2 : b < a
      · simp [h1, h2]; omega
      · obtain rfl : a = b := by omega
        simp [ih]
theorem cmp_vals : ∀ (l m : List Nat), cmpN l m = -1 ∨ cmpN l m = 0 ∨ cmpN l m = 1
  | [], [] => by simp [cmpN]
  | [], _ :: _ => by simp [cmpN]
  | _ :: _, [] => by simp [cmpN]
  | a :: x, b :: y => by
    have ih := cmp_vals x y
    simp only [cmpN]
    split
    · simp
    · split
      · simp
      · exact ih
/-- Where the last byte below 255 stands: behind it. -/
def Last (l : List Nat) (n : Nat) : Prop := n ≤ l.length ∧ (∀ j, n ≤ j → j < l.length → l.getD j 0 = 255) ∧ (n = 0 ∨ l.getD (n - 1) 0 < 255)
theorem last_to {l : List Nat} (hz : ∀ c ∈ l, c < 256) : ∀ n, n ≤ l.length → (∀ j, n ≤ j → j < l.length → l.getD j 0 = 255) → ∃ m, Last l m
  | 0, h, h2 => ⟨0, h, h2, .inl rfl⟩
  | n + 1, h, h2 => by
    by_cases hlt : l.getD n 0 < 255
    · exact ⟨n + 1, h, h2, .inr hlt⟩
    · refine last_to hz n (by omega) fun j hj hj' => ?_
      by_cases e : j = n
      · subst e
        have hg : l.getD j 0 = l[j]'(by omega) := by simp [List.getD, List.getElem?_eq_getElem (show j < l.length by omega)]
        have := hz _ (List.getElem_mem (show j < l.length by omega))
        omega
      · exact h2 j (by omega) hj'
theorem last_all {l : List Nat} (hz : ∀ c ∈ l, c < 256) : ∃ m, Last l m := last_to hz l.length (Nat.le_refl _) (fun j h h' => by omega)
/-- The least bytes above all that begin with l, where some are. -/
def afterOf (l : List Nat) (n : Nat) : List Nat := (l.take n).set (n - 1) (l.getD (n - 1) 0 + 1)
theorem run_compareBytes {w : World} {a b : Option Addr} {l m : List Nat} {n k c d : Nat} (ha : BytesAt w a l) (hb : BytesAt w b m) (hl : l.length = n) (hm : m.length = k) :
    (Extern.BytealgCompare.compare #[.slice a n c, .slice b k d]).run Tryd.prog w = .ok (.int .i64 (cmpN l m)) w := by
  have one : ∀ (a : Option Addr) (l : List Nat) (n c : Nat), BytesAt w a l → l.length = n → (Extern.Bytes.bytesOf (.slice a n c)).run Tryd.prog w = .ok ⟨(l.map UInt8.ofNat).toArray⟩ w := by
    intro a l n c ha hl
    cases a with
    | none =>
      have : l = [] := bytes_none ha
      subst this
      rfl
    | some ad =>
      obtain ⟨bl, off, sp⟩ := ad
      have hcell : ∀ j x, (l.map fun z : Nat => (z : Int))[j]? = some x → w.cell? ((⟨bl, off, sp⟩ : Addr).add j) = some (.int .u8 x) := fun j x hx => by
        have hj : j < l.length := by have := (List.getElem?_eq_some_iff.1 hx).1; simpa using this
        refine bytes_cells ha j _ ?_
        simp only [u8s, List.getElem?_map] at hx ⊢
        rw [List.getElem?_eq_getElem hj] at hx ⊢
        simpa using hx
      have h := Lib.run_loadBytesX (P := Tryd.prog) w (l.map fun z : Nat => (z : Int)) ⟨bl, off, sp⟩ .empty hcell
      rw [List.length_map, hl] at h
      have he : (⟨ByteArray.empty.data ++ (Lib.bytesOf (l.map fun z : Nat => (z : Int))).toArray⟩ : ByteArray) = ⟨(l.map UInt8.ofNat).toArray⟩ := by
        apply ByteArray.ext
        show (#[] : Array UInt8) ++ (Lib.bytesOf (l.map fun z : Nat => (z : Int))).toArray = (l.map UInt8.ofNat).toArray
        simp [Lib.bytesOf]
      rw [he] at h
      exact h
  have h1 := one a l n c ha hl
  have h2 := one b m k d hb hm
  change Sem.run Tryd.prog (do pure (goInt (Extern.BytealgCompare.cmp (← Extern.Bytes.bytesOf (.slice a n c)) (← Extern.Bytes.bytesOf (.slice b k d))))) w = _
  simp only [Sem.run_bind, Sem.run_pure, h1, h2, Result.andThen]
  rw [Lib.cmp_eq]
  simp only []
  rw [cmp_bytes l m ha.1 hb.1]
  rfl
end Go.Proofs.YtpbdchcocadnkaaDoor
