/- LockMore: one owner asks for one name again and again. -/
import Derived.Test.YthanjncpgcmnaaaLckHeld
import Derived.IntWalk
namespace Go.Proofs.Ythanjncpgcmnaaa
open Go.ChangeShapes Go.WideShapes Go.ChangeAt Go.RowKit

theorem i64_and3 (n : Int) : bits .and .i64 n 3 = (((n % 4).toNat : Nat) : Int) := by
  have h3 : (BitVec.ofInt 64 3).toNat = 2 ^ 2 - 1 := by decide
  have key : (BitVec.ofInt 64 n &&& BitVec.ofInt 64 3).toNat = (n % ((2 ^ 64 : Nat) : Int)).toNat % 2 ^ 2 := by
    rw [BitVec.toNat_and, BitVec.toNat_ofInt, h3, Nat.and_two_pow_sub_one_eq_mod]
  show IntKind.i64.wrap ((BitVec.ofInt 64 n &&& BitVec.ofInt 64 3).toNat : Nat) = _
  rw [key, IntWalk.i64_in _ (by omega)]
  omega
def nN : ByteArray := ⟨#[110]⟩
theorem nN_size : nN.size ≤ maxLen := by decide
/-- Owner 1 holds h of n, and nothing else; nobody else holds anything, and nobody waits. -/
structure Mine (S : St) (h : Nat) : Prop where
  mine : S.hold nN 1 = h
  others : ∀ a, a ≠ 1 → S.hold nN a = 0
  queue : S.queue nN = []
  waits : ∀ a, (S.waits a).2 = 0
  held : ∀ nm, S.held 1 nm = if nm = nN then h else 0
theorem mine_start : Mine S0 0 := ⟨rfl, fun _ _ => rfl, rfl, fun _ => rfl, fun nm => by split <;> rfl⟩
theorem mine_granted {S : St} {h W : Nat} (H : Mine S h) : Mine (granted S 1 nN W) W where
  mine := by simp [granted]
  others := fun a e => by simp only [granted, upd_same]; rw [upd_other _ _ e]; exact H.others a e
  queue := H.queue
  waits := fun a => by
    by_cases e : a = 1
    · subst e; simp [granted]
    · simp only [granted]; rw [upd_other _ _ e]; exact H.waits a
  held := fun nm => by
    by_cases e : nm = nN
    · subst e; simp [granted]
    · simp only [granted, upd_same]; rw [upd_other _ _ e, if_neg e, H.held nm, if_neg e]
theorem mine_lets {S : St} {h : Nat} (H : Mine S h) (m : Int) : Lets (S.hold nN) 1 m := fun a e h0 => absurd (H.others a e) h0
/-- What comes of what is held and what is asked for. -/
def nextM (h m : Nat) : Nat := if h = 0 then m else (joi h m).toNat
theorem mode_cases {m : Nat} (h : 1 ≤ m ∧ m ≤ 4) : m = 1 ∨ m = 2 ∨ m = 3 ∨ m = 4 := by omega
theorem joi_nat {h m : Nat} (h1 : 1 ≤ h ∧ h ≤ 4) (h2 : 1 ≤ m ∧ m ≤ 4) : joi h m = ((joi h m).toNat : Int) ∧ 1 ≤ (joi h m).toNat ∧ (joi h m).toNat ≤ 4 := by
  rcases mode_cases h1 with rfl | rfl | rfl | rfl <;> rcases mode_cases h2 with rfl | rfl | rfl | rfl <;> decide
theorem joi_assoc {a b c : Nat} (h1 : 1 ≤ a ∧ a ≤ 4) (h2 : 1 ≤ b ∧ b ≤ 4) (h3 : 1 ≤ c ∧ c ≤ 4) : joi (joi a b) c = joi a (joi b c) ∧ joi a b = joi b a ∧ nextM (nextM (nextM a b) c) a = nextM (nextM a b) c ∧ ((nextM (nextM a b) c : Nat) : Int) = joi (joi a b) c := by
  rcases mode_cases h1 with rfl | rfl | rfl | rfl <;> rcases mode_cases h2 with rfl | rfl | rfl | rfl <;> rcases mode_cases h3 with rfl | rfl | rfl | rfl <;> decide
theorem isM_mode {m : Nat} (h : 1 ≤ m ∧ m ≤ 4) : isM (m : Int) = true := by rw [isM_iff]; omega
theorem next_mode {h m : Nat} (h1 : h ≤ 4) (h2 : 1 ≤ m ∧ m ≤ 4) : 1 ≤ nextM h m ∧ nextM h m ≤ 4 := by
  unfold nextM
  split
  · exact h2
  · exact (joi_nat ⟨by omega, h1⟩ h2).2
/-- The next one. -/
theorem ask_mine {w0 w : World} {g : Nat} {S : St} {N h m : Nat} {A : Nat → Prop} (L : Live w0 w g S N A) (H : Mine S h) (hh : h ≤ 4) (hm : 1 ≤ m ∧ m ≤ 4) (hN : N + 20 < 1099511627776) :
    Calls Try.prog 13 #[.pointer (some ⟨g, 0, none⟩), .int .u64 1, .string { data := #[110] }, .int .i64 (m : Int)] w (fun e w' => ∃ S', Mine S' (nextM h m) ∧ Goes w0 w g S' (N + 5) A (.int .i64 0) e w') := by
  by_cases h0 : h = 0
  · subst h0
    refine (live_does L (fun x T => ask_first T 1 nN m hN (by decide) (by decide) nN_size (isM_mode hm) (H.waits 1) H.mine H.queue hm (mine_lets H _))).mono (fun e w' hg => ⟨_, ?_, hg⟩)
    exact mine_granted H
  · obtain ⟨j1, j2⟩ := joi_nat ⟨by omega, hh⟩ hm
    have hn : nextM h m = (joi h m).toNat := if_neg h0
    by_cases he : (joi h m).toNat = h
    · refine (live_does L (fun x T => ask_same T 1 nN m (by omega) (by decide) (by decide) nN_size (isM_mode hm) (H.waits 1) (by rw [H.mine]; exact h0) (by rw [H.mine]; omega))).mono (fun e w' hg => ⟨S, by rw [hn, he]; exact H, hg.1, live_mono hg.2.1 (fun _ h => h) (by omega), hg.2.2⟩)
    · refine (live_does L (fun x T => ask_more T 1 nN m (joi h m).toNat hN (by decide) (by decide) nN_size (isM_mode hm) (H.waits 1) (by rw [H.mine]; exact h0) (by rw [H.mine]; exact j1) j2 (by rw [H.mine]; exact he) (mine_lets H _))).mono (fun e w' hg => ⟨_, ?_, hg⟩)
      rw [hn]
      exact mine_granted H
theorem tog_comm (a b : Int) : tog a b = tog b a := by
  rw [Bool.eq_iff_iff]; simp [tog, isM]; omega
/-- Another owner. -/
theorem ask_other {w0 w : World} {g : Nat} {S : St} {N h m : Nat} {A : Nat → Prop} (L : Live w0 w g S N A) (H : Mine S h) (hh : 1 ≤ h ∧ h ≤ 4) (hm : 1 ≤ m ∧ m ≤ 4) (hN : N + 20 < 1099511627776) :
    Calls Try.prog 13 #[.pointer (some ⟨g, 0, none⟩), .int .u64 2, .string { data := #[110] }, .int .i64 (m : Int)] w (fun e w' => e = .returned (.int .i64 (if tog h m = true then 0 else 10)) ∧ Below w0.heap.size w0 w') := by
  have hl : Lets (S.hold nN) 2 m ↔ tog h m = true := by
    constructor
    · intro hL
      have := hL 1 (by decide) (by rw [H.mine]; omega)
      rw [H.mine, tog_comm] at this; exact this
    · intro ht a e h0
      have : a = 1 := by
        refine Classical.byContradiction fun e' => h0 (H.others a e')
      subst this
      rw [H.mine, tog_comm]; exact ht
  by_cases ht : tog h m = true
  · rw [if_pos ht]
    exact (live_does L (fun x T => ask_first T 2 nN m hN (by decide) (by decide) nN_size (isM_mode hm) (H.waits 2) (H.others 2 (by decide)) H.queue hm (hl.2 ht))).mono (fun e w' hg => ⟨hg.1, hg.2.1.below⟩)
  · rw [if_neg ht]
    exact (live_does L (fun x T => ask_new T 2 nN m hN (by decide) (by decide) nN_size (isM_mode hm) (H.waits 2) (H.others 2 (by decide)) hm H.queue (fun h' => ht (hl.1 h')))).mono (fun e w' hg => ⟨hg.1, hg.2.1.below⟩)
theorem names_one {f : ByteArray → Nat} {h : Nat} {ns : List ByteArray} (H : Names f ns) (hf : ∀ nm, f nm = if nm = nN then h else 0) (h0 : h ≠ 0) : ns = [nN] := by
  have hin : nN ∈ ns := (H.mem nN).2 (by rw [hf, if_pos rfl]; exact h0)
  have hall : ∀ nm ∈ ns, nm = nN := fun nm hn => by
    have := (H.mem nm).1 hn
    rw [hf] at this
    exact Classical.byContradiction fun e => this (if_neg e)
  match ns, H, hin, hall with
  | [a], _, _, hall => rw [hall a (by simp)]
  | a :: b :: r, H, _, hall =>
    have h1 := hall a (by simp); have h2 := hall b (by simp)
    exact absurd (h1.trans h2.symm) ((List.pairwise_cons.1 H.sorted).1 b (by simp)).2
/-- What is held, told. -/
theorem held_mine {w0 w : World} {g : Nat} {S : St} {N h : Nat} {A : Nat → Prop} (L : Live w0 w g S N A) (H : Mine S h) (hh : 1 ≤ h ∧ h ≤ 4) (hN : N < 1099511627776) :
    Calls Try.prog 17 #[.pointer (some ⟨g, 0, none⟩), .int .u64 1] w (fun e w' => ∃ b off cap, e = .returned (.slice (some ⟨b, off, none⟩) 1 cap) ∧ w'.cell? ⟨b, off + 1, none⟩ = some (.int .i64 (h : Int)) ∧ Live w0 w' g S N A) := by
  obtain ⟨x, T, _⟩ := L.ex
  refine (held_any T hN (o := 1) (by decide)).mono ?_
  rintro e w' ⟨v, bo, ns, rfl, hns, hs, hb, _⟩
  obtain rfl := names_one hns H.held (by omega)
  obtain ⟨_, _, ⟨_, _, h0⟩ | ⟨b, off, cap, rfl, rfl, _, _, _, hx, _⟩⟩ := hs
  · cases h0
  · exact ⟨b, off, cap, rfl, hx 1 _ (by simp [gcells, H.held nN]), live_on L hb⟩
end Go.Proofs.Ythanjncpgcmnaaa
