/- What the rows of this seat's second form give their walks: the bulk of a slice of bytes. -/
import Derived.Test.YtpbdchcocadnkaaDoorKeyRows
import Derived.Test.YtpbdchcocadnkaaDoorKeyBey
namespace Go.Proofs.YtpbdchcocadnkaaDoor
open Go.ChangeShapes Go.WideShapes Go.ChangeAt Go.RowKit

theorem bulk_lits {H : Type} (k : IntKind) : ∀ zs : List Int, Rows.uptoBulkAll (H := H) (lits k zs) = zs.length
  | [] => by simp [lits, Rows.uptoBulkAll]
  | z :: zs => by
    have ih := bulk_lits (H := H) k zs
    simp only [lits, List.map_cons, Rows.uptoBulkAll, Rows.uptoBulk, List.length_cons] at ih ⊢
    omega
theorem bulk_row {H : Type} {d : DataW H} {k : IntKind} {zs : List Int} {n cap : Nat} (hd : d = .slice (lits k (zs.take n)) (lits k (zs.drop n))) (hz : zs.length = cap) : cap ≤ Rows.uptoBulk d := by
  subst hd
  simp only [Rows.uptoBulk, bulk_lits, List.length_take, List.length_drop]
  omega
theorem bulk_two {H : Type} {d e : DataW H} {gs : List (DataW H)} {n m : Nat} (hk : Rows.uptoSmall H ([d, e] ++ gs) = true) (hd : n ≤ Rows.uptoBulk d) (he : m ≤ Rows.uptoBulk e) : n + m ≤ 1048576 := by
  have h := of_decide_eq_true hk
  simp only [List.cons_append, List.nil_append, Rows.uptoBulkAll] at h
  omega
theorem beyond_in {W : World} {a b : Option Addr} {len cap len' cap' : Nat} {l m : List Nat} (h : InAt W a len cap l) (h' : InAt W b len' cap' m) (hr : cap + cap' ≤ 1048576) : Calls Tryd.prog 4 #[.slice a len cap, .slice b len' cap'] W fun e w' => e = .returned (.bool true) ∧ Below W.heap.size W w' :=
  beyond_law h.2.2.2.2 h'.2.2.2.2 h.1 h'.1 h.2.1 h'.2.1 (by have := h.2.1; have := h'.2.1; omega)
end Go.Proofs.YtpbdchcocadnkaaDoor
