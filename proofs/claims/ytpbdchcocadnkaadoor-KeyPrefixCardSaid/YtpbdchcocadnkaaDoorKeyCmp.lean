/- Byte strings in order: contracts of Compare and of the document's Compare. -/
import Derived.Test.YtpbdchcocadnkaaDoorKeyMath
namespace Go.Proofs.YtpbdchcocadnkaaDoor
open Go.ChangeShapes Go.WideShapes Go.ChangeAt Go.RowKit

theorem compare_any {w : World} {a b : Option Addr} {l m : List Nat} {n k c d : Nat} (ha : BytesAt w a l) (hb : BytesAt w b m) (hl : l.length = n) (hm : m.length = k) :
    Calls Tryd.prog 9 #[.slice a n c, .slice b k d] w fun e w' => e = .returned (.int .i64 (cmpN l m)) ∧ w = w' := by
  have hr := run_compareBytes (c := c) (d := d) ha hb hl hm
  have hx : (callFunc 22 #[.slice a n c, .slice b k d]).run Tryd.prog w = .ok (.value (.int .i64 (cmpN l m))) w := by
    rw [run_callFunc_extern Tryd.func22 (by kernel_rfl) (by kernel_rfl) (by kernel_rfl) (e := Extern.BytealgCompare.compare) (by kernel_rfl), hr]
    rfl
  obtain ⟨z, hz⟩ : ∃ z, z = cmpN l m := ⟨_, rfl⟩
  rw [← hz] at hx ⊢
  clear hz hr ha hb hl hm
  go_enter Tryd.func9, Tryd.ntmps9
  go_wp2
  go_ret
  exact ⟨rfl, rfl⟩
theorem str_less {l m : List Nat} (hl : ∀ c ∈ l, c < 256) (hm : ∀ c ∈ m, c < 256) : Op.bytesLess (str l).toList (str m).toList = decide (cmpN l m = -1) := by
  have e : ∀ x : List Nat, (str x).toList = x.map UInt8.ofNat := fun x => by
    simp [str, ByteArray.toList_eq]
  rw [e, e]
  exact cmp_less l m hl hm
end Go.Proofs.YtpbdchcocadnkaaDoor
