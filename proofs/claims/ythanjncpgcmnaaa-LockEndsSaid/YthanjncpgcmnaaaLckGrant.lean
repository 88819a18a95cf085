/- A lock is given. -/
import Derived.Test.YthanjncpgcmnaaaLckLets
namespace Go.Proofs.Ythanjncpgcmnaaa
open Go.ChangeShapes Go.WideShapes Go.ChangeAt Go.RowKit

theorem Tab.mono {w : World} {g : Nat} {S : St} {x : Gh} {N N' : Nat} (H : Tab w g S x N) (h : N ≤ N') : Tab w g S x N' := H.kept (Nat.le_refl _) (fun _ _ _ => rfl) h
def LockGot (w : World) (g : Nat) (S : St) (x : Gh) (N : Nat) (nm : ByteArray) (e : Ending) (w' : World) : Prop :=
  ∃ k x', e = .returned (.pointer (some ⟨k.b, 0, none⟩)) ∧ Tab w' g S x' (N + 1) ∧ x'.lk nm = some k ∧ x'.ow = x.ow ∧ Steps w w' x x'
def OwnerGot (w : World) (g : Nat) (S : St) (x : Gh) (N : Nat) (o : Nat) (e : Ending) (w' : World) : Prop :=
  ∃ k x', e = .returned (.pointer (some ⟨k.b, 0, none⟩)) ∧ Tab w' g S x' (N + 1) ∧ x'.ow o = some k ∧ x'.lk = x.lk ∧ Steps w w' x x'
theorem lock_any {w : World} {g : Nat} {S : St} {x : Gh} {N : Nat} (H : Tab w g S x N) (hN : N < 4611686018427387904) {nm : ByteArray} (hn : nm.size ≤ maxLen) :
    Calls Try.prog 29 #[.pointer (some ⟨g, 0, none⟩), .string nm] w (LockGot w g S x N nm) := by
  cases hk : x.lk nm with
  | none => exact (lock_new H hN hn hk).mono (fun e w' ⟨k, x', h1, h2, h3, h4, h5, _⟩ => ⟨k, x', h1, h2, by rw [h3, upd_same], h4, h5⟩)
  | some k => exact (lock_there H hn hk).mono (fun e w' ⟨h1, h2⟩ => ⟨k, x, h1, by subst h2; exact H.mono (Nat.le_succ _), hk, rfl, by subst h2; exact Steps.refl _ _⟩)
theorem owner_any {w : World} {g : Nat} {S : St} {x : Gh} {N : Nat} (H : Tab w g S x N) (hN : N < 4611686018427387903) {o : Nat} (ho : o < top) :
    Calls Try.prog 35 #[.pointer (some ⟨g, 0, none⟩), .int .u64 (o : Int)] w (OwnerGot w g S x N o) := by
  cases hk : x.ow o with
  | none => exact (owner_new H hN ho hk).mono (fun e w' ⟨k, x', h1, h2, h3, h4, h5, _⟩ => ⟨k, x', h1, h2, by rw [h3, upd_same], h4, h5⟩)
  | some k => exact (owner_there H ho hk).mono (fun e w' ⟨h1, h2⟩ => ⟨k, x, h1, by subst h2; exact H.mono (Nat.le_succ _), hk, rfl, by subst h2; exact Steps.refl _ _⟩)
/-- What a table holds behind a grant. -/
def granted (S : St) (o : Nat) (nm : ByteArray) (m : Nat) : St := { hold := upd S.hold nm (upd (S.hold nm) o m), queue := S.queue, held := upd S.held o (upd (S.held o) nm m), waits := upd S.waits o (⟨#[]⟩, 0) }
/-- A table behind an operation. -/
def Does (w : World) (g : Nat) (S' : St) (x : Gh) (N' : Nat) (r : Value) (e : Ending) (w' : World) : Prop := ∃ x', e = .returned r ∧ Tab w' g S' x' N' ∧ Steps w w' x x'
set_option maxHeartbeats 2000000 in
theorem grant_any {w : World} {g : Nat} {S : St} {x : Gh} {N : Nat} (H : Tab w g S x N) (hN : N + 10 < 4611686018427387904) {nm : ByteArray} (hn : nm.size ≤ maxLen) {k : LkG} (hk : x.lk nm = some k) {o m : Nat} (ho : o < top) (hm : 1 ≤ m ∧ m ≤ 4) :
    Calls Try.prog 31 #[.pointer (some ⟨g, 0, none⟩), .int .u64 (o : Int), .string nm, .int .i64 (m : Int)] w (Does w g (granted S o nm m) x (N + 4) (.tuple #[])) := by
  have HL := Lib.hid (lock_there H hn hk)
  obtain ⟨w1, hr1, h1, s1, t1⟩ := put_hold H (by omega) hk ho hm
  have HW := Lib.hid (owner_any h1 (by omega) ho)
  obtain ⟨k0, k1⟩ := lk_cells (H.locks.each nm k hk)
  have H1 := Lib.hid h1; have S1 := Lib.hid s1
  have hm4 := hm.2
  have HN := Lib.hid hN; have HM := Lib.hid hm; have HNM := Lib.hid hn
  generalize hR : Does w g (granted S o nm m) x (N + 4) (.tuple #[]) = R
  have HR := Lib.hid hR
  clear H hN hn hk ho hm h1 s1 t1 k1 hR
  go_enter Try.func31, Try.ntmps31
  go_wp2_with (first
    | (go_at_call 29; refine HL.out.mono ?_; rintro e w' ⟨rfl, rfl⟩)
    | (go_at_call 35; refine HW.out.mono ?_; rintro e w2 ⟨kk, x2, rfl, h2, hk2, -, s2⟩; obtain ⟨j0, j1, j2, jf⟩ := ow_cells (h2.owners.each o kk hk2); obtain ⟨w3, hr3, h3, s3, t3⟩ := put_held h2 (by have := HN.out; omega) hk2 HNM.out HM.out; have H2 := Lib.hid h2; have HK2 := Lib.hid hk2; have S2 := Lib.hid s2; have H3 := Lib.hid h3; have S3 := Lib.hid s3; have T3 := Lib.hid t3; clear h2 hk2 s2 h3 s3 t3; obtain ⟨i0, i1, i2, jf⟩ := ow_cells (H3.out.owners.each o _ (upd_same _ _ _)); simp only at i0 i1 i2 jf))
  go_end0
  rw [← HR.out]
  obtain ⟨h4, s4⟩ := set_waits (o := o) (nm := ⟨#[]⟩) (m := 0) H3.out (upd_same _ _ _) (by decide) (by decide)
  refine ⟨_, rfl, ?_, ((S1.out.trans S2.out).trans S3.out).trans s4⟩
  exact h4
end Go.Proofs.Ythanjncpgcmnaaa
