/- A name's lock, an owner's block, a grant: each adds one to the count at most. -/
import Derived.Test.YthanjncpgcmnaaaLckStep
namespace Go.Proofs.Ythanjncpgcmnaaa
open Go.ChangeShapes Go.WideShapes Go.ChangeAt Go.RowKit

/-- A lock that one gets, with room for one more. -/
def LockGot1 (w : World) (g : Nat) (S : St) (x : Gh) (N : Nat) (nm : ByteArray) (e : Ending) (w' : World) : Prop :=
  ∃ k x', e = .returned (.pointer (some ⟨k.b, 0, none⟩)) ∧ Tab w' g S x' (N + 1) ∧ x'.lk nm = some k ∧ k.cnt + (S.queue nm).length ≤ N ∧ Owners w' x'.who x'.om S.held S.waits x'.ow N ∧ Steps w w' x x'
def OwnerGot1 (w : World) (g : Nat) (S : St) (x : Gh) (M : Nat) (o : Nat) (e : Ending) (w' : World) : Prop :=
  ∃ k x', e = .returned (.pointer (some ⟨k.b, 0, none⟩)) ∧ Tab w' g S x' M ∧ x'.ow o = some k ∧ k.cnt + 1 ≤ M ∧ x'.lk = x.lk ∧ Steps w w' x x'
theorem lock_one {w : World} {g : Nat} {S : St} {x : Gh} {N : Nat} (H : Tab w g S x N) (hN : N < 4611686018427387904) {nm : ByteArray} (hn : nm.size ≤ maxLen) :
    Calls Try.prog 29 #[.pointer (some ⟨g, 0, none⟩), .string nm] w (LockGot1 w g S x N nm) := by
  cases hk : x.lk nm with
  | none => exact (lock_new H hN hn hk).mono (fun e w' ⟨k, x', h1, h2, h3, h4, h5, h6, h7⟩ => ⟨k, x', h1, h2, by rw [h3, upd_same], by rw [h6, (H.locks.none nm hk).2]; simp, h7, h5⟩)
  | some k => exact (lock_there H hn hk).mono (fun e w' ⟨h1, h2⟩ => ⟨k, x, h1, by subst h2; exact H.mono (Nat.le_succ _), hk, (H.locks.each nm k hk).few, by subst h2; exact H.owners, by subst h2; exact Steps.refl _ _⟩)
theorem owner_one {w : World} {g : Nat} {S : St} {x : Gh} {N M : Nat} (H : Tab w g S x M) (HO : Owners w x.who x.om S.held S.waits x.ow N) (hNM : N + 1 ≤ M) (hN : M < 4611686018427387904) {o : Nat} (ho : o < top) :
    Calls Try.prog 35 #[.pointer (some ⟨g, 0, none⟩), .int .u64 (o : Int)] w (OwnerGot1 w g S x M o) := by
  cases hk : x.ow o with
  | none => exact (owner_new_at (Nat.le_refl M) H HO.own hNM hN ho hk).mono (fun e w' ⟨k, x', h1, h2, h3, h4, h5, h6⟩ => ⟨k, x', h1, h2, by rw [h3, upd_same], by omega, h4, h5⟩)
  | some k => exact (owner_there H ho hk).mono (fun e w' ⟨h1, h2⟩ => ⟨k, x, h1, by subst h2; exact H, hk, by have := (HO.each o k hk).few; omega, rfl, by subst h2; exact Steps.refl _ _⟩)
theorem owners_map {w w' : World} {who who' : Nat → Tag} {om : Nat} {held : Nat → ByteArray → Nat} {waits : Nat → ByteArray × Nat} {ow : Nat → Option OwG} {N : Nat} (H : Owners w who om held waits ow N) {c : Nat} (hc : (who c).isO = false) (ht : Turned (fun b => b = c) w w') (he : Ext w who who') (hlt : ∀ b, (who b).isO = true → b < w.heap.size) : Owners w' who' om held waits ow N :=
  H.kept he (fun b hb => ht.block b (hlt b hb) (fun e => by rw [e, hc] at hb; cases hb)) (Nat.le_refl _)
set_option maxHeartbeats 2000000 in
theorem grant_one {w : World} {g : Nat} {S : St} {x : Gh} {N M : Nat} (H : Tab w g S x M) (HO : Owners w x.who x.om S.held S.waits x.ow N) (hNM : N + 1 ≤ M) (hN : M < 4611686018427387904) {nm : ByteArray} (hn : nm.size ≤ maxLen) {k : LkG} (hk : x.lk nm = some k) (hs : k.cnt + 1 + (S.queue nm).length ≤ M) {o m : Nat} (ho : o < top) (hm : 1 ≤ m ∧ m ≤ 4) :
    Calls Try.prog 31 #[.pointer (some ⟨g, 0, none⟩), .int .u64 (o : Int), .string nm, .int .i64 (m : Int)] w (Does w g (granted S o nm m) x M (.tuple #[])) := by
  have HL := Lib.hid (lock_there H hn hk)
  obtain ⟨w1, hr1, h1, s1, t1⟩ := put_holdN H (Nat.le_refl M) hN hk hs ho hm
  have hO1 := owners_map HO (c := k.hm) (by rw [(H.locks.each nm k hk).th]; rfl) t1 (Ext.refl _ _) (fun b hb => H.lt b (fun e => by rw [e] at hb; cases hb))
  have HW := Lib.hid (owner_one h1 hO1 hNM hN ho)
  obtain ⟨k0, k1⟩ := lk_cells (H.locks.each nm k hk)
  have H1 := Lib.hid h1; have S1 := Lib.hid s1
  have hm4 := hm.2
  have HN := Lib.hid hN; have HM := Lib.hid hm; have HNM := Lib.hid hn
  generalize hR : Does w g (granted S o nm m) x M (.tuple #[]) = R
  have HR := Lib.hid hR
  clear H hN hn hk ho hm h1 s1 t1 k1 hR HO hO1 hs
  go_enter Try.func31, Try.ntmps31
  go_wp2_with (first
    | (go_at_call 29; refine HL.out.mono ?_; rintro e w' ⟨rfl, rfl⟩)
    | (go_at_call 35; refine HW.out.mono ?_; rintro e w2 ⟨kk, x2, rfl, h2, hk2, hc2, -, s2⟩; obtain ⟨j0, -, -, -⟩ := ow_cells (h2.owners.each o kk hk2); obtain ⟨w3, hr3, c1, c2, cf, x3, h3, s3, l3⟩ := put_held_wait h2 HN.out hk2 hc2 HNM.out HM.out; obtain ⟨u1, hu1⟩ := Option.isSome_iff_exists.1 c1; obtain ⟨u2, hu2⟩ := Option.isSome_iff_exists.1 c2; have cf1 := cf 1; have cf2 := cf 2; have H3 := Lib.hid h3; have S3 := Lib.hid ((S1.out.trans s2).trans s3); clear h2 hk2 hc2 s2 h3 s3 l3 c1 c2 cf))
  go_end0
  rw [← HR.out]
  exact ⟨x3, rfl, H3.out, S3.out⟩
/-- What an owner waits for, where there is room. -/
theorem set_waits_one {w : World} {g : Nat} {S : St} {x : Gh} {N : Nat} (H : Tab w g S x N) {o : Nat} {k : OwG} (hl : x.ow o = some k) (hs : k.cnt + 1 ≤ N) {nm : ByteArray} {m : Nat} (hn : nm.size ≤ maxLen) (hm : m ≤ 4) :
    Tab ((w.setCell ⟨k.b, 1, none⟩ (.string nm)).setCell ⟨k.b, 2, none⟩ (.int .i64 (m : Int))) g { S with waits := upd S.waits o (nm, m) } x N ∧ Steps w ((w.setCell ⟨k.b, 1, none⟩ (.string nm)).setCell ⟨k.b, 2, none⟩ (.int .i64 (m : Int))) x x := by
  have h := H.owners.each o k hl
  have hT0 : Turned (fun b => b = k.b) w ((w.setCell ⟨k.b, 1, none⟩ (.string nm)).setCell ⟨k.b, 2, none⟩ (.int .i64 (m : Int))) := ((Turned.refl (fun b => b = k.b) w).setCell (p := ⟨k.b, 1, none⟩) (.inl rfl) _).setCell (p := ⟨k.b, 2, none⟩) (.inl rfl) _
  have hT := hT0.mono (E' := fun b => x.who b = .ow o ∨ x.who b = .held o) (fun b e => by subst e; exact .inl h.tb)
  have hr := H.setOwnerN (Nat.le_refl N) (k' := k) (h' := S.held o) (wt' := (nm, m)) hl hT
    { cells := (by have := cells_setCell (o := 2) (v := .int .i64 (m : Int)) (cells_setCell (o := 1) (v := .string nm) h.cells); exact this), own := h.own.kept (hT0.block _ h.own.lt (fun e => by have := h.th; rw [e, h.tb] at this; cases this)), few := (by split <;> omega), le := h.le, lt := h.lt, wt := ⟨hn, hm⟩, tb := h.tb, th := h.th } rfl
  rw [upd_self, show upd x.ow o (some k) = x.ow from by rw [← hl]; exact upd_self _ _] at hr
  exact hr
end Go.Proofs.Ythanjncpgcmnaaa
