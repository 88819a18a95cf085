/- Single steps on a table, to the count. -/
import Derived.Test.YthanjncpgcmnaaaLckHeld
namespace Go.Proofs.Ythanjncpgcmnaaa
open Go.ChangeShapes Go.WideShapes Go.ChangeAt Go.RowKit

section
variable {w w' : World} {g : Nat} {S : St} {x : Gh} {N N' : Nat}
theorem Tab.setLockN (H : Tab w g S x N) (hN : N ≤ N') {nm : ByteArray} {k k' : LkG} {h' : Nat → Nat} {q' : List (Nat × Nat)} {who' : Nat → Tag} (hl : x.lk nm = some k) (ht : Turned (fun b => x.who b = .lk nm ∨ x.who b = .hm nm ∨ x.who b = .qb nm) w w') (he : Ext w x.who who')
    (hlt : ∀ b, who' b ≠ .out → b < w'.heap.size) (hnew : LkAt w' who' nm k' h' q' N') (hb : k'.b = k.b) :
    Tab w' g { S with hold := upd S.hold nm h', queue := upd S.queue nm q' } { x with who := who', lk := upd x.lk nm (some k') } N' ∧ Steps w w' x { x with who := who', lk := upd x.lk nm (some k') } := by
  have hk : ∀ b, x.who b ≠ .out → ¬ (x.who b = .lk nm ∨ x.who b = .hm nm ∨ x.who b = .qb nm) → w'.heap[b]? = w.heap[b]? := fun b hb hn => ht.block b (H.lt b hb) hn
  have hout : ∀ b, (x.who b).isL = true → x.who b ≠ .out := fun b hb e => by rw [e] at hb; cases hb
  have hout' : ∀ b, (x.who b).isO = true → x.who b ≠ .out := fun b hb e => by rw [e] at hb; cases hb
  refine ⟨⟨cells_kept H.cells (hk g (by rw [H.tag]; decide) (by rw [H.tag]; simp)), (he g (cells_lt H.cells)).trans H.tag, ?_, ?_, hlt⟩, ⟨rfl, rfl, he, ht.mono (fun b e => by rcases e with e | e | e <;> rw [e] <;> simp)⟩⟩
  · exact H.locks.set hl ht.size he (fun b hb h1 h2 h3 => hk b (hout b hb) (fun e => by rcases e with e | e | e; exact h1 e; exact h2 e; exact h3 e)) hN hnew hb
  · exact H.owners.kept he (fun b hb => hk b (hout' b hb) (fun e => by rcases e with e | e | e <;> rw [e] at hb <;> cases hb)) hN
theorem Tab.setOwnerN (H : Tab w g S x N) (hN : N ≤ N') {o : Nat} {k k' : OwG} {h' : ByteArray → Nat} {wt' : ByteArray × Nat} (hl : x.ow o = some k) (ht : Turned (fun b => x.who b = .ow o ∨ x.who b = .held o) w w')
    (hnew : OwAt w' x.who o k' h' wt' N') (hb : k'.b = k.b) :
    Tab w' g { S with held := upd S.held o h', waits := upd S.waits o wt' } { x with ow := upd x.ow o (some k') } N' ∧ Steps w w' x { x with ow := upd x.ow o (some k') } := by
  have hk : ∀ b, x.who b ≠ .out → ¬ (x.who b = .ow o ∨ x.who b = .held o) → w'.heap[b]? = w.heap[b]? := fun b hb hn => ht.block b (H.lt b hb) hn
  have hout : ∀ b, (x.who b).isL = true → x.who b ≠ .out := fun b hb e => by rw [e] at hb; cases hb
  have hout' : ∀ b, (x.who b).isO = true → x.who b ≠ .out := fun b hb e => by rw [e] at hb; cases hb
  refine ⟨⟨cells_kept H.cells (hk g (by rw [H.tag]; decide) (by rw [H.tag]; simp)), H.tag, ?_, ?_, fun b hb => Nat.lt_of_lt_of_le (H.lt b hb) ht.size⟩, ⟨rfl, rfl, Ext.refl _ _, ht.mono (fun b e => by rcases e with e | e <;> rw [e] <;> simp)⟩⟩
  · exact H.locks.kept ht.size (Ext.refl _ _) (fun b hb => hk b (hout b hb) (fun e => by rcases e with e | e <;> rw [e] at hb <;> cases hb)) hN
  · exact H.owners.set hl (Ext.refl _ _) (fun b hb h1 h2 => hk b (hout' b hb) (fun e => by rcases e with e | e; exact h1 e; exact h2 e)) hN hnew hb
/-- m put into a name's holders. -/
theorem put_holdN (H : Tab w g S x N) (hNN : N ≤ N') (hN : N' < 4611686018427387904) {nm : ByteArray} {k : LkG} (hl : x.lk nm = some k) (hs : k.cnt + 1 + (S.queue nm).length ≤ N') {o m : Nat} (ho : o < top) (hm : 1 ≤ m ∧ m ≤ 4) :
    ∃ w', (Instr.mapUpdate 66 (.map (some k.hm)) (.int .u64 (o : Int)) (.int .i64 (m : Int))).run Try.prog w = .ok () w' ∧
      Tab w' g { S with hold := upd S.hold nm (upd (S.hold nm) o m) } { x with lk := upd x.lk nm (some { k with cnt := k.cnt + 1 }) } N' ∧ Steps w w' x { x with lk := upd x.lk nm (some { k with cnt := k.cnt + 1 }) } ∧ Turned (fun b => b = k.hm) w w' := by
  have h := H.locks.each nm k hl
  have hf := h.few
  obtain ⟨hm1, hm2⟩ := modes_upd (S.hold nm) o m (by omega)
  obtain ⟨w', hrun, hown, ht⟩ := h.own.put keysU (t := 66) (e := 3) Try.underlying66 (kv := .int .u64 (o : Int)) (v := .int .i64 (m : Int)) (a := o) (d := .lit (.int .i64 (m : Int))) (ps := []) (by unfold maxLen; omega) (hkU ho)
    (plainElem_int Try.underlying3 (WalkArith.wf_i64 (by omega))) (fun _ e => kU_inj e) (kU_key _) hm1 hm2
  have hT : Turned (fun b => x.who b = .lk nm ∨ x.who b = .hm nm ∨ x.who b = .qb nm) w w' := ht.mono (fun b e => by subst e; exact .inr (.inl h.th))
  have hne : ∀ b, x.who b = .lk nm ∨ x.who b = .qb nm → b ≠ k.hm := fun b hb e => by
    rw [e, h.th] at hb
    rcases hb with hb | hb <;> cases hb
  have hr := H.setLockN hNN (k' := { k with cnt := k.cnt + 1 }) (h' := upd (S.hold nm) o m) (q' := S.queue nm) hl hT (Ext.refl _ _) (fun b hb => Nat.lt_of_lt_of_le (H.lt b hb) ht.size) (by
    refine { cells := cells_kept h.cells (ht.block _ (cells_lt h.cells) (hne _ (.inl h.tb))), own := hown, few := hs, le := fun a => ?_, lt := fun a ha => ?_, slc := slc_kept h.slc ht.size (fun b e => ht.block _ (slc_lt h.slc b e) (hne _ (.inr (h.tq b e)))), qs := h.qs, tb := h.tb, th := h.th, tq := h.tq }
    · by_cases e : a = o
      · rw [e, upd_same]; omega
      · rw [upd_other _ _ e]; exact h.le a
    · by_cases e : a = o
      · rw [e]; exact ho
      · rw [upd_other _ _ e] at ha; exact h.lt a ha) rfl
  rw [upd_self] at hr
  exact ⟨w', hrun, hr.1, hr.2, ht⟩
/-- A queue that was changed ahead, put in. -/
theorem set_queueN (H : Tab w g S x N) (hNN : N ≤ N') {nm : ByteArray} {k : LkG} (hl : x.lk nm = some k) {w1 : World} (h1 : Turned (fun b => x.who b = .qb nm) w w1) {qb : Option Nat} {qv : Value} {q : List (Nat × Nat)} (hq : Slc w1 qb 2 qv q.length (qcells q)) (hb : qb = k.qb ∨ qb = Option.none ∨ ∃ b, qb = some b ∧ w.heap.size ≤ b)
    (hqs : ∀ p ∈ q, p.1 < top ∧ 1 ≤ p.2 ∧ p.2 ≤ 4) (hlen : k.cnt + q.length ≤ N') :
    ∃ x', Tab (w1.setCell ⟨k.b, 1, none⟩ qv) g { S with queue := upd S.queue nm q } x' N' ∧ Steps w (w1.setCell ⟨k.b, 1, none⟩ qv) x x' ∧ x'.ow = x.ow ∧ ∃ k', x'.lk = upd x.lk nm (some k') ∧ k'.b = k.b ∧ k'.cnt = k.cnt := by
  have h := H.locks.each nm k hl
  have hT := (h1.mono (E' := fun b => x.who b = .lk nm ∨ x.who b = .hm nm ∨ x.who b = .qb nm) (fun b e => .inr (.inr e))).setCell (p := ⟨k.b, 1, none⟩) (.inl (.inl h.tb)) qv
  have hne : x.who k.b ≠ .qb nm := by rw [h.tb]; simp
  have hkh : k.hm ≠ k.b := fun e => by have := h.th; rw [e, h.tb] at this; cases this
  have hsz : (w1.setCell ⟨k.b, 1, none⟩ qv).heap.size = w1.heap.size := by simp [World.setCell]
  have hqlt := slc_lt hq
  have hnew : ∀ who', Ext w x.who who' → (∀ b, qb = some b → who' b = .qb nm) → LkAt (w1.setCell ⟨k.b, 1, none⟩ qv) who' nm { k with qb := qb, qv := qv } (S.hold nm) q N' := fun who' he hw =>
    { cells := (by have := cells_setCell (o := 1) (v := qv) (cells_kept h.cells (h1.block _ (cells_lt h.cells) hne)); exact this),
      own := h.own.kept (by rw [Below.heap_setCell _ _ _ _ (fun e => hkh e)]; exact h1.block _ h.own.lt (by rw [h.th]; simp)),
      few := hlen, le := h.le, lt := h.lt,
      slc := slc_kept hq (by omega) (fun b e => Below.heap_setCell _ _ _ _ (fun e' => by
        have h2 := hw b e
        rw [show b = k.b from e', he _ (cells_lt h.cells), h.tb] at h2; cases h2)),
      qs := hqs, tb := (he _ (cells_lt h.cells)).trans h.tb, th := (he _ h.own.lt).trans h.th, tq := hw }
  have old : (∀ b, qb = some b → x.who b = .qb nm) → ∃ x', Tab (w1.setCell ⟨k.b, 1, none⟩ qv) g { S with queue := upd S.queue nm q } x' N' ∧ Steps w (w1.setCell ⟨k.b, 1, none⟩ qv) x x' ∧ x'.ow = x.ow ∧ ∃ k', x'.lk = upd x.lk nm (some k') ∧ k'.b = k.b ∧ k'.cnt = k.cnt := fun hw => by
    have hr := H.setLockN hNN (k' := { k with qb := qb, qv := qv }) (h' := S.hold nm) (q' := q) hl hT (Ext.refl _ _) (fun b hb => Nat.lt_of_lt_of_le (H.lt b hb) hT.size) (hnew _ (Ext.refl _ _) hw) rfl
    rw [upd_self] at hr
    exact ⟨_, hr.1, hr.2, rfl, _, rfl, rfl, rfl⟩
  rcases hb with rfl | rfl | ⟨b, rfl, hb⟩
  · exact old h.tq
  · exact old (fun b e => by cases e)
  · have he : Ext w x.who (upd x.who b (.qb nm)) := fun c hc => upd_other _ _ (by omega)
    have hr := H.setLockN hNN (k' := { k with qb := some b, qv := qv }) (h' := S.hold nm) (q' := q) hl hT he (fun c hc => by
      by_cases e : c = b
      · rw [e]; have := hqlt b rfl; omega
      · rw [upd_other _ _ e] at hc; exact Nat.lt_of_lt_of_le (H.lt c hc) hT.size) (hnew _ he (fun c e => by cases e; exact upd_same _ _ _)) rfl
    rw [upd_self] at hr
    exact ⟨_, hr.1, hr.2, rfl, _, rfl, rfl, rfl⟩
/-- What one holds, taken from a name's holders. -/
theorem del_hold (H : Tab w g S x N) {nm : ByteArray} {k : LkG} (hl : x.lk nm = some k) {o : Nat} (ho : o < top) (ty : TypeId) :
    ∃ w', (Builtin.delete_ #[66, 27] ty #[.map (some k.hm), .int .u64 (o : Int)]).run Try.prog w = .ok (.tuple #[]) w' ∧
      Tab w' g { S with hold := upd S.hold nm (upd (S.hold nm) o 0) } x N ∧ Steps w w' x x ∧ Turned (fun b => b = k.hm) w w' := by
  have h := H.locks.each nm k hl
  obtain ⟨w', hrun, hown, ht⟩ := h.own.del keysU (t := 66) (e := 3) Try.underlying66 (kv := .int .u64 (o : Int)) (a := o) (hkU ho) (fun _ e => kU_inj e) ty (f' := modes (upd (S.hold nm) o 0)) (by rw [modes, upd_same]; rfl) (fun a e => by rw [modes, upd_other _ _ e, modes])
  have hT : Turned (fun b => x.who b = .lk nm ∨ x.who b = .hm nm ∨ x.who b = .qb nm) w w' := ht.mono (fun b e => by subst e; exact .inr (.inl h.th))
  have hne : ∀ b, x.who b = .lk nm ∨ x.who b = .qb nm → b ≠ k.hm := fun b hb e => by
    rw [e, h.th] at hb
    rcases hb with hb | hb <;> cases hb
  have hr := H.setLockN (Nat.le_refl N) (k' := k) (h' := upd (S.hold nm) o 0) (q' := S.queue nm) hl hT (Ext.refl _ _) (fun b hb => Nat.lt_of_lt_of_le (H.lt b hb) ht.size) (by
    refine { cells := cells_kept h.cells (ht.block _ (cells_lt h.cells) (hne _ (.inl h.tb))), own := hown, few := h.few, le := fun a => ?_, lt := fun a ha => ?_, slc := slc_kept h.slc ht.size (fun b e => ht.block _ (slc_lt h.slc b e) (hne _ (.inr (h.tq b e)))), qs := h.qs, tb := h.tb, th := h.th, tq := h.tq }
    · by_cases e : a = o
      · rw [e, upd_same]; omega
      · rw [upd_other _ _ e]; exact h.le a
    · by_cases e : a = o
      · rw [e, upd_same] at ha; exact absurd rfl ha
      · rw [upd_other _ _ e] at ha; exact h.lt a ha) rfl
  rw [upd_self, show upd x.lk nm (some k) = x.lk from by rw [← hl]; exact upd_self _ _] at hr
  exact ⟨w', hrun, hr.1, hr.2, ht⟩
/-- What an owner gets that waits for it. -/
theorem put_held_wait (H : Tab w g S x N) (hN : N < 4611686018427387904) {o : Nat} {k : OwG} (hl : x.ow o = some k) (hs : k.cnt + 1 ≤ N) {nm : ByteArray} {m : Nat} (hn : nm.size ≤ maxLen) (hm : 1 ≤ m ∧ m ≤ 4) :
    ∃ w', (Instr.mapUpdate 77 (.map (some k.hm)) (.string nm) (.int .i64 (m : Int))).run Try.prog w = .ok () w' ∧ (w'.cell? ⟨k.b, 1, none⟩).isSome = true ∧ (w'.cell? ⟨k.b, 2, none⟩).isSome = true ∧ (∀ j, w'.frozen? ⟨k.b, j, none⟩ = false) ∧
      ∃ x', Tab ((w'.setCell ⟨k.b, 1, none⟩ (.string ⟨#[]⟩)).setCell ⟨k.b, 2, none⟩ (.int .i64 0)) g { S with held := upd S.held o (upd (S.held o) nm m), waits := upd S.waits o (⟨#[]⟩, 0) } x' N ∧ Steps w ((w'.setCell ⟨k.b, 1, none⟩ (.string ⟨#[]⟩)).setCell ⟨k.b, 2, none⟩ (.int .i64 0)) x x' ∧ x'.lk = x.lk := by
  have h := H.owners.each o k hl
  obtain ⟨hm1, hm2⟩ := modes_upd (S.held o) nm m (by omega)
  obtain ⟨w', hrun, hown, ht⟩ := h.own.put keysS (t := 77) (e := 3) Try.underlying77 (kv := .string nm) (v := .int .i64 (m : Int)) (a := nm) (d := .lit (.int .i64 (m : Int))) (ps := []) (by unfold maxLen; omega) (hkS hn)
    (plainElem_int Try.underlying3 (WalkArith.wf_i64 (by omega))) (fun _ e => kS_inj e) (kS_key _) hm1 hm2
  have hkh : k.hm ≠ k.b := fun e => by have := h.th; rw [e, h.tb] at this; cases this
  have hc := cells_kept h.cells (ht.block _ (cells_lt h.cells) (fun e => hkh e.symm))
  have hT : Turned (fun b => x.who b = .ow o ∨ x.who b = .held o) w ((w'.setCell ⟨k.b, 1, none⟩ (.string ⟨#[]⟩)).setCell ⟨k.b, 2, none⟩ (.int .i64 0)) :=
    ((ht.mono (E' := fun b => x.who b = .ow o ∨ x.who b = .held o) (fun b e => by subst e; exact .inr h.th)).setCell (p := ⟨k.b, 1, none⟩) (.inl (.inl h.tb)) _).setCell (p := ⟨k.b, 2, none⟩) (.inl (.inl h.tb)) _
  have hr := H.setOwnerN (Nat.le_refl N) (k' := { k with cnt := k.cnt + 1 }) (h' := upd (S.held o) nm m) (wt' := (⟨#[]⟩, 0)) hl hT (by
    refine { cells := (by have := cells_setCell (o := 2) (v := .int .i64 0) (cells_setCell (o := 1) (v := .string ⟨#[]⟩) hc); exact this), own := hown.kept (by rw [Below.heap_setCell _ _ _ _ hkh, Below.heap_setCell _ _ _ _ hkh]), few := (by show k.cnt + 1 + (if (0 : Nat) = 0 then 0 else 1) ≤ _; simpa using hs), le := fun a => ?_, lt := fun a ha => ?_, wt := ⟨by decide, by decide⟩, tb := h.tb, th := h.th }
    · by_cases e : a = nm
      · rw [e, upd_same]; omega
      · rw [upd_other _ _ e]; exact h.le a
    · by_cases e : a = nm
      · rw [e]; exact hn
      · rw [upd_other _ _ e] at ha; exact h.lt a ha) rfl
  exact ⟨w', hrun, by rw [cell_of_row _ _ _ _ _ _ hc]; rfl, by rw [cell_of_row _ _ _ _ _ _ hc]; rfl, fun _ => frozen_of_row _ _ _ _ _ hc, _, hr.1, hr.2, rfl⟩
end
set_option maxHeartbeats 2000000 in
/-- A lock is given to one that waits for it. -/
theorem grant_at {w : World} {g : Nat} {S : St} {x : Gh} {N : Nat} (H : Tab w g S x N) (hN : N < 4611686018427387904) {nm : ByteArray} (hn : nm.size ≤ maxLen) {k : LkG} (hk : x.lk nm = some k) (hs : k.cnt + 1 + (S.queue nm).length ≤ N) {o m : Nat} (ho : o < top) (hm : 1 ≤ m ∧ m ≤ 4)
    {kk : OwG} (hw : x.ow o = some kk) (hsw : kk.cnt + 1 ≤ N) :
    Calls Try.prog 31 #[.pointer (some ⟨g, 0, none⟩), .int .u64 (o : Int), .string nm, .int .i64 (m : Int)] w (fun e w' => ∃ x', e = .returned (.tuple #[]) ∧ Tab w' g (granted S o nm m) x' N ∧ Steps w w' x x' ∧ ∃ k', x'.lk = upd x.lk nm (some k') ∧ k'.b = k.b) := by
  have HL := Lib.hid (lock_there H hn hk)
  obtain ⟨w1, hr1, h1, s1, t1⟩ := put_holdN H (Nat.le_refl N) hN hk hs ho hm
  have HW := Lib.hid (owner_there h1 ho hw)
  obtain ⟨k0, k1⟩ := lk_cells (H.locks.each nm k hk)
  obtain ⟨j0, -, -, -⟩ := ow_cells (h1.owners.each o kk hw)
  obtain ⟨w3, hr3, c1, c2, cf, x3, h3, s3, l3⟩ := put_held_wait h1 hN hw hsw hn hm
  obtain ⟨u1, hu1⟩ := Option.isSome_iff_exists.1 c1
  obtain ⟨u2, hu2⟩ := Option.isSome_iff_exists.1 c2
  have cf1 := cf 1; have cf2 := cf 2
  have H3 := Lib.hid h3; have S3 := Lib.hid (s1.trans s3); have L3 := Lib.hid l3
  have hm4 := hm.2
  generalize hR : (fun (e : Ending) (w' : World) => ∃ x', e = .returned (.tuple #[]) ∧ Tab w' g (granted S o nm m) x' N ∧ Steps w w' x x' ∧ ∃ k', x'.lk = upd x.lk nm (some k') ∧ k'.b = k.b) = R
  have HR := Lib.hid hR
  clear H hN hn hk hs ho hm hw hsw h1 s1 t1 k1 h3 s3 l3 c1 c2 cf hR
  go_enter Try.func31, Try.ntmps31
  go_wp2_with (first
    | (go_at_call 29; refine HL.out.mono ?_; rintro e w' ⟨rfl, rfl⟩)
    | (go_at_call 35; refine HW.out.mono ?_; rintro e w' ⟨rfl, rfl⟩))
  go_end0
  rw [← HR.out]
  exact ⟨x3, rfl, H3.out, S3.out, _, L3.out, rfl⟩
end Go.Proofs.Ythanjncpgcmnaaa
