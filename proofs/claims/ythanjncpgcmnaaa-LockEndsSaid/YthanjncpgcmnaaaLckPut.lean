/- Single steps on a table: a mode put, a queue put, what an owner waits for. -/
import Derived.Test.YthanjncpgcmnaaaLckNew
namespace Go.Proofs.Ythanjncpgcmnaaa
open Go.ChangeShapes Go.WideShapes Go.ChangeAt Go.RowKit

section
variable {w w' : World} {g : Nat} {S : St} {x : Gh} {N : Nat}
/-- What is there beside a lock. -/
theorem Tab.setLock (H : Tab w g S x N) {nm : ByteArray} {k k' : LkG} {h' : Nat → Nat} {q' : List (Nat × Nat)} {who' : Nat → Tag} (hl : x.lk nm = some k) (ht : Turned (fun b => x.who b = .lk nm ∨ x.who b = .hm nm ∨ x.who b = .qb nm) w w') (he : Ext w x.who who')
    (hlt : ∀ b, who' b ≠ .out → b < w'.heap.size) (hnew : LkAt w' who' nm k' h' q' (N + 1)) (hb : k'.b = k.b) :
    Tab w' g { S with hold := upd S.hold nm h', queue := upd S.queue nm q' } { x with who := who', lk := upd x.lk nm (some k') } (N + 1) ∧ Steps w w' x { x with who := who', lk := upd x.lk nm (some k') } := by
  have hk : ∀ b, x.who b ≠ .out → ¬ (x.who b = .lk nm ∨ x.who b = .hm nm ∨ x.who b = .qb nm) → w'.heap[b]? = w.heap[b]? := fun b hb hn => ht.block b (H.lt b hb) hn
  have hout : ∀ b, (x.who b).isL = true → x.who b ≠ .out := fun b hb e => by rw [e] at hb; cases hb
  have hout' : ∀ b, (x.who b).isO = true → x.who b ≠ .out := fun b hb e => by rw [e] at hb; cases hb
  refine ⟨⟨cells_kept H.cells (hk g (by rw [H.tag]; decide) (by rw [H.tag]; simp)), (he g (cells_lt H.cells)).trans H.tag, ?_, ?_, hlt⟩, ⟨rfl, rfl, he, ht.mono (fun b e => by rcases e with e | e | e <;> rw [e] <;> simp)⟩⟩
  · exact H.locks.set hl ht.size he (fun b hb h1 h2 h3 => hk b (hout b hb) (fun e => by rcases e with e | e | e; exact h1 e; exact h2 e; exact h3 e)) (Nat.le_succ _) hnew hb
  · exact H.owners.kept he (fun b hb => hk b (hout' b hb) (fun e => by rcases e with e | e | e <;> rw [e] at hb <;> cases hb)) (Nat.le_succ _)
theorem Tab.setOwner (H : Tab w g S x N) {o : Nat} {k k' : OwG} {h' : ByteArray → Nat} {wt' : ByteArray × Nat} (hl : x.ow o = some k) (ht : Turned (fun b => x.who b = .ow o ∨ x.who b = .held o) w w')
    (hnew : OwAt w' x.who o k' h' wt' (N + 1)) (hb : k'.b = k.b) :
    Tab w' g { S with held := upd S.held o h', waits := upd S.waits o wt' } { x with ow := upd x.ow o (some k') } (N + 1) ∧ Steps w w' x { x with ow := upd x.ow o (some k') } := by
  have hk : ∀ b, x.who b ≠ .out → ¬ (x.who b = .ow o ∨ x.who b = .held o) → w'.heap[b]? = w.heap[b]? := fun b hb hn => ht.block b (H.lt b hb) hn
  have hout : ∀ b, (x.who b).isL = true → x.who b ≠ .out := fun b hb e => by rw [e] at hb; cases hb
  have hout' : ∀ b, (x.who b).isO = true → x.who b ≠ .out := fun b hb e => by rw [e] at hb; cases hb
  refine ⟨⟨cells_kept H.cells (hk g (by rw [H.tag]; decide) (by rw [H.tag]; simp)), H.tag, ?_, ?_, fun b hb => Nat.lt_of_lt_of_le (H.lt b hb) ht.size⟩, ⟨rfl, rfl, Ext.refl _ _, ht.mono (fun b e => by rcases e with e | e <;> rw [e] <;> simp)⟩⟩
  · exact H.locks.kept ht.size (Ext.refl _ _) (fun b hb => hk b (hout b hb) (fun e => by rcases e with e | e <;> rw [e] at hb <;> cases hb)) (Nat.le_succ _)
  · exact H.owners.set hl (Ext.refl _ _) (fun b hb h1 h2 => hk b (hout' b hb) (fun e => by rcases e with e | e; exact h1 e; exact h2 e)) (Nat.le_succ _) hnew hb
theorem upd_self {α β : Type} [DecidableEq α] (f : α → β) (a : α) : upd f a (f a) = f := funext fun y => by
  by_cases e : y = a
  · subst e; exact upd_same _ _ _
  · exact upd_other _ _ e
/-- m put into a name's holders. -/
theorem put_hold (H : Tab w g S x N) (hN : N < 4611686018427387904) {nm : ByteArray} {k : LkG} (hl : x.lk nm = some k) {o m : Nat} (ho : o < top) (hm : 1 ≤ m ∧ m ≤ 4) :
    ∃ w', (Instr.mapUpdate 66 (.map (some k.hm)) (.int .u64 (o : Int)) (.int .i64 (m : Int))).run Try.prog w = .ok () w' ∧
      Tab w' g { S with hold := upd S.hold nm (upd (S.hold nm) o m) } { x with lk := upd x.lk nm (some { k with cnt := k.cnt + 1 }) } (N + 1) ∧ Steps w w' x { x with lk := upd x.lk nm (some { k with cnt := k.cnt + 1 }) } ∧ Turned (fun b => b = k.hm) w w' := by
  have h := H.locks.each nm k hl
  have hf := h.few
  obtain ⟨hm1, hm2⟩ := modes_upd (S.hold nm) o m (by omega)
  obtain ⟨w', hrun, hown, ht⟩ := h.own.put keysU (t := 66) (e := 3) Try.underlying66 (kv := .int .u64 (o : Int)) (v := .int .i64 (m : Int)) (a := o) (d := .lit (.int .i64 (m : Int))) (ps := []) (by unfold maxLen; omega) (hkU ho)
    (plainElem_int Try.underlying3 (WalkArith.wf_i64 (by omega))) (fun _ e => kU_inj e) (kU_key _) hm1 hm2
  have hT : Turned (fun b => x.who b = .lk nm ∨ x.who b = .hm nm ∨ x.who b = .qb nm) w w' := ht.mono (fun b e => by subst e; exact .inr (.inl h.th))
  have hne : ∀ b, x.who b = .lk nm ∨ x.who b = .qb nm → b ≠ k.hm := fun b hb e => by
    rw [e, h.th] at hb
    rcases hb with hb | hb <;> cases hb
  have hr := H.setLock (k' := { k with cnt := k.cnt + 1 }) (h' := upd (S.hold nm) o m) (q' := S.queue nm) hl hT (Ext.refl _ _) (fun b hb => Nat.lt_of_lt_of_le (H.lt b hb) ht.size) (by
    refine { cells := cells_kept h.cells (ht.block _ (cells_lt h.cells) (hne _ (.inl h.tb))), own := hown, few := (by show k.cnt + 1 + _ ≤ _; omega), le := fun a => ?_, lt := fun a ha => ?_, slc := slc_kept h.slc ht.size (fun b e => ht.block _ (slc_lt h.slc b e) (hne _ (.inr (h.tq b e)))), qs := h.qs, tb := h.tb, th := h.th, tq := h.tq }
    · by_cases e : a = o
      · rw [e, upd_same]; omega
      · rw [upd_other _ _ e]; exact h.le a
    · by_cases e : a = o
      · rw [e]; exact ho
      · rw [upd_other _ _ e] at ha; exact h.lt a ha) rfl
  rw [upd_self] at hr
  exact ⟨w', hrun, hr.1, hr.2, ht⟩
/-- m put into what an owner holds. -/
theorem put_held (H : Tab w g S x N) (hN : N < 4611686018427387904) {o : Nat} {k : OwG} (hl : x.ow o = some k) {nm : ByteArray} {m : Nat} (hn : nm.size ≤ maxLen) (hm : 1 ≤ m ∧ m ≤ 4) :
    ∃ w', (Instr.mapUpdate 77 (.map (some k.hm)) (.string nm) (.int .i64 (m : Int))).run Try.prog w = .ok () w' ∧
      Tab w' g { S with held := upd S.held o (upd (S.held o) nm m) } { x with ow := upd x.ow o (some { k with cnt := k.cnt + 1 }) } (N + 1) ∧ Steps w w' x { x with ow := upd x.ow o (some { k with cnt := k.cnt + 1 }) } ∧ Turned (fun b => b = k.hm) w w' := by
  have h := H.owners.each o k hl
  have hf := h.few
  obtain ⟨hm1, hm2⟩ := modes_upd (S.held o) nm m (by omega)
  obtain ⟨w', hrun, hown, ht⟩ := h.own.put keysS (t := 77) (e := 3) Try.underlying77 (kv := .string nm) (v := .int .i64 (m : Int)) (a := nm) (d := .lit (.int .i64 (m : Int))) (ps := []) (by unfold maxLen; omega) (hkS hn)
    (plainElem_int Try.underlying3 (WalkArith.wf_i64 (by omega))) (fun _ e => kS_inj e) (kS_key _) hm1 hm2
  have hT : Turned (fun b => x.who b = .ow o ∨ x.who b = .held o) w w' := ht.mono (fun b e => by subst e; exact .inr h.th)
  have hr := H.setOwner (k' := { k with cnt := k.cnt + 1 }) (h' := upd (S.held o) nm m) (wt' := S.waits o) hl hT (by
    refine { cells := cells_kept h.cells (ht.block _ (cells_lt h.cells) (fun e => by have := h.tb; rw [e, h.th] at this; cases this)), own := hown, few := (by show k.cnt + 1 + _ ≤ _; omega), le := fun a => ?_, lt := fun a ha => ?_, wt := h.wt, tb := h.tb, th := h.th }
    · by_cases e : a = nm
      · rw [e, upd_same]; omega
      · rw [upd_other _ _ e]; exact h.le a
    · by_cases e : a = nm
      · rw [e]; exact hn
      · rw [upd_other _ _ e] at ha; exact h.lt a ha) rfl
  rw [upd_self] at hr
  exact ⟨w', hrun, hr.1, hr.2, ht⟩
/-- What an owner waits for. -/
theorem set_waits (H : Tab w g S x N) {o : Nat} {k : OwG} (hl : x.ow o = some k) {nm : ByteArray} {m : Nat} (hn : nm.size ≤ maxLen) (hm : m ≤ 4) :
    Tab ((w.setCell ⟨k.b, 1, none⟩ (.string nm)).setCell ⟨k.b, 2, none⟩ (.int .i64 (m : Int))) g { S with waits := upd S.waits o (nm, m) } x (N + 1) ∧ Steps w ((w.setCell ⟨k.b, 1, none⟩ (.string nm)).setCell ⟨k.b, 2, none⟩ (.int .i64 (m : Int))) x x := by
  have h := H.owners.each o k hl
  have hf := h.few
  have hT0 : Turned (fun b => b = k.b) w ((w.setCell ⟨k.b, 1, none⟩ (.string nm)).setCell ⟨k.b, 2, none⟩ (.int .i64 (m : Int))) := ((Turned.refl (fun b => b = k.b) w).setCell (p := ⟨k.b, 1, none⟩) (.inl rfl) _).setCell (p := ⟨k.b, 2, none⟩) (.inl rfl) _
  have hT := hT0.mono (E' := fun b => x.who b = .ow o ∨ x.who b = .held o) (fun b e => by subst e; exact .inl h.tb)
  have hr := H.setOwner (k' := k) (h' := S.held o) (wt' := (nm, m)) hl hT
    { cells := (by have := cells_setCell (o := 2) (v := .int .i64 (m : Int)) (cells_setCell (o := 1) (v := .string nm) h.cells); exact this), own := h.own.kept (hT0.block _ h.own.lt (fun e => by have := h.th; rw [e, h.tb] at this; cases this)), few := (by split <;> omega), le := h.le, lt := h.lt, wt := ⟨hn, hm⟩, tb := h.tb, th := h.th } rfl
  rw [upd_self, show upd x.ow o (some k) = x.ow from by rw [← hl]; exact upd_self _ _] at hr
  exact hr
/-- A queue that was changed ahead, put in. -/
theorem set_queue (H : Tab w g S x N) {nm : ByteArray} {k : LkG} (hl : x.lk nm = some k) {w1 : World} (h1 : Turned (fun b => x.who b = .qb nm) w w1) {qb : Option Nat} {qv : Value} {q : List (Nat × Nat)} (hq : Slc w1 qb 2 qv q.length (qcells q)) (hb : qb = k.qb ∨ qb = Option.none ∨ ∃ b, qb = some b ∧ w.heap.size ≤ b)
    (hqs : ∀ p ∈ q, p.1 < top ∧ 1 ≤ p.2 ∧ p.2 ≤ 4) (hlen : q.length ≤ (S.queue nm).length + 1) :
    ∃ x', Tab (w1.setCell ⟨k.b, 1, none⟩ qv) g { S with queue := upd S.queue nm q } x' (N + 1) ∧ Steps w (w1.setCell ⟨k.b, 1, none⟩ qv) x x' ∧ x'.ow = x.ow ∧ ∃ k', x'.lk = upd x.lk nm (some k') ∧ k'.b = k.b := by
  have h := H.locks.each nm k hl
  have hf := h.few
  have hT := (h1.mono (E' := fun b => x.who b = .lk nm ∨ x.who b = .hm nm ∨ x.who b = .qb nm) (fun b e => .inr (.inr e))).setCell (p := ⟨k.b, 1, none⟩) (.inl (.inl h.tb)) qv
  have hne : x.who k.b ≠ .qb nm := by rw [h.tb]; simp
  have hkh : k.hm ≠ k.b := fun e => by have := h.th; rw [e, h.tb] at this; cases this
  have hsz : (w1.setCell ⟨k.b, 1, none⟩ qv).heap.size = w1.heap.size := by simp [World.setCell]
  have hqlt := slc_lt hq
  have hnew : ∀ who', Ext w x.who who' → (∀ b, qb = some b → who' b = .qb nm) → LkAt (w1.setCell ⟨k.b, 1, none⟩ qv) who' nm { k with qb := qb, qv := qv } (S.hold nm) q (N + 1) := fun who' he hw =>
    { cells := (by have := cells_setCell (o := 1) (v := qv) (cells_kept h.cells (h1.block _ (cells_lt h.cells) hne)); exact this),
      own := h.own.kept (by rw [Below.heap_setCell _ _ _ _ (fun e => hkh e)]; exact h1.block _ h.own.lt (by rw [h.th]; simp)),
      few := (by show k.cnt + q.length ≤ _; omega), le := h.le, lt := h.lt,
      slc := slc_kept hq (by omega) (fun b e => Below.heap_setCell _ _ _ _ (fun e' => by
        have h2 := hw b e
        rw [show b = k.b from e', he _ (cells_lt h.cells), h.tb] at h2; cases h2)),
      qs := hqs, tb := (he _ (cells_lt h.cells)).trans h.tb, th := (he _ h.own.lt).trans h.th, tq := hw }
  have old : (∀ b, qb = some b → x.who b = .qb nm) → ∃ x', Tab (w1.setCell ⟨k.b, 1, none⟩ qv) g { S with queue := upd S.queue nm q } x' (N + 1) ∧ Steps w (w1.setCell ⟨k.b, 1, none⟩ qv) x x' ∧ x'.ow = x.ow ∧ ∃ k', x'.lk = upd x.lk nm (some k') ∧ k'.b = k.b := fun hw => by
    have hr := H.setLock (k' := { k with qb := qb, qv := qv }) (h' := S.hold nm) (q' := q) hl hT (Ext.refl _ _) (fun b hb => Nat.lt_of_lt_of_le (H.lt b hb) hT.size) (hnew _ (Ext.refl _ _) hw) rfl
    rw [upd_self] at hr
    exact ⟨_, hr.1, hr.2, rfl, _, rfl, rfl⟩
  rcases hb with rfl | rfl | ⟨b, rfl, hb⟩
  · exact old h.tq
  · exact old (fun b e => by cases e)
  · have he : Ext w x.who (upd x.who b (.qb nm)) := fun c hc => upd_other _ _ (by omega)
    have hr := H.setLock (k' := { k with qb := some b, qv := qv }) (h' := S.hold nm) (q' := q) hl hT he (fun c hc => by
      by_cases e : c = b
      · rw [e]; have := hqlt b rfl; omega
      · rw [upd_other _ _ e] at hc; exact Nat.lt_of_lt_of_le (H.lt c hc) hT.size) (hnew _ he (fun c e => by cases e; exact upd_same _ _ _)) rfl
    rw [upd_self] at hr
    exact ⟨_, hr.1, hr.2, rfl, _, rfl, rfl⟩
end
end Go.Proofs.Ythanjncpgcmnaaa
