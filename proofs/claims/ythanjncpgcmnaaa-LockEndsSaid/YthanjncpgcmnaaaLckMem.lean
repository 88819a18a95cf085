/- Locks: how a table lies in memory. -/
import Derived.Test.YthanjncpgcmnaaaLckMap
namespace Go.Proofs.Ythanjncpgcmnaaa
open Go.ChangeShapes Go.WideShapes Go.ChangeAt Go.RowKit

/-- Whose a block is. -/
inductive Tag where
  | out | tab | lm | om
  | lk (n : ByteArray) | hm (n : ByteArray) | qb (n : ByteArray)
  | ow (o : Nat) | held (o : Nat)
deriving DecidableEq
def Tag.isL : Tag → Bool
  | .lm | .lk _ | .hm _ | .qb _ => true
  | _ => false
def Tag.isO : Tag → Bool
  | .om | .ow _ | .held _ => true
  | _ => false
structure LkG where
  b : Nat
  hm : Nat
  cnt : Nat
  qb : Option Nat
  qv : Value
structure OwG where
  b : Nat
  hm : Nat
  cnt : Nat
abbrev top : Nat := 18446744073709551616
/-- Modes, by owners or by names; 0: none. -/
def modes {α : Type} (h : α → Nat) (a : α) : Option (DataW Value) := if h a = 0 then none else some (.lit (.int .i64 (h a : Int)))
def qcells (q : List (Nat × Nat)) : List Value := q.flatMap fun p => [.int .u64 (p.1 : Int), .int .i64 (p.2 : Int)]
structure LkAt (w : World) (who : Nat → Tag) (nm : ByteArray) (k : LkG) (h : Nat → Nat) (q : List (Nat × Nat)) (N : Nat) : Prop where
  cells : Cells w k.b 69 #[.map (some k.hm), k.qv]
  own : MapAt w 27 (plainElem Try.prog 3) k.hm k.cnt kU (· < top) (modes h)
  few : k.cnt + q.length ≤ N
  le : ∀ o, h o ≤ 4
  lt : ∀ o, h o ≠ 0 → o < top
  slc : Slc w k.qb 2 k.qv q.length (qcells q)
  qs : ∀ p ∈ q, p.1 < top ∧ 1 ≤ p.2 ∧ p.2 ≤ 4
  tb : who k.b = .lk nm
  th : who k.hm = .hm nm
  tq : ∀ b, k.qb = some b → who b = .qb nm
structure Locks (w : World) (who : Nat → Tag) (lm : Nat) (hold : ByteArray → Nat → Nat) (queue : ByteArray → List (Nat × Nat)) (lk : ByteArray → Option LkG) (N : Nat) : Prop where
  own : MapAt w 9 asIs lm N kS (·.size ≤ maxLen) (fun nm => (lk nm).map fun k => .held (ptr (some k.b)))
  tag : who lm = .lm
  none : ∀ nm, lk nm = none → (∀ o, hold nm o = 0) ∧ queue nm = []
  each : ∀ nm k, lk nm = some k → LkAt w who nm k (hold nm) (queue nm) N
structure OwAt (w : World) (who : Nat → Tag) (o : Nat) (k : OwG) (h : ByteArray → Nat) (wt : ByteArray × Nat) (N : Nat) : Prop where
  cells : Cells w k.b 79 #[.map (some k.hm), .string wt.1, .int .i64 (wt.2 : Int)]
  own : MapAt w 9 (plainElem Try.prog 3) k.hm k.cnt kS (·.size ≤ maxLen) (modes h)
  few : k.cnt + (if wt.2 = 0 then 0 else 1) ≤ N
  le : ∀ n, h n ≤ 4
  lt : ∀ n, h n ≠ 0 → n.size ≤ maxLen
  wt : wt.1.size ≤ maxLen ∧ wt.2 ≤ 4
  tb : who k.b = .ow o
  th : who k.hm = .held o
structure Owners (w : World) (who : Nat → Tag) (om : Nat) (held : Nat → ByteArray → Nat) (waits : Nat → ByteArray × Nat) (ow : Nat → Option OwG) (N : Nat) : Prop where
  own : MapAt w 27 asIs om N kU (· < top) (fun o => (ow o).map fun k => .held (ptr (some k.b)))
  tag : who om = .om
  none : ∀ o, ow o = none → (∀ n, held o n = 0) ∧ waits o = (⟨#[]⟩, 0)
  each : ∀ o k, ow o = some k → OwAt w who o k (held o) (waits o) N

/-- What a table holds. -/
structure St where
  hold : ByteArray → Nat → Nat
  queue : ByteArray → List (Nat × Nat)
  held : Nat → ByteArray → Nat
  waits : Nat → ByteArray × Nat
structure Gh where
  lm : Nat
  om : Nat
  who : Nat → Tag
  lk : ByteArray → Option LkG
  ow : Nat → Option OwG
structure Tab (w : World) (g : Nat) (S : St) (x : Gh) (N : Nat) : Prop where
  cells : Cells w g 60 #[.map (some x.lm), .map (some x.om)]
  tag : x.who g = .tab
  locks : Locks w x.who x.lm S.hold S.queue x.lk N
  owners : Owners w x.who x.om S.held S.waits x.ow N
  lt : ∀ b, x.who b ≠ .out → b < w.heap.size
/-- Blocks that were there stay whose they are. -/
def Ext (w : World) (who who' : Nat → Tag) : Prop := ∀ b, b < w.heap.size → who' b = who b
theorem Ext.refl (w : World) (who : Nat → Tag) : Ext w who who := fun _ _ => rfl
theorem Ext.trans {w w' : World} {a b c : Nat → Tag} (h : Ext w a b) (k : Ext w' b c) (hs : w.heap.size ≤ w'.heap.size) : Ext w a c := fun i hi => (k i (Nat.lt_of_lt_of_le hi hs)).trans (h i hi)
theorem cells_lt {w : World} {g : Nat} {t : TypeId} {cs : Array Value} (h : Cells w g t cs) : g < w.heap.size := (Array.getElem?_eq_some_iff.1 h).1
theorem cells_kept {w w' : World} {g : Nat} {t : TypeId} {cs : Array Value} (h : Cells w g t cs) (hk : w'.heap[g]? = w.heap[g]?) : Cells w' g t cs := hk.trans h

section
variable {w w' : World} {who who' : Nat → Tag} {N N' : Nat}
theorem lkAt_kept {nm : ByteArray} {k : LkG} {h : Nat → Nat} {q : List (Nat × Nat)} (H : LkAt w who nm k h q N) (hs : w.heap.size ≤ w'.heap.size) (he : Ext w who who') (hk : ∀ b, who b = .lk nm ∨ who b = .hm nm ∨ who b = .qb nm → w'.heap[b]? = w.heap[b]?) (hN : N ≤ N') : LkAt w' who' nm k h q N' where
  cells := cells_kept H.cells (hk _ (.inl H.tb))
  own := H.own.kept (hk _ (.inr (.inl H.th)))
  few := Nat.le_trans H.few hN
  le := H.le
  lt := H.lt
  slc := slc_kept H.slc hs (fun b e => hk b (.inr (.inr (H.tq b e))))
  qs := H.qs
  tb := (he _ (cells_lt H.cells)).trans H.tb
  th := (he _ H.own.lt).trans H.th
  tq := fun b e => (he _ (slc_lt H.slc b e)).trans (H.tq b e)
theorem owAt_kept {o : Nat} {k : OwG} {h : ByteArray → Nat} {wt : ByteArray × Nat} (H : OwAt w who o k h wt N) (he : Ext w who who') (hk : ∀ b, who b = .ow o ∨ who b = .held o → w'.heap[b]? = w.heap[b]?) (hN : N ≤ N') : OwAt w' who' o k h wt N' where
  cells := cells_kept H.cells (hk _ (.inl H.tb))
  own := H.own.kept (hk _ (.inr H.th))
  few := Nat.le_trans H.few hN
  le := H.le
  lt := H.lt
  wt := H.wt
  tb := (he _ (cells_lt H.cells)).trans H.tb
  th := (he _ H.own.lt).trans H.th
theorem Locks.kept {lm : Nat} {hold : ByteArray → Nat → Nat} {queue : ByteArray → List (Nat × Nat)} {lk : ByteArray → Option LkG} (H : Locks w who lm hold queue lk N) (hs : w.heap.size ≤ w'.heap.size) (he : Ext w who who') (hk : ∀ b, (who b).isL = true → w'.heap[b]? = w.heap[b]?) (hN : N ≤ N') : Locks w' who' lm hold queue lk N' where
  own := (H.own.kept (hk _ (by rw [H.tag]; rfl))).mono hN
  tag := (he _ H.own.lt).trans H.tag
  none := H.none
  each := fun nm k e => lkAt_kept (H.each nm k e) hs he (fun b hb => hk b (by rcases hb with hb | hb | hb <;> rw [hb] <;> rfl)) hN
theorem Owners.kept {om : Nat} {held : Nat → ByteArray → Nat} {waits : Nat → ByteArray × Nat} {ow : Nat → Option OwG} (H : Owners w who om held waits ow N) (he : Ext w who who') (hk : ∀ b, (who b).isO = true → w'.heap[b]? = w.heap[b]?) (hN : N ≤ N') : Owners w' who' om held waits ow N' where
  own := (H.own.kept (hk _ (by rw [H.tag]; rfl))).mono hN
  tag := (he _ H.own.lt).trans H.tag
  none := H.none
  each := fun nm k e => owAt_kept (H.each nm k e) he (fun b hb => hk b (by rcases hb with hb | hb <;> rw [hb] <;> rfl)) hN
theorem Tab.kept {g : Nat} {S : St} {x : Gh} (H : Tab w g S x N) (hs : w.heap.size ≤ w'.heap.size) (hk : ∀ b, b < w.heap.size → x.who b ≠ .out → w'.heap[b]? = w.heap[b]?) (hN : N ≤ N') : Tab w' g S x N' where
  cells := cells_kept H.cells (hk _ (cells_lt H.cells) (by rw [H.tag]; decide))
  tag := H.tag
  locks := H.locks.kept hs (Ext.refl _ _) (fun b hb => have h : x.who b ≠ .out := fun e => by rw [e] at hb; cases hb
    hk b (H.lt b h) h) hN
  owners := H.owners.kept (Ext.refl _ _) (fun b hb => have h : x.who b ≠ .out := fun e => by rw [e] at hb; cases hb
    hk b (H.lt b h) h) hN
  lt := fun b hb => Nat.lt_of_lt_of_le (H.lt b hb) hs
theorem Tab.below {g : Nat} {S : St} {x : Gh} (H : Tab w g S x N) (hb : Below w.heap.size w w') : Tab w' g S x N := H.kept hb.size (fun b hl _ => hb.block b hl) (Nat.le_refl _)
theorem Tab.turned {g : Nat} {S : St} {x : Gh} {E : Nat → Prop} (H : Tab w g S x N) (ht : Turned E w w') (hE : ∀ b, E b → x.who b = .out) : Tab w' g S x N := H.kept ht.size (fun b hl h => ht.block b hl (fun e => h (hE b e))) (Nat.le_refl _)
end
theorem ret_bool {a b : Bool} (h : a = b) : Ending.returned (.bool a) = .returned (.bool b) := by rw [h]
def upd {α β : Type} [DecidableEq α] (f : α → β) (a : α) (b : β) (x : α) : β := if x = a then b else f x
@[simp] theorem upd_same {α β : Type} [DecidableEq α] (f : α → β) (a : α) (b : β) : upd f a b a = b := if_pos rfl
theorem upd_other {α β : Type} [DecidableEq α] (f : α → β) {a x : α} (b : β) (h : x ≠ a) : upd f a b x = f x := if_neg h
theorem modes_upd {α : Type} [DecidableEq α] (h : α → Nat) (a : α) (m : Nat) (hm : m ≠ 0) : modes (upd h a m) a = some (.lit (.int .i64 (m : Int))) ∧ ∀ a', a' ≠ a → modes (upd h a m) a' = modes h a' := by
  refine ⟨by rw [modes, upd_same, if_neg hm], fun a' e => ?_⟩
  rw [modes, upd_other h m e, modes]
section
variable {w w' : World} {who who' : Nat → Tag} {N N' : Nat}
/-- One lock is changed. -/
theorem Locks.set {lm : Nat} {hold : ByteArray → Nat → Nat} {queue : ByteArray → List (Nat × Nat)} {lk : ByteArray → Option LkG} (H : Locks w who lm hold queue lk N) {nm : ByteArray} {k k' : LkG} {h' : Nat → Nat} {q' : List (Nat × Nat)} (hl : lk nm = some k)
    (hs : w.heap.size ≤ w'.heap.size) (he : Ext w who who') (hk : ∀ b, (who b).isL = true → who b ≠ .lk nm → who b ≠ .hm nm → who b ≠ .qb nm → w'.heap[b]? = w.heap[b]?) (hN : N ≤ N') (hnew : LkAt w' who' nm k' h' q' N') (hb : k'.b = k.b) :
    Locks w' who' lm (upd hold nm h') (upd queue nm q') (upd lk nm (some k')) N' where
  own := by
    refine ((H.own.kept (hk _ (by rw [H.tag]; rfl) (by rw [H.tag]; simp) (by rw [H.tag]; simp) (by rw [H.tag]; simp))).mono hN).congr (fun a _ => ?_)
    by_cases e : a = nm
    · subst e; rw [upd_same, hl, Option.map_some, Option.map_some, hb]
    · rw [upd_other lk _ e]
  tag := (he _ H.own.lt).trans H.tag
  none := fun n e => by
    by_cases e' : n = nm
    · subst e'; rw [upd_same] at e; cases e
    · rw [upd_other lk _ e'] at e
      rw [upd_other hold _ e', upd_other queue _ e']
      exact H.none n e
  each := fun n kk e => by
    by_cases e' : n = nm
    · subst e'; rw [upd_same] at e; cases e; rw [upd_same, upd_same]; exact hnew
    · rw [upd_other lk _ e'] at e
      rw [upd_other hold _ e', upd_other queue _ e']
      exact lkAt_kept (H.each n kk e) hs he (fun b hb => hk b (by rcases hb with hb | hb | hb <;> rw [hb] <;> rfl) (by rcases hb with hb | hb | hb <;> rw [hb] <;> simp [e']) (by rcases hb with hb | hb | hb <;> rw [hb] <;> simp [e']) (by rcases hb with hb | hb | hb <;> rw [hb] <;> simp [e'])) hN
/-- A lock that is new. -/
theorem Locks.new {lm : Nat} {hold : ByteArray → Nat → Nat} {queue : ByteArray → List (Nat × Nat)} {lk : ByteArray → Option LkG} (H : Locks w who lm hold queue lk N) {nm : ByteArray} {k' : LkG} (hl : lk nm = Option.none)
    (hs : w.heap.size ≤ w'.heap.size) (he : Ext w who who') (hk : ∀ b, (who b).isL = true → who b ≠ .lm → w'.heap[b]? = w.heap[b]?) (hN : N ≤ N') (hnew : LkAt w' who' nm k' (fun _ => 0) [] N')
    (hown : MapAt w' 9 asIs lm N' kS (·.size ≤ maxLen) (upd (fun nm => (lk nm).map fun k => .held (ptr (some k.b))) nm (some (.held (ptr (some k'.b)))))) : Locks w' who' lm hold queue (upd lk nm (some k')) N' where
  own := hown.congr (fun a _ => by
    by_cases e : a = nm
    · subst e; rw [upd_same, upd_same, Option.map_some]
    · rw [upd_other lk _ e, upd_other _ _ e])
  tag := (he _ H.own.lt).trans H.tag
  none := fun n e => by
    by_cases e' : n = nm
    · subst e'; rw [upd_same] at e; cases e
    · rw [upd_other lk _ e'] at e
      exact H.none n e
  each := fun n kk e => by
    by_cases e' : n = nm
    · subst e'
      rw [upd_same] at e; cases e
      obtain ⟨h1, h2⟩ := H.none n hl
      rw [h2, show hold n = fun _ => 0 from funext h1]
      exact hnew
    · rw [upd_other lk _ e'] at e
      exact lkAt_kept (H.each n kk e) hs he (fun b hb => hk b (by rcases hb with hb | hb | hb <;> rw [hb] <;> rfl) (by rcases hb with hb | hb | hb <;> rw [hb] <;> simp)) hN
/-- One owner is changed. -/
theorem Owners.set {om : Nat} {held : Nat → ByteArray → Nat} {waits : Nat → ByteArray × Nat} {ow : Nat → Option OwG} (H : Owners w who om held waits ow N) {o : Nat} {k k' : OwG} {h' : ByteArray → Nat} {wt' : ByteArray × Nat} (hl : ow o = some k)
    (he : Ext w who who') (hk : ∀ b, (who b).isO = true → who b ≠ .ow o → who b ≠ .held o → w'.heap[b]? = w.heap[b]?) (hN : N ≤ N') (hnew : OwAt w' who' o k' h' wt' N') (hb : k'.b = k.b) :
    Owners w' who' om (upd held o h') (upd waits o wt') (upd ow o (some k')) N' where
  own := by
    refine ((H.own.kept (hk _ (by rw [H.tag]; rfl) (by rw [H.tag]; simp) (by rw [H.tag]; simp))).mono hN).congr (fun a _ => ?_)
    by_cases e : a = o
    · subst e; rw [upd_same, hl, Option.map_some, Option.map_some, hb]
    · rw [upd_other ow _ e]
  tag := (he _ H.own.lt).trans H.tag
  none := fun n e => by
    by_cases e' : n = o
    · subst e'; rw [upd_same] at e; cases e
    · rw [upd_other ow _ e'] at e
      rw [upd_other held _ e', upd_other waits _ e']
      exact H.none n e
  each := fun n kk e => by
    by_cases e' : n = o
    · subst e'; rw [upd_same] at e; cases e; rw [upd_same, upd_same]; exact hnew
    · rw [upd_other ow _ e'] at e
      rw [upd_other held _ e', upd_other waits _ e']
      exact owAt_kept (H.each n kk e) he (fun b hb => hk b (by rcases hb with hb | hb <;> rw [hb] <;> rfl) (by rcases hb with hb | hb <;> rw [hb] <;> simp [e']) (by rcases hb with hb | hb <;> rw [hb] <;> simp [e'])) hN
/-- An owner that is new. -/
theorem Owners.new {om : Nat} {held : Nat → ByteArray → Nat} {waits : Nat → ByteArray × Nat} {ow : Nat → Option OwG} (H : Owners w who om held waits ow N) {o : Nat} {k' : OwG} (hl : ow o = Option.none)
    (he : Ext w who who') (hk : ∀ b, (who b).isO = true → who b ≠ .om → w'.heap[b]? = w.heap[b]?) (hN : N ≤ N') (hnew : OwAt w' who' o k' (fun _ => 0) (⟨#[]⟩, 0) N')
    (hown : MapAt w' 27 asIs om N' kU (· < top) (upd (fun o => (ow o).map fun k => .held (ptr (some k.b))) o (some (.held (ptr (some k'.b)))))) : Owners w' who' om held waits (upd ow o (some k')) N' where
  own := hown.congr (fun a _ => by
    by_cases e : a = o
    · subst e; rw [upd_same, upd_same, Option.map_some]
    · rw [upd_other ow _ e, upd_other _ _ e])
  tag := (he _ H.own.lt).trans H.tag
  none := fun n e => by
    by_cases e' : n = o
    · subst e'; rw [upd_same] at e; cases e
    · rw [upd_other ow _ e'] at e
      exact H.none n e
  each := fun n kk e => by
    by_cases e' : n = o
    · subst e'
      rw [upd_same] at e; cases e
      obtain ⟨h1, h2⟩ := H.none n hl
      rw [h2, show held n = fun _ => 0 from funext h1]
      exact hnew
    · rw [upd_other ow _ e'] at e
      exact owAt_kept (H.each n kk e) he (fun b hb => hk b (by rcases hb with hb | hb <;> rw [hb] <;> rfl) (by rcases hb with hb | hb <;> rw [hb] <;> simp)) hN
end
end Go.Proofs.Ythanjncpgcmnaaa
