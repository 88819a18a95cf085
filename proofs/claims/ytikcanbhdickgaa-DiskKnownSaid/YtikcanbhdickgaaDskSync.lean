/- All pages become certain: the walk. -/
import Derived.Test.YtikcanbhdickgaaDskWriteW
import Derived.Maps.RangeWalk
namespace Go.Proofs.Ytikcanbhdickgaa
open Go.ChangeShapes Go.WideShapes Go.ChangeAt Go.RowKit

theorem run_clear_own {w : World} {k t e ty : TypeId} {R : Value → Option (DataW Value × List MemPlace)} {b n : Nat} {D : DataW Value} {P : Program} (h : w.ownsMap P k R b n D) (ht : P.underlying t = some (.map k e)) :
    ∃ w', (Builtin.clear_ #[t] ty #[.map (some b)]).run P w = .ok (.tuple #[]) w' ∧ w'.ownsMap P k R b 0 (.map []) ∧ w.grownBy w' (some b) := by
  obtain ⟨es, clock, hb, F, _, _⟩ := h
  refine ⟨Go.ChangeMaps.setBlock w b (.map #[] clock), ?_, ⟨#[], clock, Go.ChangeMaps.heap_setBlock_same hb _, ⟨by simp, ?_, by simp⟩, Nat.le_refl _, rfl⟩, ⟨rfl, rfl, rfl, by simp [Go.ChangeMaps.setBlock], fun i _ hi => Go.ChangeMaps.heap_setBlock_other hb _ (fun e => hi (by rw [e]))⟩⟩
  · simp [Builtin.clear_, run_underlying ht, Go.MapKept.run_getObj_map hb, Go.MapKept.run_setObj_map _ hb, Go.ChangeMaps.setBlock]
  · have h0 := Go.MapKept.stamped_empty clock
    exact h0
theorem wpList_clear_own {P : Program} {w : World} {ops : Array Oper} {rest : List Oper} {o : Oper} {a : Act} {Q : Exit → Act → World → Prop} (hgd : o.guard = none) (m : Operand) (t : TypeId) (ho : o.op = .call { callee := .builtin .clear, args := #[m], argTypes := #[t] })
    {k e : TypeId} {R : Value → Option (DataW Value × List MemPlace)} {b n : Nat} {D : DataW Value} (ht : P.underlying t = some (.map k e)) (hm : a.eval m = .map (some b)) (h : w.ownsMap P k R b n D)
    (hK : ∀ w', w'.ownsMap P k R b 0 (.map []) → w.grownBy w' (some b) → wpList P ops Q rest (a.put o.dst (.tuple #[])) w') : wpList P ops Q (o :: rest) a w := by
  refine wpList_plain hgd fun K' hK' => ?_
  obtain ⟨w', hrun, r1, r2⟩ := run_clear_own (ty := o.type) h ht
  unfold Oper.wp
  simp [execOp, ho, resolve, invoke, builtin, hm, hrun, Result.andThen]
  exact hK' _ _ (hK w' r1 r2)
/-- The pointers to pages, while they are laid. -/
def SureAt (wr : World) (sb : Option Nat) (sv : Value) (np : Nat) (f : Nat → Option Nat) : Prop := Slc wr sb 1 sv np ((List.range np).map fun k => ptr (f k))
theorem sureAt_set {wr : World} {sb off cap np : Nat} {f : Nat → Option Nat} (h : SureAt wr (some sb) (.slice (some ⟨sb, off, none⟩) np cap) np f) {n : Nat} (hn : n < np) (o : Option Nat) : SureAt (wr.setCell ⟨sb, off + n, none⟩ (ptr o)) (some sb) (.slice (some ⟨sb, off, none⟩) np cap) np (fun k => if k = n then o else f k) := by
  obtain ⟨h1, h2, ⟨e, _⟩ | ⟨b, off', cap', e1, e2, hb, hle, hmx, hx, hsp⟩⟩ := h
  · cases e
  · cases e1; cases e2
    refine ⟨by simp, fun u hu => ?_, .inr ⟨_, _, _, rfl, rfl, by simpa [World.setCell] using hb, hle, hmx, fun j u hu => ?_, fun j hj => ?_⟩⟩
    · obtain ⟨k, _, rfl⟩ := List.mem_map.1 hu
      rfl
    · have hj : j < np := by have := (List.getElem?_eq_some_iff.1 hu).1; simpa using this
      rw [List.getElem?_map, List.getElem?_range hj] at hu
      obtain rfl := Option.some.inj hu
      show _ = some (ptr (if j = n then o else f j))
      by_cases e : j = n
      · subst e
        rw [if_pos rfl]
        refine World.cell?_setCell_same' _ _ _ ?_
        exact (hsp j (by omega)).1
      · rw [if_neg e, World.cell?_setCell_other _ _ _ _ (by intro e'; apply e; simp only [Addr.mk.injEq] at e'; omega)]
        exact hx j _ (by rw [List.getElem?_map, List.getElem?_range hj]; rfl)
    · rw [World.frozen?_setCell]
      refine ⟨?_, (hsp j hj).2⟩
      by_cases e : j = n
      · subst e
        rw [World.cell?_setCell_same' _ _ _ (hsp j hj).1]
        rfl
      · rw [World.cell?_setCell_other _ _ _ _ (by intro e'; apply e; simp only [Addr.mk.injEq] at e'; omega)]
        exact (hsp j hj).1
section
variable {w w' : World} {S : Dsk} {x : Gh}
theorem dev_sync (h : Dev w S x) (ht : Turned (fun k => k = x.g ∨ k = x.mb ∨ x.sb = some k) w w')
    (hc : Cells w' x.g 68 #[x.sv, .map (some x.mb), .slice none 0 0, tornV x.T, x.lv, .int .i64 (S.room : Int), .int .i64 (S.kept : Int), x.hv, x.kv, .bool S.fuse.isSome, .int .i64 x.left, .int .i64 (S.ops : Int), .bool S.dead])
    (hm : w'.ownsMap Try.prog 3 asIs x.mb 0 (.map [])) {f : Nat → Option Nat} (hs : SureAt w' x.sb x.sv x.P.length f)
    (hf : ∀ k, k < x.P.length → LeafO w' x.I (f k) (pageNow S k)) :
    Dev w' { S with pages := (List.range S.pages.length).map (pageNow S), wait := [] } { x with P := (List.range x.P.length).map (fun k => (f k, pageNow S k)), wb := none, wv := .slice none 0 0, wl := [], D := .map [], cnt := 0 } := by
  obtain ⟨a1, a2, a3, a4, a5, a6, a7, a8, a9, a10⟩ := h.apart
  have hsz := dev_size h
  have hpl : S.pages.length = x.P.length := by rw [← h.sure.is, List.length_map]
  have hI : ∀ k, x.I k → w'.heap[k]? = w.heap[k]? := fun k hk => ht.block k (h.out k hk).2.2.2.2.2 (fun e => by
    obtain ⟨o1, o2, o3, _⟩ := h.out k hk
    rcases e with e | e | e
    · exact o1 e
    · exact o2 e
    · exact o3 e)
  have hLg : ∀ b, x.lb = some b → w'.heap[b]? = w.heap[b]? := fun b e => ht.block b (hsz b (.inr (.inr (.inr (.inr e))))) (fun e' => by
    rcases e' with e' | e' | e'
    · exact a6 (by rw [e, e'])
    · exact a7 (by rw [e, e'])
    · rcases a9 with a | a
      · rw [a] at e'; cases e'
      · exact a (by rw [e, e']))
  have hT := dtorn_kept h.torn hI
  exact {
    cells := hc
    sure := ⟨by
        have e : ((List.range x.P.length).map (fun k => (f k, pageNow S k))).length = x.P.length := by simp
        rw [e, List.map_map]
        exact hs, fun p hp => by
        obtain ⟨k, hk, rfl⟩ := List.mem_map.1 hp
        exact hf k (List.mem_range.1 hk), by rw [List.map_map, hpl]; rfl, by simpa using h.sure.few⟩
    last := ⟨hm, fun n => rfl, (fun kl hk => by cases hk), Nat.le_refl _⟩
    wait := ⟨slc_nil _ _, (fun y hy => by cases hy), rfl⟩
    torn := ⟨fun t e => by
        obtain ⟨h1, h2, h3, h4, h5⟩ := hT.at' t e
        exact ⟨h1, h2, h3, h4, by simpa using h5⟩, hT.is⟩
    log := dbyte_kept h.log ht.size hLg
    half := dbyte_kept h.half ht.size (fun b e => hI b (h.keptI.1 b e))
    mark := dbyte_kept h.mark ht.size (fun b e => hI b (h.keptI.2 b e))
    keptI := h.keptI
    num := ⟨h.num.1, h.num.2.1, h.num.2.2.1, h.num.2.2.2.1, h.num.2.2.2.2.1, Nat.zero_le _⟩
    left := h.left
    apart := ⟨a1, a2, a3, (fun e => by cases e), (fun e => by cases e), a6, a7, (by
        cases x.sb with
        | none => exact .inl rfl
        | some b => exact .inr (fun e => by cases e)), a9, .inl rfl⟩
    out := fun k hk => by obtain ⟨h1, h2, h3, h4, h5, h6⟩ := h.out k hk; exact ⟨h1, h2, h3, (fun e => by cases e), h5, Nat.lt_of_lt_of_le h6 ht.size⟩ }
end
/-- The pointer to a page, as far as the map has been gone through. -/
def laidPtr (D : DataW Value) (wl : List (Nat × Nat × List Nat)) (P : List (Option Nat × List Nat)) (left : Lit → Bool) (k : Nat) : Option Nat :=
  if Maps.has D (.int .i64 (k : Int)) && !left (.int .i64 (k : Int)) then lastB wl k else (P.getD k (none, [])).1
theorem grown_setCell' (w : World) (a : Addr) (u : Value) : w.grownBy (w.setCell a u) (some a.block) :=
  ⟨rfl, rfl, rfl, by simp [World.setCell], fun k hk hn => Below.heap_setCell _ _ _ _ (fun e => hn (by rw [e]))⟩
theorem asIs_inv {v : Value} {y : DataW Value × List MemPlace} (h : asIs v = some y) : ∃ c, v = .pointer c := by
  cases v <;> first | exact ⟨_, rfl⟩ | cases h
theorem laid_step {D : DataW Value} {wl : List (Nat × Nat × List Nat)} {P : List (Option Nat × List Nat)} {left : Lit → Bool} {n : Nat} (hh : Maps.has D (.int .i64 (n : Int)) = true) (o : Option Nat) (ho : lastB wl n = o) :
    laidPtr D wl P (fun z => left z && !z.sameKey (.int .i64 (n : Int))) = fun k => if k = n then o else laidPtr D wl P left k := by
  funext k
  by_cases e : k = n
  · subst e
    simp [laidPtr, Lit.sameKey, hh, ho]
  · have e' : ¬ ((k : Int) = (n : Int)) := by omega
    simp [laidPtr, Lit.sameKey, e, e']
theorem laid_start {w : World} {I : Nat → Prop} {sb : Option Nat} {sv : Value} {P : List (Option Nat × List Nat)} {pages : List (List Nat)} (h : DSure w I sb sv P pages) (D : DataW Value) (wl : List (Nat × Nat × List Nat)) : SureAt w sb sv P.length (laidPtr D wl P (Maps.has D)) := by
  have e : ((List.range P.length).map fun k => ptr (laidPtr D wl P (Maps.has D) k)) = P.map fun p => ptr p.1 := by
    apply List.ext_getElem
    · simp
    · intro i h1 h2
      have hi : i < P.length := by simpa using h1
      simp [laidPtr, hi, List.getD]
  unfold SureAt
  rw [e]
  exact h.slc
theorem laid_end {w : World} {S : Dsk} {x : Gh} (h : Dev w S x) {left : Lit → Bool} (hl : ∀ kl, left kl = false) {k : Nat} (hk : k < x.P.length) : LeafO w x.I (laidPtr x.D x.wl x.P left k) (pageNow S k) := by
  have hpl : S.pages.length = x.P.length := by rw [← h.sure.is, List.length_map]
  have hpg : S.pages.getD k [] = (x.P.getD k (none, [])).2 := by
    rw [← h.sure.is]; simp [List.getD, hk]
  have hbase : LeafO w x.I (x.P.getD k (none, [])).1 (S.pages.getD k []) := by
    rw [hpg]
    have : x.P.getD k (none, []) = x.P[k] := by simp [List.getD, hk]
    rw [this]
    exact h.sure.leaf _ (List.getElem_mem hk)
  have hw := last_leaf (w := w) (I := x.I) (n := k) (S.pages.getD k []) x.wl (fun y hy => (h.wait.leaf y hy).2)
  rw [h.wait.is] at hw
  have hat := h.last.at' k
  rcases hw with ⟨e1, e2⟩ | ⟨b, e1, e2, e3⟩
  · have hnh : Maps.has x.D (.int .i64 (k : Int)) = false := by
      cases hh : Maps.has x.D (.int .i64 (k : Int))
      · rfl
      · obtain ⟨n, _, e, hs⟩ := h.last.has _ hh
        have : n = k := by simp at e; omega
        subst this
        rw [e1] at hs; cases hs
    have : laidPtr x.D x.wl x.P left k = (x.P.getD k (none, [])).1 := by simp [laidPtr, hnh]
    rw [this, pageNow, e2]
    exact hbase
  · have hh : Maps.has x.D (.int .i64 (k : Int)) = true := by
      cases hh : Maps.has x.D (.int .i64 (k : Int))
      · rw [Go.Maps.atKey_of_not_has hh, e1] at hat
        simp [ptr] at hat
      · rfl
    have : laidPtr x.D x.wl x.P left k = some b := by simp [laidPtr, hh, hl, e1]
    rw [this]
    exact .inr ⟨b, rfl, e2, e3⟩
section
variable {w : World} {S : Dsk} {x : Gh} (h : Dev w S x)
include h
theorem sync_dies (hd : S.dead = false) (hf : S.fuse = some 0) : Calls Try.prog 29 #[.pointer (some ⟨x.g, 0, none⟩)] w (Did w x { S with dead := true } (.int .i64 9)) := by
  have HD := dead_any h
  rw [hd] at HD
  have H := Lib.hid HD
  have HA := Lib.hid (alive_dies h hf)
  generalize hQ : Did w x { S with dead := true } (.int .i64 9) = Q
  have HQ := Lib.hid hQ
  clear HD h hd hf hQ
  go_enter Try.func29, Try.ntmps29
  go_wp2_with (first | (go_at_call 20; refine H.out.mono ?_; rintro e w' ⟨rfl, rfl⟩) | (go_at_call 36; refine HA.out.mono ?_; rintro e w1 ⟨rfl, h1, h2⟩; have H1 := Lib.hid h1; have H2 := Lib.hid h2; clear h1 h2))
  rw [← HQ.out]
  exact did_dead H1.out H2.out _
theorem sync_does (hd : S.dead = false) (hf : S.fuse ≠ some 0) (ho : S.ops < 4611686018427387904) :
    Calls Try.prog 29 #[.pointer (some ⟨x.g, 0, none⟩)] w (Did w x { S with fuse := S.fuse.map (· - 1), ops := S.ops + 1, pages := (List.range S.pages.length).map (pageNow S), wait := [] } (.int .i64 0)) := by
  have HD := dead_any h
  rw [hd] at HD
  have H := Lib.hid HD
  have HA := Lib.hid (alive_lives h hf ho)
  generalize hQ : Did w x { S with fuse := S.fuse.map (· - 1), ops := S.ops + 1, pages := (List.range S.pages.length).map (pageNow S), wait := [] } (.int .i64 0) = Q
  have HQ := Lib.hid hQ
  have h0 := Lib.hid h
  clear HD h hd hf ho hQ
  go_enter Try.func29, Try.ntmps29
  go_wp2_with fail
  refine H.out.mono ?_
  rintro e w' ⟨rfl, rfl⟩
  go_wp2_with fail
  refine HA.out.mono ?_
  rintro e w1 ⟨rfl, ⟨left0, h1⟩, h2⟩
  have H1 := Lib.hid h1; have H2 := Lib.hid h2
  clear h1 h2
  obtain ⟨f0, f1, f2, f3, f4, f5, f6, f7, f8, f9, f10, f11, f12, fz⟩ := row13 H1.out.cells
  clear f0 f2 f3 f4 f5 f6 f7 f8 f9 f10 f11 f12
  go_wp2_with (at_range; refine wpList_range_own _ rfl _ 62 rfl 3 70 keysInt Try.underlying62 _ x.mb x.cnt x.D rfl H1.out.last.own ?_; intro w2 hrg0 hg0 hs0)
  go_frame
  have hsb : ∀ b, x.sb = some b → b < w1.heap.size := fun b e => dev_size H1.out b (.inr (.inr (.inl e)))
  have hT0 : Turned (fun k => x.sb = some k) w1 w2 := ⟨hg0.os, hg0.tape, hg0.output, hg0.size, fun k hk _ => hg0.block k hk (by simp)⟩
  have hS0 : SureAt w2 x.sb x.sv x.P.length (laidPtr x.D x.wl x.P (Maps.has x.D)) := by
    have := laid_start H1.out.sure x.D x.wl
    exact slc_kept this hg0.size (fun b e => hg0.block b (hsb b e) (by simp))
  have HSB := Lib.hid hsb
  obtain ⟨L, hL⟩ : ∃ L, L = x.P.length := ⟨_, rfl⟩
  have hfew : L ≤ 65536 := by rw [hL]; exact h0.out.sure.few
  rw [← hL] at hS0
  have HL := Lib.hid hL; have HR0 := Lib.hid hrg0; have HT0 := Lib.hid hT0; have HS0 := Lib.hid hS0
  clear hrg0 hg0 hs0 hL hT0 hS0 hsb f1 fz
  go_loopw [3, 4] (fun _ _ wr => ∃ (left : Lit → Bool) (cnt : Nat), Hid (wr.ranges Try.prog 3 asIs x.mb w1.heap.size x.cnt x.D left cnt) ∧ Hid (SureAt wr x.sb x.sv L (laidPtr x.D x.wl x.P left)) ∧ Hid (Turned (fun k => x.sb = some k) w1 wr)) (fun _ _ wr => wr.rangeLeft x.mb w1.heap.size)
  case atStart => exact ⟨_, _, HR0, HS0, HT0⟩
  case round =>
    obtain ⟨left, cnt, hr, hs, ht⟩ := hrel
    clear HR0 HS0 HT0
    go_wp2_with (at_next; refine wpList_next_ranges _ rfl _ rfl 3 keysInt asIs (Value.int .i64) Value.pointer (fun key kl hkey => by obtain ⟨x, rfl, _⟩ := Maps.keyOf_int_inv Try.underlying3 hkey; exact ⟨x, rfl⟩) (fun v y hv => asIs_inv hv) x.mb w1.heap.size x.cnt x.D left cnt rfl hr.out ?_ ?_)
    · intro hc0 hl0
      have HL0 := Lib.hid hl0
      clear hc0 hl0
      obtain ⟨f0, f1, f2, f3, f4, f5, f6, f7, f8, f9, f10, f11, f12, fz⟩ := row13 H1.out.cells
      have hgsb : ¬ (x.sb = some x.g) := H1.out.apart.2.1
      have c1 := cell_turned f1 ht.out hgsb
      obtain ⟨w3, hclr, ho3, hg3⟩ := run_clear_own (ty := 0) hr.out.owns Try.underlying62
      have hT : Turned (fun k => k = x.g ∨ k = x.mb ∨ x.sb = some k) w1 w3 := (ht.out.mono (fun k e => .inr (.inr e))).trans ((grown_turned hg3).mono (fun k e => .inr (.inl (Option.some.inj e).symm))) (Grows.refl _ _)
      have hT' : Turned (fun k => k = x.mb ∨ x.sb = some k) w1 w3 := (ht.out.mono (fun k e => .inr e)).trans ((grown_turned hg3).mono (fun k e => .inl (Option.some.inj e).symm)) (Grows.refl _ _)
      have hng : ¬ (x.g = x.mb ∨ x.sb = some x.g) := fun e => by
        rcases e with e | e
        · exact H1.out.apart.1 e
        · exact hgsb e
      have c2 := cell_turned f2 hT' hng
      have fz3 : ∀ j, w3.frozen? ⟨x.g, j, none⟩ = false := fun j => by
        rw [World.frozen?_of_block (a := ⟨x.g, j, none⟩) (hT'.block x.g (dev_size H1.out _ (.inl rfl)) hng)]; exact fz j
      have HC3 := Lib.hid (cells_turned H1.out.cells hT' hng)
      have HT3 := Lib.hid hT; have HO3 := Lib.hid ho3
      have hs3 : SureAt w3 x.sb x.sv L (laidPtr x.D x.wl x.P left) := slc_kept hs.out hg3.size (fun b e => hg3.block b (Nat.lt_of_lt_of_le (HSB.out b e) ht.out.size) (fun e' => by
        have : x.mb = b := (Option.some.inj e').symm
        exact H1.out.apart.2.2.1 (by rw [this]; exact e)))
      have HS3 := Lib.hid hs3
      simp only at c2
      clear f0 f1 f2 f3 f4 f5 f6 f7 f8 f9 f10 f11 f12 hT hT' ho3 hg3 hs3 fz
      go_wp2
      rw [← HQ.out]
      have hTs : Turned (fun k => k = x.g) w3 (w3.setCell ⟨x.g, 2, none⟩ (.slice none 0 0)) := turned_g _
      have hT4 := HT3.out.trans (hTs.mono (E' := fun k => k = x.g ∨ k = x.mb ∨ x.sb = some k) (fun k e => .inl e)) (Grows.refl _ _)
      have hc4 := cells_setCell (o := 2) (v := .slice none 0 0) HC3.out
      have ho4 := HO3.out.kept (grown_setCell' w3 ⟨x.g, 2, none⟩ (.slice none 0 0)) (fun e => H1.out.apart.1 (Option.some.inj e).symm)
      have hs4 := slc_turned HS3.out hTs (fun b e e' => H1.out.apart.2.1 (by rw [← e']; exact e))
      rw [HL.out] at hs4
      have hd := dev_sync H1.out hT4 hc4 ho4 hs4 (fun k hk => leafO_kept (laid_end H1.out HL0.out hk) (fun j hj => hT4.block j (H1.out.out j hj).2.2.2.2.2 (fun e => by
        obtain ⟨o1, o2, o3, _⟩ := H1.out.out j hj
        rcases e with e | e | e
        · exact o1 e
        · exact o2 e
        · exact o3 e)))
      have hE : ∀ k, (k = x.g ∨ k = x.mb ∨ x.sb = some k) → Ex x k := fun k e => by
        rcases e with e | e | e
        · exact .inl e
        · exact .inr (.inl e)
        · exact .inr (.inr (.inl e))
      refine ⟨_, rfl, hd, rfl, (H2.out.mono (fun _ e => .inl e)).trans (hT4.mono hE) (Grows.refl _ _), fun k hk => ?_, fun _ h => .inl h⟩
      rcases hk with hk | hk | hk | hk | hk
      · exact .inl (.inl hk)
      · exact .inl (.inr (.inl hk))
      · exact .inl (.inr (.inr (.inl hk)))
      · cases hk
      · exact .inl (.inr (.inr (.inr (.inr hk))))
    · intro kx c kl y ys wr2 cnt2 hkey hlk hv hat hrg hlt hgr hsz hen
      have hh := Go.Maps.has_true_of_atKey hat
      obtain ⟨n, hn, rfl, -⟩ := h0.out.last.has kl hh
      have hn : n < L := by rw [HL.out]; exact hn
      obtain ⟨kx', e1, e2, -⟩ := Maps.keyOf_int_inv Try.underlying3 hkey
      cases e1; cases e2
      have hy : y = .held (.pointer c) := by cases hv; rfl
      subst hy
      have hco : (lastB x.wl n).map (fun b => (⟨b, 0, none⟩ : Addr)) = c := by
        have e3 := (h0.out.last.at' n).symm.trans (hat _)
        simp only [ptr, DataW.held.injEq, Value.pointer.injEq] at e3
        exact e3
      have hs2 : SureAt wr2 x.sb x.sv L (laidPtr x.D x.wl x.P left) := slc_kept hs.out (by rw [hsz]; exact Nat.le_refl _) (fun b e => hgr.block b (Nat.lt_of_lt_of_le (HSB.out b e) ht.out.size) (fun e' => by have := HSB.out b e; cases e'; exact Nat.lt_irrefl _ this))
      have ht2 : Turned (fun k => x.sb = some k) w1 wr2 := ⟨hgr.os.trans ht.out.os, hgr.tape.trans ht.out.tape, hgr.output.trans ht.out.output, (by rw [hsz]; exact ht.out.size), fun k hk hn => (hgr.block k (Nat.lt_of_lt_of_le hk ht.out.size) (fun e => by cases e; exact Nat.lt_irrefl _ hk)).trans (ht.out.block k hk hn)⟩
      obtain ⟨b, off, cap, e1, e2, hbs, hcap, hcm, hcell⟩ : ∃ b off cap, x.sb = some b ∧ x.sv = .slice (some ⟨b, off, none⟩) L cap ∧ b < w1.heap.size ∧ L ≤ cap ∧ cap ≤ maxLen ∧ ((wr2.cell? ⟨b, off + n, none⟩).isSome = true ∧ wr2.frozen? ⟨b, off + n, none⟩ = false) := by
        obtain ⟨_, _, ⟨_, _, e⟩ | ⟨b, off, cap, e1, e2, hb, h1, h2, _, h3⟩⟩ := hs2
        · omega
        · exact ⟨b, off, cap, e1, e2, HSB.out b e1, h1, h2, h3 n (by omega)⟩
      obtain ⟨hcs, hfr⟩ := hcell
      obtain ⟨old, hold⟩ := Option.isSome_iff_exists.1 hcs
      have hgb : x.g ≠ b := fun e => H1.out.apart.2.1 (by rw [e]; exact e1)
      have hmb : x.mb ≠ b := fun e => H1.out.apart.2.2.1 (by rw [e]; exact e1)
      obtain ⟨f0, -⟩ := row13 H1.out.cells
      simp only at f0
      have c0 := cell_turned f0 ht2 (by rw [e1]; intro e; cases e; exact hgb rfl)
      rw [e2] at c0
      have hs3 := hs2
      rw [e1, e2] at hs3
      have hs4 := sureAt_set hs3 hn (lastB x.wl n)
      have hrg3 := hrg.kept (w' := wr2.setCell ⟨b, off + n, none⟩ (.pointer c)) (row := some b) (grown_setCell' _ _ _) (by intro e; cases e; exact hmb rfl) (by intro e; cases e; exact Nat.lt_irrefl _ hbs)
      have ht3 := ht2.setCell (p := ⟨b, off + n, none⟩) (.inl e1) (.pointer c)
      rw [← laid_step hh _ rfl, ← e1, ← e2, show ptr (lastB x.wl n) = .pointer c by rw [← hco]; rfl] at hs4
      have d1 : decide ((n : Int) < 0) = false := decide_eq_false (by omega)
      have d2 : decide ((L : Int) ≤ n) = false := decide_eq_false (by omega)
      have d3 : decide (L ≤ n) = false := decide_eq_false (by omega)
      have HS4 := Lib.hid hs4; have HR3 := Lib.hid hrg3; have HT3 := Lib.hid ht3; have HLT := Lib.hid (And.intro hlt (And.intro (hrg3.left_eq) hr.out.left_eq))
      clear hs4 hrg3 ht3 hrg hs2 hs3 ht2 hkey hv hat hco hlk hh hgr hsz hlt hcs f0
      go_wp2
      refine ⟨⟨_, cnt2, HR3, HS4, HT3⟩, ?_⟩
      rw [HLT.out.2.1, HLT.out.2.2]
      exact HLT.out.1
end
end Go.Proofs.Ytikcanbhdickgaa
