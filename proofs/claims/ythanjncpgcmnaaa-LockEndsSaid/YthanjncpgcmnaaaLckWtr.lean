/- All that wait for one, or for others that do. -/
import Derived.Test.YthanjncpgcmnaaaLckDfs
import Derived.Test.YthanjncpgcmnaaaLckTight
import Derived.RegionTactic
import Derived.Laws.EntriesVeiled
namespace Go.Proofs.Ythanjncpgcmnaaa
open Go.ChangeShapes Go.WideShapes Go.ChangeAt Go.RowKit

/-- A map of rows of numbers that is being made; none of its rows lies in a block of No. -/
structure GroX (W w : World) (mA n : Nat) (L : Nat → List Nat) (No : Nat → Prop) (f : Nat → Option (DataW Value)) (bo : Nat → Option Nat) (v : Nat → Value) : Prop where
  map : MapAt w 27 asV mA n kU (· < top) f
  val : ∀ a, f a = some (.held (v a)) ∨ (f a = none ∧ v a = .slice none 0 0)
  row : ∀ a, Slc w (bo a) 1 (v a) (L a).length (u64s (L a))
  lo : ∀ a b, bo a = some b → W.heap.size ≤ b ∧ ¬ No b
  apart : ∀ a a', a ≠ a' → ∀ b, bo a = some b → bo a' ≠ some b
  mno : No mA
  mlo : W.heap.size ≤ mA
theorem grox_look {W w : World} {mA n : Nat} {L : Nat → List Nat} {No : Nat → Prop} {f : Nat → Option (DataW Value)} {bo : Nat → Option Nat} {v : Nat → Value} (h : GroX W w mA n L No f bo v) {a : Nat} (ha : a < top) :
    (Instr.lookup 126 (.map (some mA)) (.int .u64 (a : Int)) false).run Try.prog w = .ok (v a) w := by
  obtain ⟨u, ps, hr, hv⟩ := h.map.look keysU Try.underlying126 (zeroR w) (zd := .held (.slice none 0 0)) (zp := []) rfl (a := a) ha (hkU ha)
  have e : u = v a := by
    unfold asV at hv
    rcases h.val a with h | ⟨h, h'⟩
    · rw [h] at hv; simp at hv; exact hv.1
    · rw [h] at hv; simp at hv; rw [h']; exact hv.1
  rw [hr, e]
theorem grox_turned {W w w' : World} {mA n : Nat} {L : Nat → List Nat} {No : Nat → Prop} {f : Nat → Option (DataW Value)} {bo : Nat → Option Nat} {v : Nat → Value} (h : GroX W w mA n L No f bo v) {E : Nat → Prop} (ht : Turned E w w') (hE : ∀ b, E b → No b ∧ b ≠ mA) : GroX W w' mA n L No f bo v :=
  ⟨h.map.kept (ht.block _ h.map.lt (fun e => (hE _ e).2 rfl)), h.val, fun a => slc_turned (h.row a) ht (fun b e e' => (h.lo a b e).2 (hE b e').1), h.lo, h.apart, h.mno, h.mlo⟩
theorem grox_put {W w w1 w5 : World} {mA n : Nat} {L : Nat → List Nat} {No : Nat → Prop} {f : Nat → Option (DataW Value)} {bo : Nat → Option Nat} {v : Nat → Value} (h : GroX W w mA n L No f bo v) (hn : n < maxLen) {u y : Nat} (hu : u < top) (hb : Below w.heap.size w w1) {bo' : Option Nat} {v' : Value} {r : Nat}
    (h1 : Slc w5 bo' 1 v' r (u64s (L u) ++ u64s [y])) (hr : r = (L u).length + 1) (h2 : Turned (fun k => bo u = some k) w1 w5) (h3 : bo' = bo u ∨ bo' = some w1.heap.size) (hNo : ∀ b, No b → b < w1.heap.size) (hW : W.heap.size ≤ w1.heap.size) :
    ∃ w6, (Instr.mapUpdate 126 (.map (some mA)) (.int .u64 (u : Int)) v').run Try.prog w5 = .ok () w6 ∧ GroX W w6 mA (n + 1) (upd L u (L u ++ [y])) No (upd f u (some (.held v'))) (upd bo u bo') (upd v u v') ∧ Turned (fun b => bo u = some b ∨ b = mA) w w6 := by
  subst hr
  have ht : Turned (fun k => bo u = some k) w w5 := (Turned.of_below hb).trans h2 (Grows.refl _ _)
  have hm5 := h.map.kept (ht.block _ h.map.lt (fun e => (h.lo u _ e).2 h.mno))
  obtain ⟨w6, hrun, hm6, ht6⟩ := hm5.put keysU Try.underlying126 hn (hkU hu) (v := v') (d := .held v') (ps := []) rfl (fun _ e => kU_inj e) (kU_key _) (f' := upd f u (some (.held v'))) (upd_same _ _ _) (fun a' e => upd_other _ _ e)
  have hrow : ∀ a, a ≠ u → Slc w5 (bo a) 1 (v a) (L a).length (u64s (L a)) := fun a e => slc_turned (h.row a) ht (fun b e1 e2 => h.apart a u e b e1 e2)
  have hlo' : ∀ b, bo' = some b → W.heap.size ≤ b ∧ ¬ No b := fun b e => by
    rcases h3 with h3 | h3
    · exact h.lo u b (h3 ▸ e)
    · rw [h3] at e; cases e; exact ⟨hW, fun h => Nat.lt_irrefl _ (hNo _ h)⟩
  refine ⟨w6, hrun, ⟨hm6, fun a => ?_, fun a => ?_, fun a b e => ?_, fun a a' hne b e e' => ?_, h.mno, h.mlo⟩, ?_⟩
  · by_cases e : a = u
    · subst e; rw [upd_same, upd_same]; exact .inl rfl
    · rw [upd_other _ _ e, upd_other _ _ e]; exact h.val a
  · by_cases e : a = u
    · subst e
      rw [upd_same, upd_same, upd_same, List.length_append, show u64s (L a ++ [y]) = u64s (L a) ++ u64s [y] from List.map_append]
      exact slc_turned h1 ht6 (fun b e e' => (hlo' b e).2 (e' ▸ h.mno))
    · rw [upd_other _ _ e, upd_other _ _ e, upd_other _ _ e]
      exact slc_turned (hrow a e) ht6 (fun b e1 e2 => (h.lo a b e1).2 (e2 ▸ h.mno))
  · by_cases e1 : a = u
    · subst e1; rw [upd_same] at e; exact hlo' b e
    · rw [upd_other _ _ e1] at e; exact h.lo a b e
  · have key : ∀ c, c ≠ u → bo c = some b → bo' = some b → False := fun c hc hcb hb' => by
      rcases h3 with h3 | h3
      · exact h.apart c u hc b hcb (h3 ▸ hb')
      · rw [h3] at hb'; cases hb'
        have := slc_lt (h.row c) _ hcb
        have := hb.size; omega
    by_cases e1 : a = u
    · subst e1
      rw [upd_same] at e
      rw [upd_other _ _ (fun h => hne h.symm)] at e'
      exact key a' (fun h => hne h.symm) e' e
    · rw [upd_other _ _ e1] at e
      by_cases e2 : a' = u
      · subst e2; rw [upd_same] at e'; exact key a e1 e e'
      · rw [upd_other _ _ e2] at e'; exact h.apart a a' hne b e e'
  · exact (ht.mono (fun b e => .inl e)).trans (ht6.mono (fun b e => .inr e)) (Grows.refl _ _)
theorem grox_reno {W w : World} {mA n : Nat} {L : Nat → List Nat} {No No' : Nat → Prop} {f : Nat → Option (DataW Value)} {bo : Nat → Option Nat} {v : Nat → Value} (h : GroX W w mA n L No f bo v) (hn : ∀ a b, bo a = some b → ¬ No' b) (hm : No' mA) : GroX W w mA n L No' f bo v :=
  ⟨h.map, h.val, h.row, fun a b e => ⟨(h.lo a b e).1, hn a b e⟩, h.apart, hm, h.mlo⟩
/-- A map of rows that is being made; its keys are of V. -/
structure Gro (W w : World) (mA ca : Nat) (V : List Nat) (L : Nat → List Nat) (No : Nat → Prop) : Prop where
  ex : ∃ f bo v, GroX W w mA V.length L No f bo v ∧ ∀ a, a < top → f a ≠ none → a ∈ V
  cell : w.cell? ⟨ca, 0, none⟩ = some (.map (some mA))
  below : Below W.heap.size W w
theorem gro_turned {W w w' : World} {mA ca : Nat} {V : List Nat} {L : Nat → List Nat} {No : Nat → Prop} (h : Gro W w mA ca V L No) {E : Nat → Prop} (ht : Turned E w w') (hE : ∀ b, E b → No b ∧ b ≠ mA ∧ b ≠ ca ∧ W.heap.size ≤ b) : Gro W w' mA ca V L No := by
  obtain ⟨f, bo, v, hx, hd⟩ := h.ex
  exact ⟨⟨f, bo, v, grox_turned hx ht (fun b e => ⟨(hE b e).1, (hE b e).2.1⟩), hd⟩, cell_turned h.cell ht (fun e => (hE _ e).2.2.1 rfl), Turned.to_below h.below ht (fun b e => (hE b e).2.2.2) h.below.size⟩
theorem gro_below {W w w' : World} {mA ca : Nat} {V : List Nat} {L : Nat → List Nat} {No : Nat → Prop} (h : Gro W w mA ca V L No) (hb : Below w.heap.size w w') : Gro W w' mA ca V L No :=
  gro_turned h (E := fun _ => False) ⟨hb.os, hb.tape, hb.output, hb.size, fun b h1 _ => hb.block b h1⟩ (fun _ e => e.elim)
theorem gro_reno {W w : World} {mA ca : Nat} {V : List Nat} {L : Nat → List Nat} {No No' : Nat → Prop} (h : Gro W w mA ca V L No) (hn : ∀ b, No' b → No b ∨ w.heap.size ≤ b) (hm : No' mA) : Gro W w mA ca V L No' := by
  obtain ⟨f, bo, v, hx, hd⟩ := h.ex
  exact ⟨⟨f, bo, v, grox_reno hx (fun a b e hb => by
    rcases hn b hb with h | h
    · exact (hx.lo a b e).2 h
    · have := slc_lt (hx.row a) b e; omega) hm, hd⟩, h.cell, h.below⟩
/-- So far: who waits for whom. -/
def Seen2 (S : St) (left : Lit → Bool) (L : Nat → List Nat) : Prop := ∀ u y, y ∈ L u ↔ y < top ∧ left (kU y) = false ∧ Edge S y u
theorem seen2_step {S : St} {left : Lit → Bool} {L L' : Nat → List Nat} {c : Nat} {os : List Nat} (h : Seen2 S left L) (hc : c < top) (ho : ∀ o, o ∈ os ↔ Edge S c o) (hl : ∀ u y, y ∈ L' u ↔ y ∈ L u ∨ (y = c ∧ u ∈ os)) : Seen2 S (fun z => left z && !z.sameKey (kU c)) L' := fun u y => by
  rw [hl, h u y, ho]
  show _ ↔ y < top ∧ (left (kU y) && !(kU y).sameKey (kU c)) = false ∧ Edge S y u
  by_cases e : y = c
  · subst e
    have : Lit.sameKey (kU y) (kU y) = true := by simp [kU, Lit.sameKey]
    rw [this]
    constructor
    · rintro (⟨h1, _, h3⟩ | ⟨_, h3⟩)
      · exact ⟨h1, by simp, h3⟩
      · exact ⟨hc, by simp, h3⟩
    · rintro ⟨_, _, h3⟩; exact .inr ⟨rfl, h3⟩
  · have : Lit.sameKey (kU y) (kU c) = false := Maps.sameKey_ne (fun e' => e (kU_inj e'))
    rw [this]
    constructor
    · rintro (⟨h1, h2, h3⟩ | ⟨h1, _⟩)
      · exact ⟨h1, by simp [h2], h3⟩
      · exact absurd h1 e
    · rintro ⟨h1, h2, h3⟩; exact .inl ⟨h1, by simpa using h2, h3⟩
theorem part2_reach {L : Nat → List Nat} {a : Nat} {M : Nat → Prop} (h : Part2 L a (L a) (fun _ => False) M) : M = Reach L a := by
  funext z
  have key : ∀ b c, Reach L b c → (∀ u ∈ L b, M u) → M c := fun b c hr => by
    induction hr with
    | one h1 => exact fun hu => hu _ h1
    | more h1 _ ih => exact fun hu => ih ((h.closed _ (hu _ h1)).resolve_left (fun h => h))
  exact propext ⟨fun hz => (h.only z hz).resolve_left (fun h => h), fun hz => key a z hz h.succ⟩
theorem rest_len {U : List Nat} : rest U (fun _ => False) ≤ U.length := by unfold rest; exact List.length_filter_le _ _
/-- The closure's ground. -/
theorem env_start {W w : World} {mA ca : Nat} {V : List Nat} {L : Nat → List Nat} {No : Nat → Prop} (h : Gro W w mA ca V L No) {t1 t2 : TypeId} :
    let fv : Value := .func (.func 64) #[] #[.pointer (some ⟨ca, 0, none⟩), .pointer (some ⟨w.heap.size + 1, 0, none⟩), .pointer (some ⟨w.heap.size + 1 + 1, 0, none⟩)]
    let W5 := ((w.alloc (.map #[] 0)).alloc (.cells #[.map (some w.heap.size)] t1)).alloc (.cells #[fv] t2)
    Env W5 ca (w.heap.size + 1) (w.heap.size + 1 + 1) mA w.heap.size L ∧ SetAt W5 w.heap.size 0 (fun _ => False) ∧ Below w.heap.size w W5 := by
  intro fv W5
  have e1 : (w.alloc (.map #[] 0)).heap.size = w.heap.size + 1 := size_alloc _ _
  have e2 : ((w.alloc (.map #[] 0)).alloc (.cells #[.map (some w.heap.size)] t1)).heap.size = w.heap.size + 1 + 1 := by rw [size_alloc, e1]
  have hc5 : Cells W5 (w.heap.size + 1 + 1) t2 #[fv] := by
    have := cells_new ((w.alloc (.map #[] 0)).alloc (.cells #[.map (some w.heap.size)] t1)) t2 #[fv]
    rw [e2] at this; exact this
  have hT : Turned (fun _ => False) w W5 := (((Turned.refl (fun _ => False) w).alloc _).alloc _).alloc _
  have hb := hT.none_below
  have hca := World.block_lt_of_cell? w _ h.cell
  have hca : ca < w.heap.size := hca
  obtain ⟨f, bo, v, hx, -⟩ := h.ex
  have hmA := hx.map.lt
  have hk : ∀ b, b < w.heap.size + 1 + 1 → W5.heap[b]? = ((w.alloc (.map #[] 0)).alloc (.cells #[.map (some w.heap.size)] t1)).heap[b]? := fun b hb => (below_alloc _ _).block b (by rw [e2]; exact hb)
  refine ⟨⟨(hb.cell hca).trans h.cell, ?_, (cell_of_row _ _ 0 _ _ _ hc5).trans rfl, ⟨⟨V.length, f, bo, v, hx.map.kept (hb.block _ hmA), fun a => ⟨hx.val a, slc_below (hx.row a) hb, fun e => ?_⟩⟩, by omega⟩, by omega, by omega, by omega⟩, ?_, hb⟩
  · have hcb : Cells W5 (w.heap.size + 1) t1 #[.map (some w.heap.size)] := by
      have := cells_new (w.alloc (.map #[] 0)) t1 #[.map (some w.heap.size)]
      rw [e1] at this
      exact cells_kept this (hk _ (by omega))
    exact (cell_of_row _ _ 0 _ _ _ hcb).trans rfl
  · have := slc_lt (hx.row a) _ e; omega
  · refine set_kept (set_made w) ((hk _ (by omega)).trans ((below_alloc _ _).block _ (by rw [e1]; omega)))
theorem ranges_turned {w w' : World} {P : Program} {k : TypeId} {R : Value → Option (DataW Value × List MemPlace)} {b r n : Nat} {D : DataW Value} {left : Lit → Bool} {cnt : Nat} (h : w.ranges P k R b r n D left cnt) {E : Nat → Prop} (ht : Turned E w w') (hb' : ¬ E b) (hr' : ¬ E r) : w'.ranges P k R b r n D left cnt := by
  have h1 := h.owns.lt
  have h2 := h.lt
  obtain ⟨es, clock, since, seen, c0, hb, F, hs, hD, hr, rest⟩ := h
  exact ⟨es, clock, since, seen, c0, (ht.block b h1 hb').trans hb, F, hs, hD, (ht.block r h2 hr').trans hr, rest⟩
theorem edge_top {w : World} {g : Nat} {S : St} {x : Gh} {N : Nat} (H : Tab w g S x N) {o u : Nat} (h : Edge S o u) : u < top := by
  rcases h.2 with ⟨_, h0, _⟩ | h
  · cases e : x.lk (S.waits o).1 with
    | none => exact absurd ((H.locks.none _ e).1 u) h0
    | some k => exact (H.locks.each _ k e).lt u h0
  · have hm : u ∈ (S.queue (S.waits o).1).map (·.1) := (List.takeWhile_sublist _).subset h
    obtain ⟨p, hp, rfl⟩ := List.mem_map.1 hm
    cases e : x.lk (S.waits o).1 with
    | none => rw [(H.locks.none _ e).2] at hp; cases hp
    | some k => exact ((H.locks.each _ k e).qs p hp).1
theorem gro_put {W w w6 : World} {mA ca n : Nat} {V : List Nat} {L : Nat → List Nat} {No : Nat → Prop} {f f' : Nat → Option (DataW Value)} {bo bo' : Nat → Option Nat} {v v' : Nat → Value} {u y : Nat} {z : DataW Value} (h : Gro W w mA ca V L No) (hx : GroX W w mA V.length L No f bo v) (hd : ∀ a, a < top → f a ≠ none → a ∈ V) (h6 : GroX W w6 mA n (upd L u (L u ++ [y])) No f' bo' v') (hf : f' = upd f u (some z)) (hu : u ∈ V) (ht : Turned (fun b => bo u = some b ∨ b = mA) w w6) (hc : No ca) (hne : ca ≠ mA) : Gro W w6 mA ca V (upd L u (L u ++ [y])) No :=
  have hd' : ∀ a, a < top → f' a ≠ none → a ∈ V := fun a ha h0 => by
    by_cases e : a = u
    · rw [e]; exact hu
    · rw [hf, upd_other _ _ e] at h0; exact hd a ha h0
  ⟨⟨f', bo', v', ⟨h6.map.tight hd', h6.val, h6.row, h6.lo, h6.apart, h6.mno, h6.mlo⟩, hd'⟩, cell_turned h.cell ht (fun e => by
    rcases e with e | e
    · exact (hx.lo u ca e).2 hc
    · exact hne e), Turned.to_below h.below ht (fun b e => by
    rcases e with e | e
    · exact (hx.lo u b e).1
    · rw [e]; exact hx.mlo) h.below.size⟩
set_option maxRecDepth 100000 in
set_option maxHeartbeats 4000000 in
theorem waiters_any {w : World} {g : Nat} {S : St} {x : Gh} {N : Nat} (H : Tab w g S x N) (hN : N < 8796093022208) {id : Nat} (ho : id < top) {V : List Nat} (hV : ∀ a u, Edge S a u → u ∈ V) (hVl : V.length < 8796093022208) (hk : ∀ o, (S.waits o).2 ≠ 0 → ∃ k, x.lk (S.waits o).1 = some k) (hnd : ∀ n, ((S.queue n).map (·.1)).Nodup) :
    Calls Try.prog 43 #[.pointer (some ⟨g, 0, none⟩), .int .u64 (id : Int)] w fun e w' => ∃ mO n L, e = .returned (.map (some mO)) ∧ Below w.heap.size w w' ∧ w.heap.size ≤ mO ∧ (∀ u y, y ∈ L u ↔ y < top ∧ Edge S y u) ∧ SetAt w' mO n (Reach L id) := by
  have hb2 : Below w.heap.size w ((w.alloc (.map #[] 0)).alloc (.cells #[.map (some w.heap.size)] 126)) := (below_alloc w _).trans ((below_alloc _ _).mono (by rw [size_alloc]; omega))
  have H2 := H.below hb2
  obtain ⟨-, c1⟩ := tab_cells H2
  have hmA : MapAt ((w.alloc (.map #[] 0)).alloc (.cells #[.map (some w.heap.size)] 126)) 27 asV w.heap.size 0 kU (· < top) (fun _ => none) := (mapAt_made w).kept ((below_alloc _ _).block _ (by rw [size_alloc]; omega))
  have hca : ((w.alloc (.map #[] 0)).alloc (.cells #[.map (some w.heap.size)] 126)).cell? ⟨w.heap.size + 1, 0, none⟩ = some (.map (some w.heap.size)) := by
    have := (cell_of_row _ _ 0 _ _ _ (cells_new (w.alloc (.map #[] 0)) 126 #[.map (some w.heap.size)])).trans rfl
    rw [size_alloc] at this
    exact this
  have hsz : ((w.alloc (.map #[] 0)).alloc (.cells #[.map (some w.heap.size)] 126)).heap.size = w.heap.size + 2 := by rw [size_alloc, size_alloc]
  have hgro : Hid (Gro w ((w.alloc (.map #[] 0)).alloc (.cells #[.map (some w.heap.size)] 126)) w.heap.size (w.heap.size + 1) V (fun _ => []) (fun b => b < w.heap.size + 3)) := Lib.hid ⟨⟨_, fun _ => none, fun _ => .slice none 0 0, ⟨hmA.mono (Nat.zero_le _), fun a => .inr ⟨rfl, rfl⟩, fun a => slc_nil _ _, (fun a b e => by cases e), (fun a a' _ b e => by cases e), (by show w.heap.size < _; omega), Nat.le_refl _⟩, fun a _ h => absurd rfl h⟩, hca, hb2⟩
  have HV := Lib.hid hV; have HND := Lib.hid hnd
  have HH := Lib.hid H; have HKK := Lib.hid hk; have HID := Lib.hid ho; have HSZ := Lib.hid hsz; have HB2 := Lib.hid hb2
  obtain ⟨D, hown, hat⟩ := H2.owners.own.ex
  have hDs : Maps.size D ≤ N := hown.size_le
  have HO := Lib.hid hown
  have HAT := Lib.hid hat
  have homlt : x.om < w.heap.size := H.owners.own.lt
  obtain ⟨iu, RU⟩ := rowU64
  have HRU := Lib.hid RU
  clear H2 hb2 hmA hca hsz hown hat RU
  generalize hR : (fun (e : Ending) (w' : World) => ∃ mO n L, e = .returned (.map (some mO)) ∧ Below w.heap.size w w' ∧ w.heap.size ≤ mO ∧ (∀ u y, y ∈ L u ↔ y < top ∧ Edge S y u) ∧ SetAt w' mO n (Reach L id)) = R
  have HR := Lib.hid hR
  clear hR H hk ho hV hnd
  have hmm := @run_makeMap Try.prog
  have hgs : g < w.heap.size := cells_lt HH.out.cells
  go_enter Try.func43, Try.ntmps43
  go_wp2_with (at_range; refine wpList_range_own _ rfl _ 58 rfl 27 80 keysU Try.underlying58 _ x.om N D rfl HO.out ?_; intro w3 hrg0 hg0 hs0)
  generalize (w.alloc (.map #[] 0)).alloc (.cells #[.map (some w.heap.size)] 126) = W2 at HSZ HB2 HO hgro hrg0 hg0 hs0
  have hb3 : Below W2.heap.size W2 w3 := ⟨hg0.os, hg0.tape, hg0.output, hg0.size, fun b hb => hg0.block b hb (by simp)⟩
  rw [HSZ.out] at hrg0
  have HR0 := Lib.hid hrg0
  have HG0 := Lib.hid (gro_below hgro.out hb3)
  have HSZ3 : Hid (w3.heap.size = w.heap.size + 3) := Lib.hid (by rw [hs0, HSZ.out])
  simp only [HSZ.out]
  clear c1 hb3 hrg0 hg0 hs0
  go_frame
  go_loopw [6] (fun _ wr => ∃ (left : Lit → Bool) (cnt : Nat) (L : Nat → List Nat) (U : List Nat), Hid (wr.ranges Try.prog 27 asIs x.om (w.heap.size + 2) N D left cnt) ∧ Hid (Gro w wr w.heap.size (w.heap.size + 1) V L (fun b => b < w.heap.size + 3)) ∧ Hid (Seen2 S left L) ∧ Hid (w.heap.size + 3 ≤ wr.heap.size) ∧ Hid (∀ u y, y ∈ L u → y < top ∧ y ∈ U) ∧ U.length + cnt ≤ N ∧ Hid (∀ u, (L u).length + 2 * cnt ≤ 2 * N)) (fun _ wr => wr.rangeLeft x.om (w.heap.size + 2))
  case atStart => exact ⟨_, _, _, [], HR0, HG0, Lib.hid (fun u y => by
    constructor
    · intro h; cases h
    · rintro ⟨h1, h2, h3, -⟩
      exfalso
      cases e : x.ow y with
      | none => exact h3 (by rw [(HH.out.owners.none y e).2])
      | some kk =>
        have h5 : Maps.has D (kU y) = true := Maps.has_true_of_atKey (y := .held (ptr (some kk.b))) (fun z => by rw [HAT.out y h1, e]; rfl)
        rw [h5] at h2; cases h2), Lib.hid (by rw [HSZ3.out]; exact Nat.le_refl _), Lib.hid (fun u y h => by cases h), by simpa using hDs, Lib.hid (fun u => by simp; omega)⟩
  case round =>
    obtain ⟨left, cnt, L, U, hr, hgr, hse, hsz, hUL, hUc, hcnt⟩ := hrel
    go_wp2_with (at_next; refine wpList_next_ranges _ rfl _ rfl 27 keysU asIs (Value.int .u64) Value.pointer (fun key kl hkey => by obtain ⟨x, rfl, _⟩ := Maps.keyOf_int_inv Try.underlying27 hkey; exact ⟨x, rfl⟩) (fun v y hv => by cases v <;> simp [asIs] at hv; exact ⟨_, rfl⟩) x.om (w.heap.size + 2) N D left cnt rfl hr.out ?_ ?_)
    · intro _ hl0
      have HLL := Lib.hid hl0
      clear hl0
      obtain ⟨henv, hset, hb6⟩ := env_start (t1 := 89) (t2 := 91) hgr.out
      have c3 := henv.c3
      have HDF := Lib.hid (dfs_any (U := U) (L := L) (fun a => ⟨by have := hcnt.out a; omega, fun u hu => hUL.out a u hu⟩) (rest U (fun _ => False) + 1) _ id 0 _ henv hset (by omega) (by have := rest_len (U := U); omega) HID.out)
      have HEV := Lib.hid henv; have HB6 := Lib.hid hb6
      clear henv hset hb6
      go_wp2_with (go_at_call 64; go_loud (refine HDF.out.mono ?_; rintro e w9 ⟨rfl, n9, M9, s9, t9, p9, r9⟩; have c29 := (env_turned HEV.out t9).c2; have HX : Hid (R (.returned (.map (some wr.heap.size))) w9) := Lib.hid (by
          rw [← HR.out]
          refine ⟨_, n9, L, rfl, Turned.to_below (hgr.out.below.trans (HB6.out.mono hgr.out.below.size)) t9 (fun b e => by rw [e]; exact hgr.out.below.size) (Nat.le_trans hgr.out.below.size HB6.out.size), hgr.out.below.size, fun u y => ?_, by rw [← part2_reach p9]; exact s9⟩
          rw [hse.out u y]
          exact ⟨fun h => ⟨h.1, h.2.2⟩, fun h => ⟨h.1, HLL.out _, h.2⟩⟩); clear s9 t9 p9 r9))
      exact HX.out
    · intro y c kl yd yps w1 cnt1 hkey hly hyv hac hrg1 hlt hg1 hs1 hen
      obtain ⟨y1, ey, rfl, hwy⟩ := Maps.keyOf_int_inv Try.underlying27 hkey
      cases ey
      have hyb := bounds_u64 hwy
      obtain ⟨y', rfl⟩ : ∃ y' : Nat, y = (y' : Int) := ⟨y.toNat, by omega⟩
      have hyt : y' < top := by unfold top; omega
      have ht1 : Turned (fun b => b = w.heap.size + 2) wr w1 := ⟨hg1.os, hg1.tape, hg1.output, hg1.size, fun b h1 h2 => hg1.block b h1 (fun e => h2 (by cases e; rfl))⟩
      have hG1 := gro_turned hgr.out ht1 (fun b e => ⟨by show b < _; omega, by omega, by omega, by omega⟩)
      have HWF := Lib.hid (waitsfor_any (HH.out.below hG1.below) (by omega) hyt (HKK.out y') HND.out)
      have HG1 := Lib.hid hG1; have HR1 := Lib.hid hrg1; have HYT := Lib.hid hyt; have HLT := Lib.hid hlt; have HS1 := Lib.hid hs1
      clear hkey hly hyv hac hrg1 hg1 hs1 hwy hyb hyt ht1 hG1
      go_wp2_with (go_at_call 45; refine HWF.out.mono ?_; rintro e w2 ⟨os, vs, bo, rfl, hq, hiff, hol, hct⟩; have HQ := Lib.hid hq; have HIFF := Lib.hid hiff; have hqs := hq.slc; obtain ⟨m, hm⟩ : ∃ m, m = os.length := ⟨_, rfl⟩; rw [← hm] at hqs hol; obtain ⟨sa, scap, rfl, -, hsc, -⟩ := slc_form hqs; unfold maxLen at hsc; have HQS := Lib.hid hqs; have HM := Lib.hid hm; have HCT := Lib.hid hct; clear hq hiff hqs hm hct)
      have HG2 : Hid (Gro w w2 w.heap.size (w.heap.size + 1) V L (fun b => b < w.heap.size + 3 ∨ bo = some b)) := Lib.hid (gro_below (gro_reno HG1.out (fun b hb => by
        rcases hb with hb | hb
        · exact .inl hb
        · exact .inr (HQ.out.bo b hb)) (.inl (by omega))) HQ.out.below)
      have HR2 := Lib.hid (ranges_turned HR1.out (Turned.of_below (E := fun _ => False) HQ.out.below) (fun h => h) (fun h => h))
      have HSZ2 : Hid (w.heap.size + 3 ≤ w2.heap.size) := Lib.hid (by have h1 := HQ.out.below.size; have h2 := HS1.out; have h3 := hsz.out; omega)
      have HBO : Hid (∀ b, bo = some b → w.heap.size + 3 ≤ b) := Lib.hid (fun b e => by have h1 := HQ.out.bo b e; have h2 := HS1.out; have h3 := hsz.out; omega)
      go_loopw [25] (fun i wq => ∃ (j : Nat) (L1 : Nat → List Nat), j ≤ m ∧ i = .int .i64 (j : Int) ∧ Hid (wq.ranges Try.prog 27 asIs x.om (w.heap.size + 2) N D (fun z => left z && !z.sameKey (kU y')) cnt1) ∧ Hid (Gro w wq w.heap.size (w.heap.size + 1) V L1 (fun b => b < w.heap.size + 3 ∨ bo = some b)) ∧ Hid (Slc wq bo 1 (.slice sa m scap) m (u64s os)) ∧ Hid (w.heap.size + 3 ≤ wq.heap.size) ∧ Hid (∀ u z, z ∈ L1 u ↔ z ∈ L u ∨ (z = y' ∧ u ∈ os.take j)) ∧ Hid (∀ u, (L1 u).length ≤ (L u).length + (os.take j).count u)) (fun i _ => m - (intOf i).toNat)
      case atStart => exact ⟨0, L, Nat.zero_le _, rfl, HR2, HG2, HQS, HSZ2, Lib.hid (fun u z => by simp), Lib.hid (fun u => by simp)⟩
      case round =>
        obtain ⟨j, L1, hj, rfl, hr1, hgr1, hsl, hsz1, hL1, hn1⟩ := hrel
        by_cases hlt1 : j < m
        · have hjl : j < os.length := by rw [← HM.out]; exact hlt1
          obtain ⟨b, off, rfl, hcell⟩ := slc_at hsl.out (j := j) (u := .int .u64 (os[j] : Int)) (by rw [u64s, List.getElem?_map, List.getElem?_eq_getElem hjl]; rfl) hlt1
          have htk : os.take (j + 1) = os.take j ++ [os[j]] := by rw [List.take_add_one, List.getElem?_eq_getElem hjl]; rfl
          have hmem := List.getElem_mem hjl
          generalize os[j] = u at hcell htk hmem
          have hu := edge_top HH.out ((HIFF.out u).1 hmem)
          obtain ⟨f, bo2, v2, hx, hdm⟩ := hgr1.out.ex
          have huV := HV.out _ _ ((HIFF.out u).1 hmem)
          have hn1u := hn1.out u
          have hctu : (os.take j).count u ≤ 2 := Nat.le_trans ((List.take_sublist _ _).count_le u) (HCT.out u)
          have hcu := hcnt.out u
          have hca := hgr1.out.cell
          have hbd : Below wr.heap.size wr (wr.alloc (.cells #[.int .u64 (y' : Int)] 27)).drew := Below.drew (below_alloc _ _)
          have hca2 : (wr.alloc (.cells #[.int .u64 (y' : Int)] 27)).cell? ⟨w.heap.size + 1, 0, none⟩ = some (.map (some w.heap.size)) := (gro_below hgr1.out (below_alloc _ _)).cell
          have hl1 := grox_look (grox_turned hx (Turned.of_below (E := fun _ => False) (Below.drew (Below.refl _ wr))) (fun _ e => e.elim)) hu
          have hl2 := grox_look (grox_turned hx (Turned.of_below (E := fun _ => False) hbd) (fun _ e => e.elim)) hu
          have HS0 := Lib.hid (slc_below (hx.row u) hbd)
          have HSR : Hid (_root_.Go.Src Try.prog 1 29 (.slice (some ⟨wr.heap.size, 0, none⟩) 1 1) 1 (u64s [y']) (wr.alloc (.cells #[.int .u64 (y' : Int)] 27)).drew) := Lib.hid (u64_src ((cell_of_row _ _ 0 _ _ _ (cells_drew (cells_new wr 27 #[.int .u64 (y' : Int)]))).trans rfl))
          have hfew : (L1 u).length ≤ 2 * N := by omega
          have HDM := Lib.hid hdm; have HUV := Lib.hid huV
          obtain ⟨l0, hl0⟩ : ∃ l0, l0 = (L1 u).length := ⟨_, rfl⟩
          rw [← hl0] at HS0 hfew
          clear hdm huV hn1u hctu hcu
          have HX := Lib.hid hx; have HU := Lib.hid hu; have HTK := Lib.hid htk; have HBD := Lib.hid hbd; have HL0 := Lib.hid hl0; have HMEM := Lib.hid hmem
          clear htk hmem hu hx hbd hjl hl0
          go_wp2_with fail
          go_region_law (refine step_slc HRU.out rfl (.tmp 33) (.tmp 35) 29 rfl (by simp [Act.eval]) (by simp [Act.eval]) HS0.out HSR.out (rfl : l0 + 1 = l0 + 1) (by unfold maxLen; omega) (by omega) ?_; intro ao5 cap5 bo5 w5 g1 g2 g3; obtain ⟨w6, hput, hG6, hT6⟩ := grox_put HX.out (by unfold maxLen; omega) HU.out HBD.out g1 (by rw [← HL0.out]) g2 g3 (fun b hb => by
              rcases hb with hb | hb
              · have := hsz1.out; have := HBD.out.size; omega
              · have := slc_lt hsl.out b hb; have := HBD.out.size; omega) (by have := hsz1.out; have := HBD.out.size; omega); have c5 : w5.cell? ⟨w.heap.size + 1, 0, none⟩ = some (.map (some w.heap.size)) := cell_turned (by simpa using hca2) g2 (fun e => (HX.out.lo u _ e).2 (.inl (by omega))); have HG6 := Lib.hid (gro_put hgr1.out HX.out HDM.out hG6 rfl HUV.out hT6 (.inl (by omega)) (by omega)); have HR6 := Lib.hid (ranges_turned hr1.out hT6 (fun e => by
              rcases e with e | e
              · have := (HX.out.lo u _ e).1; omega
              · omega) (fun e => by
              rcases e with e | e
              · exact (HX.out.lo u _ e).2 (.inl (by omega))
              · omega)); have HSL6 := Lib.hid (slc_turned hsl.out hT6 (fun b e e' => by
              rcases e' with e' | e'
              · exact (HX.out.lo u _ e').2 (.inr e)
              · have := HBO.out b e; omega)); have HSZ6 := Lib.hid (Nat.le_trans hsz1.out hT6.size); clear g1 g2 g3 hG6 hT6)
          all_goals
            (try simp only [Exit.inBlock, Exit.then])
            go_wp2_with fail
            go_roundw
            case rel => exact ⟨j + 1, _, by omega, by go_num, HR6, HG6, HSL6, HSZ6, Lib.hid (fun t z => by
              rw [HTK.out]
              by_cases e : t = u
              · subst e
                rw [upd_same, List.mem_append, hL1.out t z]
                simp only [List.mem_singleton, List.mem_append]
                constructor
                · rintro ((h | h) | h)
                  · exact .inl h
                  · exact .inr ⟨h.1, .inl h.2⟩
                  · exact .inr ⟨h, .inr trivial⟩
                · rintro (h | ⟨h, h2 | h2⟩)
                  · exact .inl (.inl h)
                  · exact .inl (.inr ⟨h, h2⟩)
                  · exact .inr h
              · rw [upd_other _ _ e, hL1.out t z]
                simp [e]), Lib.hid (fun t => by
              rw [HTK.out, List.count_append]
              by_cases e : t = u
              · subst e
                have := hn1.out t
                rw [upd_same, List.length_append]; simp; omega
              · have := hn1.out t
                rw [upd_other _ _ e]; omega)⟩
            case measure => simp [intOf]; omega
        · have hjm : m = j := by omega
          subst hjm
          have hL2 : ∀ u z, z ∈ L1 u ↔ z ∈ L u ∨ (z = y' ∧ u ∈ os) := fun u z => by
            have := hL1.out u z
            rw [List.take_of_length_le (by rw [HM.out]; exact Nat.le_refl _)] at this
            exact this
          have HL2 := Lib.hid hL2
          clear hL2
          go_wp2_with fail
          go_roundw
          case rel => exact ⟨_, cnt1, L1, U ++ [y'], hr1, Lib.hid (gro_reno hgr1.out (fun b hb => .inl (.inl hb)) (by show w.heap.size < _; omega)), Lib.hid (seen2_step hse.out HYT.out HIFF.out HL2.out), hsz1, Lib.hid (fun u z hz => by
            rcases (HL2.out u z).1 hz with h | h
            · exact ⟨(hUL.out u z h).1, List.mem_append.2 (.inl (hUL.out u z h).2)⟩
            · rw [h.1]; exact ⟨HYT.out, by simp⟩), by have := HLT.out; rw [List.length_append, List.length_singleton]; omega, Lib.hid (fun u => by
            have h1 := hn1.out u; have h2 := HCT.out u; have h3 := hcnt.out u; have h4 := HLT.out
            rw [List.take_of_length_le (by rw [HM.out]; exact Nat.le_refl _)] at h1
            omega)⟩
          case measure => rw [hr1.out.left_eq, hr.out.left_eq]; exact HLT.out
end Go.Proofs.Ythanjncpgcmnaaa
