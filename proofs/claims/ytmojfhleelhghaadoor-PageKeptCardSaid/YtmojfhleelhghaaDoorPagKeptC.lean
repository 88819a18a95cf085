/- R4: rows that are written over and grown, each for itself: plain facts on memory. -/
import Derived.Test.YtmojfhleelhghaaDoorPagKeptB
import Derived.Laws.IdiomStrings
namespace Go.Proofs.YtmojfhleelhghaaDoor
open Go.ChangeShapes Go.WideShapes Go.ChangeAt Go.RowKit

/-- A row of slices: its first cells are these. -/
def Tab (w : World) (G N : Nat) (f : Nat → Value) : Prop := ∃ cur, Cells w G 22 cur ∧ ∀ j, j < N → cur[j]? = some (f j)
theorem tab_get {w : World} {G N : Nat} {f : Nat → Value} (h : Tab w G N f) {j : Nat} (hj : j < N) : w.cell? ⟨G, j, none⟩ = some (f j) := by
  obtain ⟨cur, hc, hf⟩ := h
  rw [cell_of_row w G j _ _ _ hc]
  exact hf j hj
theorem tab_frozen {w : World} {G N : Nat} {f : Nat → Value} (h : Tab w G N f) (j : Nat) : w.frozen? ⟨G, j, none⟩ = false := by
  obtain ⟨cur, hc, _⟩ := h
  exact frozen_of_row w G j _ _ hc
theorem tabl_lt {w : World} {G N : Nat} {f : Nat → Value} (h : Tab w G N f) : G < w.heap.size := by
  obtain ⟨cur, hc, _⟩ := h
  exact (Array.getElem?_eq_some_iff.1 hc).1
/-- One of them turned. -/
def upd (f : Nat → Value) (k : Nat) (v : Value) : Nat → Value := fun j => if j = k then v else f j
theorem tab_set {w : World} {G N : Nat} {f : Nat → Value} (h : Tab w G N f) (k : Nat) (hk : k < N) (v : Value) : Tab (w.setCell ⟨G, k, none⟩ v) G N (upd f k v) := by
  obtain ⟨cur, hc, hf⟩ := h
  refine ⟨_, cells_setCell hc, fun j hj => ?_⟩
  have h1 := hf j hj
  have h2 := hf k hk
  obtain ⟨hk', _⟩ := Array.getElem?_eq_some_iff.1 h2
  unfold upd
  by_cases e : j = k
  · subst e
    rw [if_pos rfl, Array.getElem?_setIfInBounds_self_of_lt hk']
  · rw [if_neg e, Array.getElem?_setIfInBounds_ne (fun h => e h.symm)]
    exact h1
theorem tab_other {w : World} {G N g o : Nat} {f : Nat → Value} (h : Tab w G N f) (hne : G ≠ g) (v : Value) : Tab (w.setCell ⟨g, o, none⟩ v) G N f := by
  obtain ⟨cur, hc, hf⟩ := h
  exact ⟨cur, cells_setOther hc hne, hf⟩
theorem tabl_below {w w' : World} {G N : Nat} {f : Nat → Value} (h : Tab w G N f) (hb : Below w.heap.size w w') : Tab w' G N f := by
  obtain ⟨cur, hc, hf⟩ := h
  exact ⟨cur, cells_under hc hb (Array.getElem?_eq_some_iff.1 hc).1, hf⟩
/-- Bytes, the first of which were written over. -/
def fillTo (l : List Nat) (m c : Nat) : List Nat := List.replicate m c ++ l.drop m
theorem fillTo_zero (l : List Nat) (c : Nat) : fillTo l 0 c = l := by simp [fillTo]
theorem fillTo_all (l : List Nat) (c : Nat) : fillTo l l.length c = List.replicate l.length c := by simp [fillTo]
theorem fillTo_length {l : List Nat} {m c : Nat} (h : m ≤ l.length) : (fillTo l m c).length = l.length := by simp [fillTo]; omega
theorem fillTo_step {l : List Nat} {m c : Nat} (h : m < l.length) : (fillTo l m c).set m c = fillTo l (m + 1) c := by
  rw [fillTo, fillTo, List.drop_eq_getElem_cons h, List.set_append_right _ _ (by simp)]
  simp only [List.length_replicate, Nat.sub_self, List.set_cons_zero]
  rw [List.replicate_succ', List.append_assoc]
  rfl
/-- A row that was written over, and grew. -/
def Done (w : World) (B L j : Nat) (v : Value) : Prop := ∃ h c, v = .slice (some ⟨h, 0, none⟩) (L + 1) c ∧ B ≤ h ∧ L + 1 ≤ c ∧ BytesAt w (some ⟨h, 0, none⟩) (List.replicate L ((j + 1) % 256) ++ [99])
theorem done_below {w w' : World} {B L j : Nat} {v : Value} (h : Done w B L j v) (hb : Below w.heap.size w w') : Done w' B L j v := by
  obtain ⟨g, c, e, hB, hc, hby⟩ := h
  exact ⟨g, c, e, hB, hc, bytes_below hby hb⟩
theorem done_set {w : World} {B L j g o : Nat} {v u : Value} (h : Done w B L j v) (hg : g < B) : Done (w.setCell ⟨g, o, none⟩ u) B L j v := by
  obtain ⟨h', c, e, hB, hc, hby⟩ := h
  exact ⟨h', c, e, hB, hc, bytes_setCell hby (by rintro a e; cases e; show h' ≠ g; omega)⟩
/-- A row, as it was told. -/
def Still (w : World) (W G : Nat) (r : Option Nat × List Nat) : Prop := (r.1 = none ∧ r.2 = []) ∨ ∃ g, r.1 = some g ∧ Cells w g 5 (u8c r.2) ∧ W ≤ g ∧ g < G
theorem still_below {w w' : World} {W G : Nat} {r : Option Nat × List Nat} (h : Still w W G r) (hb : Below w.heap.size w w') : Still w' W G r := by
  rcases h with h | ⟨g, h1, h2, h3⟩
  · exact .inl h
  · exact .inr ⟨g, h1, cells_under h2 hb (Array.getElem?_eq_some_iff.1 h2).1, h3⟩
theorem still_set {w : World} {W G g o : Nat} {r : Option Nat × List Nat} {u : Value} (h : Still w W G r) (hg : ∀ g', r.1 = some g' → g' ≠ g) : Still (w.setCell ⟨g, o, none⟩ u) W G r := by
  rcases h with h | ⟨g', h1, h2, h3⟩
  · exact .inl h
  · exact .inr ⟨g', h1, cells_setOther h2 (hg g' h1), h3⟩
theorem nodup_ne {rs : List (Option Nat × List Nat)} (h : (rs.filterMap (·.1)).Nodup) {i j : Nat} {hi : i < rs.length} {hj : j < rs.length} (hne : i ≠ j) {g g' : Nat} (h1 : rs[i].1 = some g) (h2 : rs[j].1 = some g') : g ≠ g' := by
  intro e
  subst e
  have hp := List.pairwise_filterMap.1 h
  rcases Nat.lt_or_gt_of_ne hne with hlt | hlt
  · exact (List.pairwise_iff_getElem.1 hp i j hi hj hlt) g h1 g h2 rfl
  · exact (List.pairwise_iff_getElem.1 hp j i hj hi hlt) g h2 g h1 rfl
/-- The rows behind the first k: k of them were written over, and grew. -/
def St (W w : World) (B G : Nat) (R : List (Option Nat × List Nat)) (k : Nat) (f : Nat → Value) : Prop :=
  Tab w G R.length f ∧ G < B ∧ B ≤ w.heap.size ∧ Below W.heap.size W w ∧ W.heap.size ≤ G ∧
  (∀ j, (hj : j < R.length) → j < k → Done w B R[j].2.length j (f j)) ∧ (∀ j, (hj : j < R.length) → k ≤ j → f j = RV R[j] ∧ Still w W.heap.size G R[j])
/-- The same, the k-th being written over: m of its bytes are. -/
def Mid (W w : World) (B G : Nat) (R : List (Option Nat × List Nat)) (k : Nat) (f : Nat → Value) (g m : Nat) (l : List Nat) : Prop :=
  Tab w G R.length f ∧ G < B ∧ B ≤ w.heap.size ∧ Below W.heap.size W w ∧ W.heap.size ≤ G ∧
  (∀ j, (hj : j < R.length) → j < k → Done w B R[j].2.length j (f j)) ∧ (∀ j, (hj : j < R.length) → k < j → f j = RV R[j] ∧ Still w W.heap.size G R[j]) ∧
  Cells w g 5 (u8c (fillTo l m ((k + 1) % 256))) ∧ W.heap.size ≤ g ∧ g < G
/-- All but the k-th. -/
def Rest (W w : World) (B G : Nat) (R : List (Option Nat × List Nat)) (k : Nat) (f : Nat → Value) : Prop :=
  Tab w G R.length f ∧ G < B ∧ B ≤ w.heap.size ∧ Below W.heap.size W w ∧ W.heap.size ≤ G ∧
  (∀ j, (hj : j < R.length) → j < k → Done w B R[j].2.length j (f j)) ∧ (∀ j, (hj : j < R.length) → k < j → f j = RV R[j] ∧ Still w W.heap.size G R[j])
theorem mid_rest {W w : World} {B G : Nat} {R : List (Option Nat × List Nat)} {k : Nat} {f : Nat → Value} {g m : Nat} {l : List Nat} (h : Mid W w B G R k f g m l) : Rest W w B G R k f :=
  ⟨h.1, h.2.1, h.2.2.1, h.2.2.2.1, h.2.2.2.2.1, h.2.2.2.2.2.1, h.2.2.2.2.2.2.1⟩
theorem st_rest {W w : World} {B G : Nat} {R : List (Option Nat × List Nat)} {k : Nat} {f : Nat → Value} (h : St W w B G R k f) : Rest W w B G R k f :=
  ⟨h.1, h.2.1, h.2.2.1, h.2.2.2.1, h.2.2.2.2.1, h.2.2.2.2.2.1, fun j hj hlt => h.2.2.2.2.2.2 j hj (by omega)⟩
theorem st_next {W w w2 : World} {B B' G L : Nat} {R : List (Option Nat × List Nat)} {k : Nat} {f : Nat → Value} {v : Value} (h : Rest W w B G R k f) (hb : Below w.heap.size w w2) (hk : k < R.length) (hL : L = R[k].2.length)
    (ho : w2.ownsRow B' 5 1 v (L + 1) (u8s (List.replicate L ((k + 1) % 256) ++ [99]))) (hB : B ≤ B') : St W (w2.setCell ⟨G, k, none⟩ v) B G R (k + 1) (upd f k v) := by
  obtain ⟨h1, h2, h3, h4, h5, h6, h7⟩ := h
  have hs := hb.size
  obtain ⟨g', c', hv⟩ := row_form ho (by omega)
  have hc := row_cap (hv ▸ ho)
  have hby : BytesAt w2 (some ⟨g', 0, none⟩) (List.replicate L ((k + 1) % 256) ++ [99]) := row_bytes (hv ▸ ho) (by simp) (fun d hd => by
    rw [List.mem_append, List.mem_singleton, List.mem_replicate] at hd
    omega) (by omega)
  refine ⟨tab_set (tabl_below h1 hb) k hk v, h2, by simp; omega, (h4.trans (hb.mono h4.size)).setCell h5 _, h5, fun j hj hlt => ?_, fun j hj hlt => ?_⟩
  · by_cases e : j = k
    · subst e
      unfold upd
      rw [if_pos rfl]
      refine done_set ⟨g', c', by rw [← hL]; exact hv, by omega, by rw [← hL]; exact hc.1, by rw [← hL]; exact hby⟩ h2
    · unfold upd
      rw [if_neg e]
      exact done_set (done_below (h6 j hj (by omega)) hb) h2
  · unfold upd
    rw [if_neg (by omega)]
    refine ⟨(h7 j hj (by omega)).1, still_set (still_below (h7 j hj (by omega)).2 hb) (fun g hg => ?_)⟩
    rcases (h7 j hj (by omega)).2 with ⟨e, _⟩ | ⟨g'', e, _, _, hlt''⟩
    · rw [e] at hg; cases hg
    · rw [e] at hg; cases hg; omega
theorem st_mid {W w : World} {B G : Nat} {R : List (Option Nat × List Nat)} {k : Nat} {f : Nat → Value} (h : St W w B G R k f) {hk : k < R.length} {g : Nat} (hg : R[k].1 = some g) : Mid W w B G R k f g 0 R[k].2 := by
  obtain ⟨h1, h2, h3, h4, h5, h6, h7⟩ := h
  obtain ⟨_, h8 | ⟨g', e, hc, h9, h10⟩⟩ := h7 k hk (Nat.le_refl _)
  · rw [h8.1] at hg; cases hg
  · rw [e] at hg; cases hg
    exact ⟨h1, h2, h3, h4, h5, h6, fun j hj hlt => h7 j hj (by omega), by rw [fillTo_zero]; exact hc, h9, h10⟩
theorem mid_step {W w : World} {B G : Nat} {R : List (Option Nat × List Nat)} {k : Nat} {f : Nat → Value} {g m : Nat} {hk : k < R.length} (hnd : (R.filterMap (·.1)).Nodup) (hg : R[k].1 = some g) (h : Mid W w B G R k f g m R[k].2) (hm : m < R[k].2.length) :
    Mid W (w.setCell ⟨g, m, none⟩ (.int .u8 (((k + 1) % 256 : Nat) : Int))) B G R k f g (m + 1) R[k].2 := by
  obtain ⟨h1, h2, h3, h4, h5, h6, h7, h8, h9, h10⟩ := h
  refine ⟨tab_other h1 (by omega) _, h2, by simpa using h3, h4.setCell h9 _, h5, fun j hj hlt => done_set (h6 j hj hlt) (by omega), fun j hj hlt => ⟨(h7 j hj hlt).1, still_set (h7 j hj hlt).2 (fun g' hg' => nodup_ne hnd (by omega) hg' hg)⟩, ?_, h9, h10⟩
  rw [← fillTo_step hm, u8c_set]
  exact cells_setCell h8
theorem st_start {W w12 w13 : World} {R : List (Option Nat × List Nat)} {v : Value} {Bb N : Nat} {vs : List Value} (hr : Rows W w12 R) (hb : Below w12.heap.size w12 w13) (ho : w13.ownsRow Bb 22 1 v N vs) (hN : R.length = N) (hvs : vs = R.map RV) (hB : w12.heap.size ≤ Bb) (hne : N ≠ 0) :
    ∃ G c, v = .slice (some ⟨G, 0, none⟩) N c ∧ N ≤ c ∧ St W w13 w13.heap.size G R 0 (fun j => ((R.map RV)[j]?).getD undef) := by
  subst hvs
  subst hN
  obtain ⟨G, c, hv⟩ := row_form ho hne
  have hc := row_cap (hv ▸ ho)
  refine ⟨G, c, hv, hc.1, ?_⟩
  subst hv
  rcases ho.2 with ⟨h', _⟩ | ⟨G', c', cur, h', hB', hcell, h1, h2, h3, h4⟩
  · simp at h'
  · simp only [Value.slice.injEq, Option.some.injEq, Addr.mk.injEq, and_true, true_and] at h'
    obtain ⟨rfl, rfl⟩ := h'
    have hlt := (Array.getElem?_eq_some_iff.1 hcell).1
    refine ⟨⟨cur, hcell, fun j hj => ?_⟩, hlt, Nat.le_refl _, hr.2.2.trans (hb.mono hr.2.2.size), Nat.le_trans hr.2.2.size (Nat.le_trans hB hB'), fun j hj h0 => absurd h0 (Nat.not_lt_zero _), fun j hj _ => ⟨?_, ?_⟩⟩
    · have hjc : j < cur.size := by omega
      have e : (R.map RV)[j]? = cur[j]? := by rw [← h4, List.getElem?_take, if_pos (by omega), Array.getElem?_toList]
      show cur[j]? = some (((R.map RV)[j]?).getD undef)
      rw [e, Array.getElem?_eq_getElem hjc]
      rfl
    · show ((R.map RV)[j]?).getD undef = RV R[j]
      rw [List.getElem?_map, List.getElem?_eq_getElem hj]; rfl
    · rcases hr.1 R[j] (List.getElem_mem hj) with h | ⟨g, e1, e2, e3, _⟩
      · exact .inl h
      · have hl := (Array.getElem?_eq_some_iff.1 e2).1
        exact .inr ⟨g, e1, cells_under e2 hb hl, e3, by omega⟩
theorem alloc_old {w : World} {o : Obj} {ad : Addr} {v : Value} (h : w.cell? ad = some v) : (w.alloc o).cell? ad = some v := ((below_alloc w o).cell (World.block_lt_of_cell? w _ h)).trans h
theorem alloc_new (w : World) (t : TypeId) (vs : List Value) : ∀ j u, vs[j]? = some u → (w.alloc (.cells vs.toArray t)).cell? ((⟨w.heap.size, 0, none⟩ : Addr).add j) = some u := by
  intro j u hu
  have hadd : (⟨w.heap.size, 0, none⟩ : Addr).add j = ⟨w.heap.size, j, none⟩ := by unfold Addr.add; split <;> simp_all
  rw [hadd, cell_of_row _ w.heap.size j _ _ _ (cells_new w t vs.toArray), List.getElem?_toArray]
  exact hu
theorem cells_list {w : World} {g : Nat} {l : List Nat} (h : Cells w g 5 (u8c l)) : ∀ j u, (u8s l)[j]? = some u → w.cell? ((⟨g, 0, none⟩ : Addr).add j) = some u := by
  intro j u hu
  have hadd : (⟨g, 0, none⟩ : Addr).add j = ⟨g, j, none⟩ := by unfold Addr.add; split <;> simp_all
  rw [hadd, cell_of_row w g j _ _ _ h]
  simpa [u8c, u8s] using hu
theorem conv_opt {w : World} {a : Option Addr} {zs : List Nat} (hb : BytesAt w a zs) (cap : Nat) : (convert 22 9 (.slice a zs.length cap)).run Tryd.prog w = .ok (.string (str zs)) w := by
  cases a with
  | none =>
    obtain rfl := bytes_none hb
    exact run_convert_bytes_nil w 22 5 Tryd.underlying22 Tryd.underlying5 _ _ 9 Tryd.underlying9
  | some ad => exact conv_bytes hb cap
theorem bytes_last {w : World} {g : Nat} {l : List Nat} {m : Nat} (h : BytesAt w (some ⟨g, 0, none⟩) (l ++ [m])) : w.cell? ⟨g, l.length, none⟩ = some (.int .u8 (m : Int)) := by
  obtain ⟨b, off, e, hc⟩ := h.2.2 l.length (by simp)
  cases e
  rw [Nat.zero_add] at hc
  rw [hc, List.getElem_append_right (Nat.le_refl _)]
  simp
theorem done_cell {w : World} {h L c j m : Nat} (hb : BytesAt w (some ⟨h, 0, none⟩) (List.replicate L c ++ [j])) (hm : m < L) : w.cell? ⟨h, m, none⟩ = some (.int .u8 (c : Int)) := by
  obtain ⟨b, off, e, hc⟩ := hb.2.2 m (by simp; omega)
  cases e
  rw [Nat.zero_add] at hc
  rw [hc, List.getElem_append_left (by simpa using hm), List.getElem_replicate]
end Go.Proofs.YtmojfhleelhghaaDoor
