/- A cell's bytes, in new memory: contracts. -/
import Derived.Test.YtaadeoobmclpcaaPagInsert
namespace Go.Proofs.Ytaadeoobmclpcaa
open Go.ChangeShapes Go.WideShapes Go.ChangeAt Go.RowKit

theorem step_append_fits {P : Program} {ops : Array Oper} {o : Oper} {a : Act} {w : World} {K : Act → World → Prop} {Q : Exit → Act → World → Prop} {E : Prop} (hgd : o.guard = none) (s x : Operand) (t : TypeId)
    (ho : o.op = .call { callee := .builtin .append, args := #[s, x], argTypes := #[t, t] })
    (base : Nat) (e : TypeId) (i : TypeInfo) (size : Nat) (h1 : P.underlying t = some (.slice e)) (h2 : P.info? e = some i) (h4 : i.size = size)
    (g k cap : Nat) (xs : List Value) (hs : a.eval s = .slice (some ⟨g, 0, none⟩) k cap) (hown : w.ownsRow base e size (.slice (some ⟨g, 0, none⟩) k cap) k xs) (ad : Addr) (m c : Nat) (news : List Value) (hx : a.eval x = .slice (some ad) m c) (hn : news.length = m * size)
    (hc : ∀ j u, news[j]? = some u → w.cell? (ad.add j) = some u) (h1c : ∀ u ∈ news, u.oneCell' = true) (b1 : k + m ≤ cap)
    (hK : ∀ w', w'.ownsRow base e size (.slice (some ⟨g, 0, none⟩) (k + m) cap) (k + m) (xs ++ news) → w.grownBy w' (some g) → K (a.put o.dst (.slice (some ⟨g, 0, none⟩) (k + m) cap)) w') :
    if Region.wanted o (yielded ops a.tmps) = true then Oper.wp P o a w K Q else E := by
  have hw : Region.wanted o (yielded ops a.tmps) = true := by simp [Region.wanted, hgd]
  rw [if_pos hw]
  obtain ⟨w', hrun, r1, r2⟩ := run_append_fits (P := P) w base t o.type e i size h1 h2 h4 g k cap xs hown ad m c news hn hc h1c b1
  unfold Oper.wp
  simp [execOp, ho, resolve, invoke, builtin, hs, hx, hrun, Result.andThen]
  exact hK w' r1 r2
theorem bytes_src {w : World} {g off : Nat} {zs : List Nat} (h : BytesAt w (some ⟨g, off, none⟩) zs) (F L : Nat) : ∀ j v, (u8s ((zs.drop F).take L))[j]? = some v → w.cell? ((⟨g, off + F, none⟩ : Addr).add j) = some v := by
  intro j v hv
  refine bytes_cells (bytes_sub h F) j v ?_
  simp only [u8s, List.getElem?_map, List.getElem?_take] at hv ⊢
  split at hv
  · exact hv
  · simp at hv
/-- The bytes of a cell. -/
def cellOf (zs : List Nat) (i : Nat) : List Nat := (zs.drop (rd zs (26 + 4 * i) 2)).take (rd zs (28 + 4 * i) 2)
/-- What an answer that is new bytes says. -/
def BytesOut (w : World) (l : List Nat) (v : Value) (w' : World) : Prop := ∃ g, v = .slice (some ⟨g, 0, none⟩) l.length l.length ∧ Cells w' g 5 (u8c l) ∧ w.heap.size ≤ g ∧ Below w.heap.size w w'
set_option maxHeartbeats 1000000 in
theorem cell_pos {g off cap : Nat} {zs : List Nat} (i : Nat) {w : World} (hb : BytesAt w (some ⟨g, off, none⟩) zs) (hl : zs.length = 512) (hcap : 512 ≤ cap) (hc63 : cap ≤ 9223372036854775807) (hi : 30 + 4 * i ≤ 512) (hat : rd zs (26 + 4 * i) 2 + rd zs (28 + 4 * i) 2 ≤ 512) (hpos : 0 < rd zs (28 + 4 * i) 2) :
    Calls Try.prog 23 #[.slice (some ⟨g, off, none⟩) 512 cap, .int .i64 (i : Int)] w fun e w' => ∃ v, e = .returned v ∧ BytesOut w (cellOf zs i) v w' := by
  obtain ⟨i0, hii, hz0, hz1, hz2⟩ := info_parts info5
  have hCA := cellAt_any (some ⟨g, off, none⟩) cap zs i w hb (by omega) (by omega)
  rw [hl] at hCA
  obtain ⟨x, hx⟩ : ∃ x, x = rd zs (26 + 4 * i) 2 := ⟨_, rfl⟩
  obtain ⟨y, hy⟩ : ∃ y, y = rd zs (28 + 4 * i) 2 := ⟨_, rfl⟩
  have HX : Hid (cellOf zs i = (zs.drop x).take y) := Lib.hid (by rw [hx, hy, cellOf])
  rw [← hx, ← hy] at hCA hat
  rw [← hy] at hpos
  have HCA := Lib.hid hCA
  have HB := Lib.hid hb
  have HL := Lib.hid hl
  have hbt : i0.bytes * y ≤ 281474976710656 := by rw [hz2]; omega
  obtain ⟨w2, hmk, ho2, hg2⟩ := run_make_own (P := Try.prog) w.drew (w.heap.size) 24 5 i0 (.int .u8 0) 1 Try.underlying24 hii hz0 hz1 .i64 .i64 y hbt (by unfold maxLen; omega) (Nat.le_refl _)
  have HO2 := Lib.hid ho2
  have HB2 : Hid (Below w.heap.size w w2) := Lib.hid ((Below.refl _ _).drew.grown hg2 (Nat.le_refl _) (fun k hk => by cases hk))
  obtain ⟨b, hbb⟩ : ∃ b, b = x + y := ⟨_, rfl⟩
  have hwrap : IntKind.i64.wrap ((x : Int) + (y : Int)) = (b : Int) := (IntWalk.i64_in _ (by omega)).trans (by omega)
  have hbc : b ≤ cap := by omega
  have hab : x ≤ b := by omega
  have hba : b - x = y := by omega
  have hbne : ¬ b = x := by omega
  have hb0 : 0 < b := by omega
  have HLN : Hid ((u8s ((zs.drop x).take y)).length = y * 1) := Lib.hid (by simp only [u8s, List.length_map, List.length_take, List.length_drop, hl]; omega)
  have HSRC : Hid (∀ j v, (u8s ((zs.drop x).take y))[j]? = some v → w2.cell? ((⟨g, off + x, none⟩ : Addr).add j) = some v) := Lib.hid (bytes_src (bytes_below hb HB2.out) x y)
  clear hb hl hCA hx hy hbb ho2 hg2 hz0 hz2 hbt
  go_enter Try.func23, Try.ntmps23
  go_wp2_with (go_at_call 21; refine HCA.out.mono ?_; rintro e w ⟨rfl, rfl⟩)
  go_region_law (refine step_append_fits rfl (.tmp 14) (.tmp 23) 24 rfl w.heap.size 5 i0 1 Try.underlying24 hii hz1 w.heap.size 0 y [] (by simp [Act.eval]) HO2.out ⟨g, off + x, none⟩ y y (u8s ((zs.drop x).take y)) (by simp [Act.eval]) HLN.out HSRC.out (u8s_one _) (by omega) ?_; intro w3 ho3 hg3)
  simp only [Nat.zero_add, List.nil_append] at ho3
  have HE : Hid (BytesOut w (cellOf zs i) (.slice (some ⟨w.heap.size, 0, none⟩) y y) w3) := by
    refine Lib.hid ?_
    rw [HX.out]
    refine ⟨w.heap.size, ?_, own_cells ho3, Nat.le_refl _, HB2.out.grown hg3 HB2.out.size (fun k hk => by cases hk; exact Nat.le_refl _)⟩
    rw [List.length_take, List.length_drop, HL.out, Nat.min_eq_left (by omega)]
  clear ho3 hg3
  go_wp2
  go_ret
  exact ⟨_, rfl, HE.out⟩
theorem marks_cell {zs : List Nat} {low : Nat} : ∀ {n : Nat}, (marks zs low n).isSome = true → ∀ i, i < n → low ≤ rd zs (26 + 4 * i) 2 ∧ rd zs (26 + 4 * i) 2 + rd zs (28 + 4 * i) 2 ≤ 512
  | 0, _, i, h => by omega
  | n + 1, hm, i, h => by
    rw [marks] at hm
    split at hm
    · simp at hm
    · rename_i T hT
      split at hm
      · simp at hm
      · rename_i hno
        by_cases e : i = n
        · subst e; omega
        · exact marks_cell (n := n) (by rw [hT]; rfl) i (by omega)
theorem good_cell {zs : List Nat} (hg : Good zs) (i : Nat) (h : i < rd zs 14 2) : rd zs (26 + 4 * i) 2 + rd zs (28 + 4 * i) 2 ≤ 512 := (marks_cell hg.2.2.2.2 i h).2

set_option maxHeartbeats 1000000 in
theorem Cell_pos {g off cap : Nat} {zs : List Nat} (i : Nat) {w : World} (hb : BytesAt w (some ⟨g, off, none⟩) zs) (hg : Good zs) (hcap : 512 ≤ cap) (hc63 : cap ≤ 9223372036854775807) (hin : i < rd zs 14 2) (hpos : 0 < rd zs (28 + 4 * i) 2) :
    Calls Try.prog 14 #[.slice (some ⟨g, off, none⟩) 512 cap, .int .i64 (i : Int)] w fun e w' => ∃ v, e = .returned (.tuple #[v, .int .i64 0]) ∧ BytesOut w (cellOf zs i) v w' := by
  have hl : zs.length = 512 := hg.1
  have HO : Hid (Calls Try.prog 16 #[.slice (some ⟨g, off, none⟩) 512 cap] w (OpenedGood w zs)) := by
    have := open_good (cap := cap) hb hg
    rw [hl] at this
    exact Lib.hid this
  have HONE := Lib.hid (hd_one (hdOf zs))
  have h2 := hg.2.2.1
  have h3 := hg.2.2.2.1
  have HCL : Hid (∀ V, Below w.heap.size w V → Calls Try.prog 23 #[.slice (some ⟨g, off, none⟩) 512 cap, .int .i64 (i : Int)] V fun e w' => ∃ v, e = .returned v ∧ BytesOut V (cellOf zs i) v w') :=
    Lib.hid (fun V hV => cell_pos i (bytes_below hb hV) hl hcap hc63 (by omega) (good_cell hg i hin) hpos)
  obtain ⟨c, hcc⟩ : ∃ c, c = rd zs 14 2 := ⟨_, rfl⟩
  have HCC := Lib.hid hcc
  rw [← hcc] at hin h2
  have h26 : 26 + 4 * c ≤ 512 := by omega
  clear hb hg hl hcc h2 h3 hpos
  go_enter Try.func14, Try.ntmps14
  go_wp2_with (first | (go_at_call 16; refine HO.out.mono ?_; rintro e w' ⟨rfl, hbel⟩; have HB := Lib.hid hbel; clear hbel) | (refine wpList_store_row rfl 44 (.tmp 6) _ rfl w'.heap.size (hdOf zs).cells rfl rfl 44 _ (cells_new w' 44 head0) (size58 _ rfl) rfl HONE.out ?_; have HH1 : Hid (Cells ((w'.alloc (.cells #[.int .u32 0, .int .u32 0, .int .u32 0, .int .u64 0, .int .u8 0, .int .u8 0, .int .i64 0, .int .i64 0] 44)).setRow w'.heap.size (hdOf zs).cells) w'.heap.size 44 (hdOf zs).cells) := Lib.hid (setRow_heap _ _ _ (hdOf zs).cells _ _ (cells_new w' 44 head0)); have HB1 : Hid (Below w.heap.size w ((w'.alloc (.cells #[.int .u32 0, .int .u32 0, .int .u32 0, .int .u64 0, .int .u8 0, .int .u8 0, .int .i64 0, .int .i64 0] 44)).setRow w'.heap.size (hdOf zs).cells)) := Lib.hid (below_head HB.out HB.out.size (hdOf zs).cells); generalize (w'.alloc (.cells #[.int .u32 0, .int .u32 0, .int .u32 0, .int .u64 0, .int .u8 0, .int .u8 0, .int .i64 0, .int .i64 0] 44)).setRow w'.heap.size (hdOf zs).cells = V at HH1 HB1 ⊢; have c6 : V.cell? ⟨w'.heap.size, 6, none⟩ = some (.int .i64 (c : Int)) := by (rw [HCC.out]; exact (cell_of_row V w'.heap.size 6 _ _ _ HH1.out).trans rfl)) | (go_at_call 23; refine (HCL.out _ HB1.out).mono ?_; rintro e w4 ⟨v, rfl, hv⟩; have HV := Lib.hid hv; clear hv))
  go_ret2
  obtain ⟨g', rfl, hc', hs', hb'⟩ := HV.out
  exact ⟨_, rfl, g', rfl, hc', Nat.le_trans HB1.out.size hs', HB1.out.trans (hb'.mono HB1.out.size)⟩
end Go.Proofs.Ytaadeoobmclpcaa
