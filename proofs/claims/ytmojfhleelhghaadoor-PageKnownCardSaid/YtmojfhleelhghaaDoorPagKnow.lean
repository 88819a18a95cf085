/- Chapter 5's examples: the walk. -/
import Derived.Test.YtmojfhleelhghaaDoorPagKnowA
namespace Go.Proofs.YtmojfhleelhghaaDoor
open Go.ChangeShapes Go.WideShapes Go.ChangeAt Go.RowKit

attribute [local irreducible] page1 pA pB pC pD pT insOf removed sealed
theorem cells_next {w w' : World} {g : Nat} {t : TypeId} {cs : Array Value} (h : Cells w g t cs) (hb : Below w.heap.size w w') : Cells w' g t cs := cells_under h hb (Array.getElem?_eq_some_iff.1 h).1
theorem kc1 (w : World) : (convert 22 22 (.slice (some ⟨w.heap.size, 0, none⟩) 1 1)).run Tryd.prog (w.alloc (.cells #[.int .u8 99] 5)) = .ok (.slice (some ⟨w.heap.size, 0, none⟩) 1 1) (w.alloc (.cells #[.int .u8 99] 5 (1, 2))) :=
  Lib.run_convert_bytes_const (P := Tryd.prog) w 22 5 #[.int .u8 99] 1 1 Tryd.underlying22 Tryd.underlying5
theorem made_zeros (n : Nat) : (madeCells (Value.cells (.int .u8 0)) (n * 1)).toList = u8s (List.replicate n 0) := by
  rw [show Value.cells (.int .u8 0) = #[.int .u8 0] from rfl, toList_madeCells_one]
  simp only [u8s, List.map_replicate, Nat.mul_one]
  rfl
theorem zeros_bytes (n : Nat) : ∀ c ∈ List.replicate n 0, c < 256 := by
  intro c h
  rw [List.mem_replicate] at h
  omega
theorem wpList_make_wanted {P : Program} (w : World) {ops : Array Oper} {rest : List Oper} {o : Oper} {a : Act} {Q : Exit → Act → World → Prop}
    (hw : Region.wanted o (yielded ops a.tmps) = true) (l c : Operand) (t : TypeId) (hop : o.op = Op.makeSlice t l c)
    (base : Nat) (e : TypeId) (i : TypeInfo) (z : Value) (size : Nat) (h1 : P.underlying t = some (.slice e)) (h2 : P.info? e = some i) (h3 : i.zero = some z) (h4 : i.size = size)
    (kl kc : IntKind) (L C : Int) (n : Nat) (hl : a.eval l = .int kl L) (hc : a.eval c = .int kc C) (hL : L = (n : Int)) (hC : C = (n : Int)) (b2 : i.bytes * n ≤ 281474976710656) (b3 : n ≤ maxLen) (b4 : base ≤ w.heap.size)
    (hK : ∀ w', w'.ownsRow base e size (.slice (some ⟨w.heap.size, 0, none⟩) n n) n (madeCells z.cells (n * size)).toList → w.grownBy w' none → wpList P ops Q rest (a.put o.dst (.slice (some ⟨w.heap.size, 0, none⟩) n n)) w') :
    wpList P ops Q (o :: rest) a w := by
  refine wpList_wanted hw fun K hK' => ?_
  obtain ⟨w', hrun, r1, r2⟩ := run_make_full (P := P) w base t e i z size h1 h2 h3 h4 kl kc n b2 b3 b4
  subst hL
  subst hC
  unfold Oper.wp
  simp [execOp, hop, hl, hc, hrun, Result.andThen]
  exact hK' _ _ (hK w' r1 r2)
/-- Where the cells begin, as a page says. -/
theorem low_any {g : Nat} {zs : List Nat} {w : World} (hb : BytesAt w (some ⟨g, 0, none⟩) zs) (hl : zs.length = 512) :
    Calls Tryd.prog 14 #[.slice (some ⟨g, 0, none⟩) 512 512] w fun e w' => e = .returned (.int .i64 (rd zs 16 2 : Int)) ∧ w = w' := by
  have hG := refget_any (some ⟨g, 0, none⟩) 512 zs 16 2 w hb (by omega) (by omega)
  rw [hl] at hG
  have hlt : num ((zs.drop 16).take 2) < 65536 := rd2 hb.1 16 (by omega)
  obtain ⟨x, hx⟩ : ∃ x, x = num ((zs.drop 16).take 2) := ⟨_, rfl⟩
  have HX : Hid ((rd zs 16 2 : Int) = (x : Int)) := Lib.hid (by rw [hx]; rfl)
  rw [← hx] at hG hlt
  have HG := Lib.hid hG
  clear hG hx hb hl
  rw [HX.out]
  go_enter Tryd.func14, Tryd.ntmps14
  go_wp2_with (go_at_call 34; refine HG.out.mono ?_; rintro e w' ⟨rfl, rfl⟩)
  go_ret
  exact ⟨rfl, rfl⟩
theorem check_page {g : Nat} {zs : List Nat} (c : Int) {w : World} (hb : Cells w g 5 (u8c zs)) (hz : ∀ d ∈ zs, d < 256) (hl : zs.length = 512) (hT : TabAt w) (hc : ∀ d, checkOf zs d → d = c) :
    Calls Tryd.prog 15 #[.slice (some ⟨g, 0, none⟩) 512 512] w fun e w' => e = .returned (.int .i64 c) ∧ Below w.heap.size w w' :=
  (check_any (cells_bytes hb hz (by rw [hl]; unfold maxLen; decide)) hl (Nat.le_refl _) hT).mono fun _ _ ⟨d, he, hd, hbw⟩ => ⟨by rw [he, hc d hd], hbw⟩
theorem page_len {zs : List Nat} (h : zs.length = 512) : zs.length ≤ maxLen := by rw [h]; unfold maxLen; decide
set_option maxHeartbeats 1000000 in
set_option maxRecDepth 100000 in
theorem known_walk (w : World) (hT : TabAt w) : Calls Tryd.prog 3 #[] w fun e w' => e = .returned (.bool true) ∧ Below w.heap.size w w' := by
  have HT := Lib.hid hT
  clear hT
  have HN : Hid (Calls Tryd.prog 8 #[.int .i64 1] w (PageOut w page1)) := Lib.hid (by rw [← page1_eq]; exact new_any 1 (by decide) w)
  obtain ⟨i0, hi, hz0, hz1, hz2⟩ := info_parts info5
  have HBT : Hid (∀ n, n ≤ 512 → i0.bytes * n ≤ 281474976710656) := Lib.hid (fun n h => by rw [hz2]; omega)
  have HMX : Hid (∀ n, n ≤ 512 → n ≤ maxLen) := Lib.hid (fun n h => by unfold maxLen; omega)
  go_enter Tryd.func3, Tryd.ntmps3
  go_wp2_with (go_at_call 8; refine HN.out.mono ?_; rintro e w1 ⟨g0, rfl, hc1, hs1, hb1⟩; have HP1 := Lib.hid hc1; have HB1 := Lib.hid hb1; clear hc1 hs1 hb1; have kc := kcab w1)
  have HVb : Hid (Below w1.heap.size w1 (w1.alloc (.cells #[.int .u8 97, .int .u8 98] 5 (2, 3)))) := Lib.hid (below_alloc w1 _)
  have HQ : Hid (BytesAt (w1.alloc (.cells #[.int .u8 97, .int .u8 98] 5 (2, 3))) (some ⟨w1.heap.size, 0, none⟩) [97, 98]) := Lib.hid (bytes_alloc w1 [97, 98] (by decide) (by unfold maxLen; decide) (2, 3))
  clear kc
  generalize w1.alloc (.cells #[.int .u8 97, .int .u8 98] 5 (2, 3)) = V1 at HVb HQ ⊢
  have HP2 := Lib.hid (cells_next HP1.out HVb.out)
  have HB2 : Hid (Below w.heap.size w V1) := Lib.hid (HB1.out.trans (HVb.out.mono HB1.out.size))
  have HI : Hid (Calls Tryd.prog 9 #[.slice (some ⟨g0, 0, none⟩) 512 512, .int .i64 0, .slice (some ⟨w1.heap.size, 0, none⟩) 2 2] V1 (PageOut V1 pA)) := by
    refine Lib.hid ?_
    have := insert_any (cap := 512) (ccap := 2) 0 (cells_bytes HP2.out page1_bytes (page_len page1_good.1)) (Nat.le_refl _) (by decide) page1_good HQ.out (Nat.zero_le _) (by rw [page1_count]; decide)
    rw [pA_eq] at this
    exact this
  refine HI.out.mono ?_
  rintro e w3 ⟨gA, rfl, hc3, hs3, hb3⟩
  have HA3 := Lib.hid hc3
  have HP3 := Lib.hid (cells_next HP2.out hb3)
  have HB3 : Hid (Below w.heap.size w w3) := Lib.hid (HB2.out.trans (hb3.mono HB2.out.size))
  clear hc3 hs3 hb3 HI HQ HVb HP1 HP2 HB1 HB2 HN
  have kc := kc1 w3
  go_wp2_with fail
  have HVb : Hid (Below w3.heap.size w3 (w3.alloc (.cells #[.int .u8 99] 5 (1, 2)))) := Lib.hid (below_alloc w3 _)
  have HQ : Hid (BytesAt (w3.alloc (.cells #[.int .u8 99] 5 (1, 2))) (some ⟨w3.heap.size, 0, none⟩) [99]) := Lib.hid (bytes_alloc w3 [99] (by decide) (by unfold maxLen; decide) (1, 2))
  clear kc
  generalize w3.alloc (.cells #[.int .u8 99] 5 (1, 2)) = V3 at HVb HQ ⊢
  have HP4 := Lib.hid (cells_next HP3.out HVb.out)
  have HA4 := Lib.hid (cells_next HA3.out HVb.out)
  have HB4 : Hid (Below w.heap.size w V3) := Lib.hid (HB3.out.trans (HVb.out.mono HB3.out.size))
  have HI : Hid (Calls Tryd.prog 9 #[.slice (some ⟨gA, 0, none⟩) 512 512, .int .i64 0, .slice (some ⟨w3.heap.size, 0, none⟩) 1 1] V3 (PageOut V3 pB)) := by
    refine Lib.hid ?_
    have := insert_any (cap := 512) (ccap := 1) 0 (cells_bytes HA4.out pA_bytes (page_len pA_good.1)) (Nat.le_refl _) (by decide) pA_good HQ.out (Nat.zero_le _) (by rw [pA_count, pA_sizes]; decide)
    rw [pB_eq] at this
    exact this
  refine HI.out.mono ?_
  rintro e w5 ⟨gB, rfl, hc5, hs5, hb5⟩
  have HBB5 := Lib.hid hc5
  have HP5 := Lib.hid (cells_next HP4.out hb5)
  have HB5 : Hid (Below w.heap.size w w5) := Lib.hid (HB4.out.trans (hb5.mono HB4.out.size))
  clear hc5 hs5 hb5 HI HQ HVb HP3 HP4 HA3 HA4 HB3 HB4
  have HR : Hid (Calls Tryd.prog 10 #[.slice (some ⟨gB, 0, none⟩) 512 512, .int .i64 0] w5 (PageOut w5 pC)) := by
    refine Lib.hid ?_
    have := remove_good (cap := 512) 0 (cells_bytes HBB5.out pB_bytes (page_len pB_good.1)) pB_good (by rw [pB_count]; decide)
    rw [pC_eq] at this
    exact this
  go_wp2_with (first | (go_at_call 10; refine HR.out.mono ?_; rintro e w6 ⟨gC, rfl, hc6, hs6, hb6⟩; have HC6 := Lib.hid hc6; have HP6 := Lib.hid (cells_next HP5.out hb6); have HBB6 := Lib.hid (cells_next HBB5.out hb6); have HB6 : Hid (Below w.heap.size w w6) := Lib.hid (HB5.out.trans (hb6.mono HB5.out.size)); clear hc6 hs6 hb6) | (at_make; refine wpList_make_full _ rfl _ _ 22 rfl _ 5 i0 (.int .u8 0) 1 Tryd.underlying22 hi hz0 hz1 .i64 .i64 477 477 477 rfl rfl rfl rfl (HBT.out 477 (by decide)) (HMX.out 477 (by decide)) (Nat.le_refl _) ?_; intro w7 ho hg; rw [made_zeros] at ho; have HM7 := Lib.hid (own_cells ho); have hgb : Below w6.heap.size w6 w7 := (Below.refl w6.heap.size w6).grown hg (Nat.le_refl _) (fun k hk => by cases hk); have HP7 := Lib.hid (cells_under HP6.out hgb (Array.getElem?_eq_some_iff.1 HP6.out).1); have HBB7 := Lib.hid (cells_under HBB6.out hgb (Array.getElem?_eq_some_iff.1 HBB6.out).1); have HC7 := Lib.hid (cells_under HC6.out hgb (Array.getElem?_eq_some_iff.1 HC6.out).1); have HB7 : Hid (Below w.heap.size w w7) := Lib.hid (HB6.out.trans (hgb.mono HB6.out.size)); clear ho hg hgb))
  have hMl : (List.replicate 477 0).length = 477 := List.length_replicate
  have HI : Hid (Calls Tryd.prog 9 #[.slice (some ⟨gC, 0, none⟩) 512 512, .int .i64 1, .slice (some ⟨w6.heap.size, 0, none⟩) 477 477] w7 fun e w' => e = .returned (.tuple #[.slice none 0 0, .int .i64 7]) ∧ Below w7.heap.size w7 w') := by
    refine Lib.hid ?_
    exact insert_full (m := 477) 1 (cells_bytes HC7.out pC_bytes (page_len pC_good.1)) pC_good (HMX.out _ (by decide)) (by rw [pC_count]; decide) (by rw [pC_count, pC_sizes]; decide)
  clear hMl
  go_wp2_with (first | (go_at_call 9; (with_reducible refine HI.out.mono ?_); rintro e w8 ⟨rfl, hb8⟩; have HC8 := Lib.hid (cells_next HC7.out hb8); have HP8 := Lib.hid (cells_next HP7.out hb8); have HBB8 := Lib.hid (cells_next HBB7.out hb8); have HB8 : Hid (Below w.heap.size w w8) := Lib.hid (HB7.out.trans (hb8.mono HB7.out.size)); clear hb8) | (at_make; refine wpList_make_full _ rfl _ _ 22 rfl _ 5 i0 (.int .u8 0) 1 Tryd.underlying22 hi hz0 hz1 .i64 .i64 476 476 476 rfl rfl rfl rfl (HBT.out 476 (by decide)) (HMX.out 476 (by decide)) (Nat.le_refl _) ?_; intro w9 ho hg; rw [made_zeros] at ho; have HM9 := Lib.hid (own_cells ho); have hgb : Below w8.heap.size w8 w9 := (Below.refl w8.heap.size w8).grown hg (Nat.le_refl _) (fun k hk => by cases hk); have HP9 := Lib.hid (cells_under HP8.out hgb (Array.getElem?_eq_some_iff.1 HP8.out).1); have HBB9 := Lib.hid (cells_under HBB8.out hgb (Array.getElem?_eq_some_iff.1 HBB8.out).1); have HC9 := Lib.hid (cells_under HC8.out hgb (Array.getElem?_eq_some_iff.1 HC8.out).1); have HB9 : Hid (Below w.heap.size w w9) := Lib.hid (HB8.out.trans (hgb.mono HB8.out.size)); clear ho hg hgb))
  clear HI HC7 HP7 HBB7 HB7 HM7 HC6 HP6 HBB6 HB6 HR HBB5 HP5 HB5 HC8 HP8 HBB8 HB8
  have HI : Hid (Calls Tryd.prog 9 #[.slice (some ⟨gC, 0, none⟩) 512 512, .int .i64 1, .slice (some ⟨w8.heap.size, 0, none⟩) 476 476] w9 (PageOut w9 pD)) := by
    refine Lib.hid ?_
    have hq : BytesAt w9 (some ⟨w8.heap.size, 0, none⟩) (List.replicate 476 0) := cells_bytes HM9.out (zeros_bytes 476) (by rw [List.length_replicate]; exact HMX.out _ (by decide))
    have := insert_any (cap := 512) (ccap := 476) 1 (cells_bytes HC9.out pC_bytes (page_len pC_good.1)) (Nat.le_refl _) (by decide) pC_good hq (by rw [pC_count]; decide) (by rw [pC_count, pC_sizes, List.length_replicate]; decide)
    rw [pD_eq, List.length_replicate] at this
    exact this
  go_wp2_with (first | (go_at_call 9; (with_reducible refine HI.out.mono ?_); rintro e w10 ⟨gD, rfl, hc10, hs10, hb10⟩; have HD10 := Lib.hid hc10; have HC10 := Lib.hid (cells_next HC9.out hb10); have HP10 := Lib.hid (cells_next HP9.out hb10); have HBB10 := Lib.hid (cells_next HBB9.out hb10); have HB10 : Hid (Below w.heap.size w w10) := Lib.hid (HB9.out.trans (hb10.mono HB9.out.size)); clear hc10 hs10 hb10) | (at_make; refine wpList_make_full _ rfl _ _ 22 rfl _ 5 i0 (.int .u8 0) 1 Tryd.underlying22 hi hz0 hz1 .i64 .i64 10 10 10 rfl rfl rfl rfl (HBT.out 10 (by decide)) (HMX.out 10 (by decide)) (Nat.le_refl _) ?_; intro w11 ho hg; rw [made_zeros] at ho; have HM11 := Lib.hid (own_cells ho); have hgb : Below w10.heap.size w10 w11 := (Below.refl w10.heap.size w10).grown hg (Nat.le_refl _) (fun k hk => by cases hk); have HP11 := Lib.hid (cells_under HP10.out hgb (Array.getElem?_eq_some_iff.1 HP10.out).1); have HBB11 := Lib.hid (cells_under HBB10.out hgb (Array.getElem?_eq_some_iff.1 HBB10.out).1); have HC11 := Lib.hid (cells_under HC10.out hgb (Array.getElem?_eq_some_iff.1 HC10.out).1); have HD11 := Lib.hid (cells_under HD10.out hgb (Array.getElem?_eq_some_iff.1 HD10.out).1); have HB11 : Hid (Below w.heap.size w w11) := Lib.hid (HB10.out.trans (hgb.mono HB10.out.size)); clear ho hg hgb))
  clear HI HC9 HP9 HBB9 HB9 HM9 HC10 HP10 HBB10 HB10 HD10
  have HI : Hid (Calls Tryd.prog 9 #[.slice (some ⟨g0, 0, none⟩) 512 512, .int .i64 0, .slice (some ⟨w10.heap.size, 0, none⟩) 10 10] w11 (PageOut w11 pT)) := by
    refine Lib.hid ?_
    have hq : BytesAt w11 (some ⟨w10.heap.size, 0, none⟩) (List.replicate 10 0) := cells_bytes HM11.out (zeros_bytes 10) (by rw [List.length_replicate]; exact HMX.out _ (by decide))
    have := insert_any (cap := 512) (ccap := 10) 0 (cells_bytes HP11.out page1_bytes (page_len page1_good.1)) (Nat.le_refl _) (by decide) page1_good hq (Nat.zero_le _) (by rw [page1_count, List.length_replicate]; decide)
    rw [pT_eq, List.length_replicate] at this
    exact this
  go_wp2_with (go_at_call 9; (with_reducible refine HI.out.mono ?_); rintro e w12 ⟨gT, rfl, hc12, hs12, hb12⟩; have HTT12 := Lib.hid hc12; have HD12 := Lib.hid (cells_next HD11.out hb12); have HC12 := Lib.hid (cells_next HC11.out hb12); have HP12 := Lib.hid (cells_next HP11.out hb12); have HBB12 := Lib.hid (cells_next HBB11.out hb12); have HB12 : Hid (Below w.heap.size w w12) := Lib.hid (HB11.out.trans (hb12.mono HB11.out.size)); clear hc12 hs12 hb12)
  clear HI HC11 HP11 HBB11 HB11 HM11 HD11
  have HFP : Hid (Calls Tryd.prog 11 #[.slice (some ⟨g0, 0, none⟩) 512 512] w12 fun e w' => e = .returned (.tuple #[.int .i64 486, .int .i64 0]) ∧ Below w12.heap.size w12 w') := by
    refine Lib.hid ?_
    have := Free_good (cap := 512) (cells_bytes HP12.out page1_bytes (page_len page1_good.1)) page1_good
    rw [page1_free] at this
    exact this
  refine HFP.out.mono ?_
  rintro e w13 ⟨rfl, hb13⟩
  have HP13 := Lib.hid (cells_next HP12.out hb13)
  have HBB13 := Lib.hid (cells_next HBB12.out hb13)
  have HC13 := Lib.hid (cells_next HC12.out hb13)
  have HD13 := Lib.hid (cells_next HD12.out hb13)
  have HTT13 := Lib.hid (cells_next HTT12.out hb13)
  have HB13 : Hid (Below w.heap.size w w13) := Lib.hid (HB12.out.trans (hb13.mono HB12.out.size))
  clear hb13 HFP
  have HFT : Hid (Calls Tryd.prog 11 #[.slice (some ⟨gT, 0, none⟩) 512 512] w13 fun e w' => e = .returned (.tuple #[.int .i64 472, .int .i64 0]) ∧ Below w13.heap.size w13 w') := by
    refine Lib.hid ?_
    have := Free_good (cap := 512) (cells_bytes HTT13.out pT_bytes (page_len pT_good.1)) pT_good
    rw [pT_free] at this
    exact this
  go_wp2_with fail
  refine HFT.out.mono ?_
  rintro e w14 ⟨rfl, hb14⟩
  have HP14 := Lib.hid (cells_next HP13.out hb14)
  have HBB14 := Lib.hid (cells_next HBB13.out hb14)
  have HC14 := Lib.hid (cells_next HC13.out hb14)
  have HD14 := Lib.hid (cells_next HD13.out hb14)
  have HB14 : Hid (Below w.heap.size w w14) := Lib.hid (HB13.out.trans (hb14.mono HB13.out.size))
  clear hb14 HFT
  have HSE : Hid (Calls Tryd.prog 12 #[.slice (some ⟨g0, 0, none⟩) 512 512, .int .u64 5] w14 (PageOut w14 (sealed page1 5))) := Lib.hid (seal_good (cap := 512) 5 (by decide) (cells_bytes HP14.out page1_bytes (page_len page1_good.1)) page1_good (tab_below HT.out HB14.out))
  go_wp2_with fail
  refine HSE.out.mono ?_
  rintro e w15 ⟨gS, rfl, hc15, hs15, hb15⟩
  have HS15 := Lib.hid hc15
  have HP15 := Lib.hid (cells_next HP14.out hb15)
  have HBB15 := Lib.hid (cells_next HBB14.out hb15)
  have HC15 := Lib.hid (cells_next HC14.out hb15)
  have HD15 := Lib.hid (cells_next HD14.out hb15)
  have HB15 : Hid (Below w.heap.size w w15) := Lib.hid (HB14.out.trans (hb15.mono HB14.out.size))
  clear hc15 hs15 hb15 HSE
  clear HP12 HBB12 HC12 HD12 HTT12 HB12 HP13 HBB13 HC13 HD13 HTT13 HB13 HP14 HBB14 HC14 HD14 HB14
  go_wp2_with fail
  refine (awake_any w15).mono ?_
  rintro e w16 ⟨rfl, hb16⟩
  have HP16 := Lib.hid (cells_next HP15.out hb16)
  have HBB16 := Lib.hid (cells_next HBB15.out hb16)
  have HC16 := Lib.hid (cells_next HC15.out hb16)
  have HD16 := Lib.hid (cells_next HD15.out hb16)
  have HS16 := Lib.hid (cells_next HS15.out hb16)
  have HB16 : Hid (Below w.heap.size w w16) := Lib.hid (HB15.out.trans (hb16.mono HB15.out.size))
  clear hb16
  clear HP15 HBB15 HC15 HD15 HS15 HB15
  have HL1 := low_any (cells_bytes HBB16.out pB_bytes (page_len pB_good.1)) pB_good.1
  rw [pB_low] at HL1
  have HL1' : Hid (Calls Tryd.prog 14 #[.slice (some ⟨gB, 0, none⟩) 512 512] w16 fun e w' => e = .returned (.int .i64 509) ∧ w16 = w') := Lib.hid HL1
  clear HL1
  have HL2 := low_any (cells_bytes HC16.out pC_bytes (page_len pC_good.1)) pC_good.1
  rw [pC_low] at HL2
  have HL2' : Hid (Calls Tryd.prog 14 #[.slice (some ⟨gC, 0, none⟩) 512 512] w16 fun e w' => e = .returned (.int .i64 509) ∧ w16 = w') := Lib.hid HL2
  clear HL2
  have HL3 := low_any (cells_bytes HD16.out pD_bytes (page_len pD_length)) pD_length
  rw [pD_low] at HL3
  have HL3' : Hid (Calls Tryd.prog 14 #[.slice (some ⟨gD, 0, none⟩) 512 512] w16 fun e w' => e = .returned (.int .i64 34) ∧ w16 = w') := Lib.hid HL3
  clear HL3
  go_wp2_with fail
  refine HL1'.out.mono ?_
  rintro e w' ⟨rfl, rfl⟩
  go_wp2_with fail
  refine HL2'.out.mono ?_
  rintro e w' ⟨rfl, rfl⟩
  go_wp2_with (first | (go_at_call 14; refine HL3'.out.mono ?_; rintro e w' ⟨rfl, rfl⟩) | (refine wpList_make_wanted _ rfl _ _ 22 rfl _ 5 i0 (.int .u8 0) 1 Tryd.underlying22 hi hz0 hz1 .i64 .i64 512 512 512 rfl rfl rfl rfl (HBT.out 512 (by decide)) (HMX.out 512 (by decide)) (Nat.le_refl _) ?_; intro w17 ho hg; rw [made_zeros] at ho; have HM17 := Lib.hid (own_cells ho); have hgb : Below w16.heap.size w16 w17 := (Below.refl w16.heap.size w16).grown hg (Nat.le_refl _) (fun k hk => by cases hk); have HP17 := Lib.hid (cells_next HP16.out hgb); have HS17 := Lib.hid (cells_next HS16.out hgb); have HB17 : Hid (Below w.heap.size w w17) := Lib.hid (HB16.out.trans (hgb.mono HB16.out.size)); clear ho hg hgb))
  clear HL1' HL2' HL3' HBB16 HC16 HD16
  have HC1 : Hid (Calls Tryd.prog 15 #[.slice (some ⟨w16.heap.size, 0, none⟩) 512 512] w17 fun e w' => e = .returned (.int .i64 0) ∧ Below w17.heap.size w17 w') := Lib.hid (check_page (zs := noughts) 0 HM17.out noughts_bytes List.length_replicate (tab_below HT.out HB17.out) noughts_check)
  refine HC1.out.mono ?_
  rintro e w18 ⟨rfl, hb18⟩
  have HP18 := Lib.hid (cells_next HP17.out hb18)
  have HS18 := Lib.hid (cells_next HS17.out hb18)
  have HB18 : Hid (Below w.heap.size w w18) := Lib.hid (HB17.out.trans (hb18.mono HB17.out.size))
  clear hb18 HC1
  have HC2 : Hid (Calls Tryd.prog 15 #[.slice (some ⟨g0, 0, none⟩) 512 512] w18 fun e w' => e = .returned (.int .i64 8) ∧ Below w18.heap.size w18 w') := Lib.hid (check_page 8 HP18.out page1_bytes page1_good.1 (tab_below HT.out HB18.out) page1_check)
  go_wp2_with fail
  refine HC2.out.mono ?_
  rintro e w19 ⟨rfl, hb19⟩
  have HS19 := Lib.hid (cells_next HS18.out hb19)
  have HB19 : Hid (Below w.heap.size w w19) := Lib.hid (HB18.out.trans (hb19.mono HB18.out.size))
  clear hb19 HC2
  have hsg := sealed_good page1_bytes page1_good 5
  have HC3 : Hid (Calls Tryd.prog 15 #[.slice (some ⟨gS, 0, none⟩) 512 512] w19 fun e w' => e = .returned (.int .i64 0) ∧ Below w19.heap.size w19 w') := Lib.hid (check_page 0 HS19.out (sealed_bytes page1_bytes (by rw [page1_good.1]; decide) 5) hsg.1 (tab_below HT.out HB19.out) sealed_check)
  clear hsg
  go_wp2_with fail
  refine HC3.out.mono ?_
  rintro e w20 ⟨rfl, hb20⟩
  have HB20 : Hid (Below w.heap.size w w20) := Lib.hid (HB19.out.trans (hb20.mono HB19.out.size))
  clear hb20 HC3
  go_wp2
  go_ret
  exact ⟨rfl, HB20.out⟩
end Go.Proofs.YtmojfhleelhghaaDoor
