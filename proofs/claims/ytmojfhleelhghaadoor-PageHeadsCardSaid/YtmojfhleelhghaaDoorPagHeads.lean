/- What the law of heads walks over. -/
import Derived.Test.YtmojfhleelhghaaDoorPagHeadsA
namespace Go.Proofs.YtmojfhleelhghaaDoor
open Go.ChangeShapes Go.WideShapes Go.ChangeAt Go.RowKit

theorem cells_below {w w' : World} {g : Nat} {t : TypeId} {cs : Array Value} (h : Cells w g t cs) (hb : Below w.heap.size w w') : Cells w' g t cs := by
  unfold Cells
  rw [hb.block g (Array.getElem?_eq_some_iff.1 h).1]
  exact h
attribute [local irreducible] sealed linked
set_option maxRecDepth 100000 in
set_option maxHeartbeats 1000000 in
theorem heads_bad (a : Option Addr) (cap : Nat) (zs : List Nat) (x y : Int) (n : Int) (w : World) (hb : BytesAt w a zs) (hg : ¬ Good zs) :
    Calls Tryd.prog 7 #[.slice a zs.length cap, .int .i64 x, .int .i64 y, .int .u64 n] w (True' w) := by
  have HA := Lib.hid (awake_any w)
  have HS : Hid (∀ V, Below w.heap.size w V → Calls Tryd.prog 25 #[.slice a zs.length cap, .int .i64 x, .int .i64 y] V fun e w' => e = .returned (.tuple #[.slice none 0 0, .int .i64 4]) ∧ Below V.heap.size V w') := Lib.hid (fun V hV => set_bad x y (bytes_below hb hV) hg)
  have HG : Hid (∀ V, Below w.heap.size w V → Calls Tryd.prog 20 #[.slice a zs.length cap] V fun e w' => e = .returned (.bool false) ∧ Below V.heap.size V w') := Lib.hid (fun V hV => good_no (bytes_below hb hV) hg)
  clear hb hg
  go_enter Tryd.func7, Tryd.ntmps7
  go_wp2_with (first | (go_at_call 13; refine HA.out.mono ?_; rintro e w0 ⟨rfl, hb0⟩; have HB0 := Lib.hid hb0; clear hb0) | (go_at_call 25; refine (HS.out _ HB0.out).mono ?_; rintro e w1 ⟨rfl, hb1⟩; have HB1 := Lib.hid (HB0.out.trans (hb1.mono HB0.out.size)); clear hb1) | (go_at_call 20; refine (HG.out _ HB1.out).mono ?_; rintro e w2 ⟨rfl, hb2⟩; have HB2 := Lib.hid (HB1.out.trans (hb2.mono HB1.out.size)); clear hb2))
  go_ret
  exact ⟨rfl, HB2.out⟩
set_option maxRecDepth 100000 in
set_option maxHeartbeats 1000000 in
theorem heads_arg (a : Option Addr) (cap : Nat) (zs : List Nat) (x y : Int) (hxy : x < 0 ∨ 4294967295 < x ∨ y < 0 ∨ 4294967295 < y) (n : Int) (w : World) (hb : BytesAt w a zs) (hg : Good zs) :
    Calls Tryd.prog 7 #[.slice a zs.length cap, .int .i64 x, .int .i64 y, .int .u64 n] w (True' w) := by
  have HA := Lib.hid (awake_any w)
  have HS : Hid (∀ V, Below w.heap.size w V → Calls Tryd.prog 25 #[.slice a zs.length cap, .int .i64 x, .int .i64 y] V fun e w' => e = .returned (.tuple #[.slice none 0 0, .int .i64 1]) ∧ Below V.heap.size V w') := Lib.hid (fun V hV => set_arg x y hxy (bytes_below hb hV) hg)
  have HG : Hid (∀ V, Below w.heap.size w V → Calls Tryd.prog 20 #[.slice a zs.length cap] V fun e w' => e = .returned (.bool true) ∧ Below V.heap.size V w') := Lib.hid (fun V hV => good_yes (bytes_below hb hV) hg)
  clear hb hg hxy
  go_enter Tryd.func7, Tryd.ntmps7
  go_wp2_with (first | (go_at_call 13; refine HA.out.mono ?_; rintro e w0 ⟨rfl, hb0⟩; have HB0 := Lib.hid hb0; clear hb0) | (go_at_call 25; refine (HS.out _ HB0.out).mono ?_; rintro e w1 ⟨rfl, hb1⟩; have HB1 := Lib.hid (HB0.out.trans (hb1.mono HB0.out.size)); clear hb1) | (go_at_call 20; refine (HG.out _ HB1.out).mono ?_; rintro e w2 ⟨rfl, hb2⟩; have HB2 := Lib.hid (HB1.out.trans (hb2.mono HB1.out.size)); clear hb2))
  go_ret
  exact ⟨rfl, HB2.out⟩
set_option maxRecDepth 100000 in
set_option maxHeartbeats 2000000 in
theorem heads_good {b off cap : Nat} {zs : List Nat} (x y n : Nat) (hx : x < 4294967296) (hy : y < 4294967296) (hn : n < 18446744073709551616) {w : World} (hb : BytesAt w (some ⟨b, off, none⟩) zs) (hg : Good zs) (hT : TabAt w) (hcap : 512 ≤ cap) (hc63 : cap ≤ 9223372036854775807) :
    Calls Tryd.prog 7 #[.slice (some ⟨b, off, none⟩) 512 cap, .int .i64 (x : Int), .int .i64 (y : Int), .int .u64 (n : Int)] w (True' w) := by
  have hl : zs.length = 512 := hg.1
  have h26 : 26 ≤ zs.length := by omega
  have hz := hb.1
  have HA := Lib.hid (awake_any w)
  obtain ⟨q, hq⟩ : ∃ q, q = linked zs x y := ⟨_, rfl⟩
  have hqz : ∀ c ∈ q, c < 256 := by rw [hq]; exact linked_bytes hz x y
  have hqa : Alike zs q := by rw [hq]; exact linked_alike zs h26 x y
  have hqg := alike_good hqa hg
  have hql : q.length = 512 := hqg.1
  have hq26 : 26 ≤ q.length := by omega
  obtain ⟨s, hs⟩ : ∃ s, s = sealed q n := ⟨_, rfl⟩
  have hsz : ∀ c ∈ s, c < 256 := by rw [hs]; exact sealed_bytes hqz hq26 n
  have hsa : Alike q s := by rw [hs]; exact sealed_alike hqz hq26 n
  have hsg := alike_good hsa hqg
  have hsl : s.length = 512 := hsg.1
  have hs26 : 26 ≤ s.length := by omega
  obtain ⟨t, ht⟩ : ∃ t, t = linked s 0 0 := ⟨_, rfl⟩
  have htz : ∀ c ∈ t, c < 256 := by rw [ht]; exact linked_bytes hsz 0 0
  have hta : Alike s t := by rw [ht]; exact linked_alike s hs26 0 0
  have htg := alike_good hta hsg
  have htl : t.length = 512 := htg.1
  have hm5 : (512 : Nat) ≤ maxLen := by unfold maxLen; decide
  have HSet : Hid (∀ V, Below w.heap.size w V → Calls Tryd.prog 25 #[.slice (some ⟨b, off, none⟩) 512 cap, .int .i64 (x : Int), .int .i64 (y : Int)] V (PageOut V q)) := Lib.hid (fun V hV => by
    have := set_good (cap := cap) x y hx hy (bytes_below hb hV) hg
    rwa [wr_linked hz h26, ← hq] at this)
  have HSeal : Hid (∀ V g, Cells V g 5 (u8c q) → Below w.heap.size w V → Calls Tryd.prog 12 #[.slice (some ⟨g, 0, none⟩) 512 512, .int .u64 (n : Int)] V (PageOut V s)) := Lib.hid (fun V g hc hV => by
    have := seal_good (cap := 512) n hn (cells_bytes hc hqz (by rw [hql]; exact hm5)) hqg (tab_below hT hV)
    rwa [← hs] at this)
  have hk1 : (hdOf s).kind = (hdOf zs).kind := by
    show s.getD 12 0 = zs.getD 12 0
    rw [hs, sealed_kind hqz hq26, hq, linked_kind h26]
  have HHp : Hid (∀ V, Below w.heap.size w V → Calls Tryd.prog 26 #[.slice (some ⟨b, off, none⟩) 512 cap] V fun e w' => e = .returned (.tuple #[.int .i64 ((hdOf zs).kind : Int), .int .u64 ((hdOf zs).lsn : Int), .int .i64 ((hdOf zs).link : Int), .int .i64 ((hdOf zs).extra : Int), .int .i64 0]) ∧ Below V.heap.size V w') := Lib.hid (fun V hV => by
    have := head_good (cap := cap) (bytes_below hb hV) hg
    rwa [hl] at this)
  have HHs : Hid (∀ V g, Cells V g 5 (u8c s) → Calls Tryd.prog 26 #[.slice (some ⟨g, 0, none⟩) 512 512] V fun e w' => e = .returned (.tuple #[.int .i64 ((hdOf zs).kind : Int), .int .u64 (n : Int), .int .i64 (x : Int), .int .i64 (y : Int), .int .i64 0]) ∧ Below V.heap.size V w') := Lib.hid (fun V g hc => by
    have := head_good (cap := 512) (cells_bytes hc hsz (by rw [hsl]; exact hm5)) hsg
    rw [hsl, hk1, show (hdOf s).lsn = n from by (show rd s 4 8 = n; rw [hs]; exact sealed_lsn hqz hq26 n hn), show (hdOf s).link = x from by (show rd s 18 4 = x; rw [hs, sealed_rest hqz hq26 n 18 4 (by omega), hq]; exact linked_link hz h26 x y hx), show (hdOf s).extra = y from by (show rd s 22 4 = y; rw [hs, sealed_rest hqz hq26 n 22 4 (by omega), hq]; exact linked_extra hz h26 x y hy)] at this
    exact this)
  have HCp : Hid (∀ V, Below w.heap.size w V → Calls Tryd.prog 18 #[.slice (some ⟨b, off, none⟩) 512 cap] V (CellsOut V (rd zs 14 2) ((List.range (rd zs 14 2)).map (cellOf zs)))) := Lib.hid (fun V hV => cells_good (bytes_below hb hV) hg hcap hc63)
  have HCs : Hid (∀ V g, Cells V g 5 (u8c s) → Calls Tryd.prog 18 #[.slice (some ⟨g, 0, none⟩) 512 512] V (CellsOut V (rd zs 14 2) ((List.range (rd zs 14 2)).map (cellOf zs)))) := Lib.hid (fun V g hc => by
    have := cells_good (cap := 512) (cells_bytes hc hsz (by rw [hsl]; exact hm5)) hsg (Nat.le_refl _) (by decide)
    rwa [alike_cells (alike_trans hqa hsa) hg, alike_count (alike_trans hqa hsa)] at this)
  have HSet0 : Hid (∀ V g, Cells V g 5 (u8c s) → Calls Tryd.prog 25 #[.slice (some ⟨g, 0, none⟩) 512 512, .int .i64 0, .int .i64 0] V (PageOut V t)) := Lib.hid (fun V g hc => by
    have := set_good (cap := 512) 0 0 (by decide) (by decide) (cells_bytes hc hsz (by rw [hsl]; exact hm5)) hsg
    rw [wr_linked hsz hs26, ← ht] at this
    exact this)
  have HHt : Hid (∀ V g, Cells V g 5 (u8c t) → Calls Tryd.prog 26 #[.slice (some ⟨g, 0, none⟩) 512 512] V fun e w' => e = .returned (.tuple #[.int .i64 ((hdOf t).kind : Int), .int .u64 (n : Int), .int .i64 0, .int .i64 0, .int .i64 0]) ∧ Below V.heap.size V w') := Lib.hid (fun V g hc => by
    have := head_good (cap := 512) (cells_bytes hc htz (by rw [htl]; exact hm5)) htg
    rw [htl, show (hdOf t).lsn = n from by (show rd t 4 8 = n; rw [ht, linked_lsn hs26, hs]; exact sealed_lsn hqz hq26 n hn), show (hdOf t).link = 0 from by (show rd t 18 4 = 0; rw [ht]; exact linked_link hsz hs26 0 0 (by decide)), show (hdOf t).extra = 0 from by (show rd t 22 4 = 0; rw [ht]; exact linked_extra hsz hs26 0 0 (by decide))] at this
    exact this)
  have HCk : Hid (∀ V g, Cells V g 5 (u8c s) → Below w.heap.size w V → Calls Tryd.prog 15 #[.slice (some ⟨g, 0, none⟩) 512 512] V fun e w' => e = .returned (.int .i64 0) ∧ Below V.heap.size V w') := by
    refine Lib.hid (fun V g hc hV => ?_)
    refine (check_any (cap := 512) (cells_bytes hc hsz (by rw [hsl]; exact hm5)) hsl (Nat.le_refl _) (tab_below hT hV)).mono ?_
    rintro e w' ⟨c, rfl, hck, hbw⟩
    refine ⟨?_, hbw⟩
    rcases hck with ⟨_, rfl⟩ | ⟨_, h, _⟩ | ⟨_, _, h, _⟩ | ⟨_, _, _, rfl⟩
    · rfl
    · exact absurd hsg h
    · exact absurd (by rw [hs]; exact sealed_sum hqz hq26 n) h
    · rfl
  have HSH := Lib.hid (short_cells hz hl (rd zs 14 2))
  have h2 := hg.2.2.1
  have h3 := hg.2.2.2.1
  obtain ⟨c, hc⟩ : ∃ c, c = rd zs 14 2 := ⟨_, rfl⟩
  rw [← hc] at HCp HCs HSH h2
  have hc1 : c ≤ 1000 := by omega
  obtain ⟨ls, hls⟩ : ∃ ls, ls = (List.range c).map (cellOf zs) := ⟨_, rfl⟩
  rw [← hls] at HCp HCs HSH
  obtain ⟨k, hk⟩ : ∃ k, k = (hdOf zs).kind := ⟨_, rfl⟩
  rw [← hk] at HHp HHs
  have HC1 := Lib.hid hc1
  clear hb hg hT hl h26 hz hq hqz hqa hqg hql hq26 hs hsz hsa hsg hsl hs26 ht htz hta htg htl hm5 hk1 h2 h3 hc hls hk hcap hc63 hc1
  go_enter Tryd.func7, Tryd.ntmps7
  go_wp2_with fail
  refine HA.out.mono ?_
  rintro e w0 ⟨rfl, hb0⟩
  have HB0 := Lib.hid hb0; clear hb0
  go_wp2_with fail
  refine (HSet.out _ HB0.out).mono ?_
  rintro e w1 ⟨g1, rfl, hc1, _, hb1⟩
  have HQ1 := Lib.hid hc1; have HB1 : Hid (Below w.heap.size w w1) := Lib.hid (HB0.out.trans (hb1.mono HB0.out.size)); clear hc1 hb1
  go_wp2_with fail
  refine (HSeal.out _ _ HQ1.out HB1.out).mono ?_
  rintro e w2 ⟨g2, rfl, hc2, _, hb2⟩
  have HS2 := Lib.hid hc2; have HB2 : Hid (Below w.heap.size w w2) := Lib.hid (HB1.out.trans (hb2.mono HB1.out.size)); clear hc2 hb2
  go_wp2_with fail
  refine (HHp.out _ HB2.out).mono ?_
  rintro e w3 ⟨rfl, hb3⟩
  have HS3 := Lib.hid (cells_below HS2.out hb3); have HB3 : Hid (Below w.heap.size w w3) := Lib.hid (HB2.out.trans (hb3.mono HB2.out.size)); clear hb3
  go_wp2_with fail
  refine (HHs.out _ _ HS3.out).mono ?_
  rintro e w4 ⟨rfl, hb4⟩
  have HS4 := Lib.hid (cells_below HS3.out hb4); have HB4 : Hid (Below w.heap.size w w4) := Lib.hid (HB3.out.trans (hb4.mono HB3.out.size)); clear hb4
  go_wp2_with fail
  refine (HCp.out _ HB4.out).mono ?_
  rintro e w5 ⟨A, xs, rfl, hp5, hx5, he5, _, hb5⟩
  have HP5 := Lib.hid hp5; have HX5 := Lib.hid hx5; have HE5 := Lib.hid he5; have HS5 := Lib.hid (cells_below HS4.out hb5); have HB5 : Hid (Below w.heap.size w w5) := Lib.hid (HB4.out.trans (hb5.mono HB4.out.size)); clear hp5 hx5 he5 hb5
  go_wp2_with fail
  refine (HCs.out _ _ HS5.out).mono ?_
  rintro e w6 ⟨B, ys, rfl, hp6, hx6, he6, _, hb6⟩
  have HP6 := Lib.hid hp6; have HX6 := Lib.hid hx6; have HE6 := Lib.hid he6; have HA6 := Lib.hid (rowsPart_below HP5.out hb6); have HS6 := Lib.hid (cells_below HS5.out hb6); have HB6 : Hid (Below w.heap.size w w6) := Lib.hid (HB5.out.trans (hb6.mono HB5.out.size)); clear hp6 hx6 he6 hb6
  go_wp2_with fail
  refine (HSet0.out _ _ HS6.out).mono ?_
  rintro e w7 ⟨g7, rfl, hc7, _, hb7⟩
  have HT7 := Lib.hid hc7; have HA7 := Lib.hid (rowsPart_below HA6.out hb7); have HP7 := Lib.hid (rowsPart_below HP6.out hb7); have HS7 := Lib.hid (cells_below HS6.out hb7); have HB7 : Hid (Below w.heap.size w w7) := Lib.hid (HB6.out.trans (hb7.mono HB6.out.size)); clear hc7 hb7
  go_wp2_with fail
  refine (HHt.out _ _ HT7.out).mono ?_
  rintro e w8 ⟨rfl, hb8⟩
  have HA8 := Lib.hid (rowsPart_below HA7.out hb8); have HP8 := Lib.hid (rowsPart_below HP7.out hb8); have HS8 := Lib.hid (cells_below HS7.out hb8); have HB8 : Hid (Below w.heap.size w w8) := Lib.hid (HB7.out.trans (hb8.mono HB7.out.size)); clear hb8
  go_wp2_with fail
  refine (lists_same HA8.out HP8.out HX5.out HX6.out (HE5.out.trans HE6.out.symm) (by rw [HE5.out]; exact HSH.out) HC1.out).mono ?_
  rintro e w9 ⟨rfl, hb9⟩
  have HS9 := Lib.hid (cells_below HS8.out hb9); have HB9 : Hid (Below w.heap.size w w9) := Lib.hid (HB8.out.trans (hb9.mono HB8.out.size)); clear hb9
  go_wp2_with fail
  refine (HCk.out _ _ HS9.out HB9.out).mono ?_
  rintro e w10 ⟨rfl, hb10⟩
  have HB10 : Hid (Below w.heap.size w w10) := Lib.hid (HB9.out.trans (hb10.mono HB9.out.size)); clear hb10
  go_wp2
  go_ret
  exact ⟨rfl, HB10.out⟩
end Go.Proofs.YtmojfhleelhghaaDoor
