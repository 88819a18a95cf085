/- Those who wait for a name are served: the walk. -/
import Derived.Test.YthanjncpgcmnaaaLckSrvB
namespace Go.Proofs.Ythanjncpgcmnaaa
open Go.ChangeShapes Go.WideShapes Go.ChangeAt Go.RowKit

/-- The length of the queue behind a lock's second cell. -/
def qlen (w : World) (kb : Nat) : Nat := match w.cell? ⟨kb, 1, none⟩ with
  | some (.slice _ n _) => n
  | _ => 0
theorem qlen_of {w : World} {g : Nat} {S : St} {x : Gh} {N : Nat} (H : Tab w g S x N) {nm : ByteArray} {k : LkG} (hk : x.lk nm = some k) : qlen w k.b = (S.queue nm).length := by
  have h := H.locks.each nm k hk
  obtain ⟨ao, cap, hv, _⟩ := slc_form h.slc
  rw [qlen, (lk_cells h).2, hv]
theorem qcells_cons (p : Nat × Nat) (r : List (Nat × Nat)) : qcells (p :: r) = .int .u64 (p.1 : Int) :: .int .i64 (p.2 : Int) :: qcells r := rfl
theorem path_len {nm : ByteArray} {S S' : St} {outs : List Nat} (h : Path nm S S' outs) : outs.length + (S'.queue nm).length = (S.queue nm).length := by
  induction h with
  | start => simp
  | snoc _ hq _ ih =>
    rw [hq] at ih
    rw [List.length_append]
    simp [given, granted] at ih ⊢
    omega
theorem hn_slc {w : World} {bo : Option Nat} {v : Value} {n k : Nat} {xs : List Value} (hn : n = k) (h : Slc w bo 2 v n xs) : Slc w bo 2 v k xs := by subst hn; exact h
set_option maxRecDepth 100000 in
set_option maxHeartbeats 4000000 in
theorem serve_any {w : World} {g : Nat} {S : St} {x : Gh} {N : Nat} (H : Tab w g S x N) (hN : N < 8796093022208) (hf : Wf S) {nm : ByteArray} (hn : nm.size ≤ maxLen) {k : LkG} (hk : x.lk nm = some k) :
    Calls Try.prog 41 #[.pointer (some ⟨g, 0, none⟩), .string nm] w (Served w g S x N nm) := by
  obtain ⟨c0, c1⟩ := tab_cells H
  have hl := look_lk H.locks hn
  rw [hk] at hl
  simp only [Option.map_some, ptr] at hl
  have HS := Lib.hid (show Srv w w g S x N nm k.b S x [] (.slice none 0 0) none from ⟨H, ⟨k, hk, rfl⟩, fun _ h => h, Steps.refl _ _, slc_nil _ _, (fun b e => by cases e), .start, hf⟩)
  have HN := Lib.hid hN; have HNM := Lib.hid hn
  obtain ⟨iu, RU⟩ := rowU64
  have HQ0 : Hid ((S.queue nm).length ≤ N) := Lib.hid (by have := (H.locks.each nm k hk).few; omega)
  have HRU := Lib.hid RU
  generalize hR : Served w g S x N nm = R
  have HR := Lib.hid hR
  obtain ⟨kb, hkb⟩ : ∃ kb, kb = k.b := ⟨_, rfl⟩
  rw [← hkb] at hl HS
  clear H hN hf hn hk hR RU hkb c1
  go_enter Try.func41, Try.ntmps41
  go_wp2
  clear hl c0
  go_loopw [6] (fun v wr => ∃ S' x' outs bo, Hid (Srv w wr g S x N nm kb S' x' outs v bo)) (fun _ wr => qlen wr kb)
  case atStart => exact ⟨S, x, [], none, HS⟩
  case round =>
    obtain ⟨S', x', outs, bo, hs⟩ := hrel
    obtain ⟨k', hk', hkb'⟩ := hs.out.lk
    have HT := Lib.hid hs.out.tab
    have h := hs.out.tab.locks.each nm k' hk'
    obtain ⟨k0, k1⟩ := lk_cells h
    rw [hkb'] at k0 k1
    have HK := Lib.hid hk'; have HKB := Lib.hid hkb'
    have hql := qlen_of hs.out.tab hk'
    rw [hkb'] at hql
    have HQL := Lib.hid hql
    cases hq : S'.queue nm with
    | nil =>
      obtain ⟨ao, cap, hv, -⟩ := slc_form h.slc
      rw [hq] at hv
      simp only [List.length_nil] at hv
      rw [hv] at k1
      have HQ := Lib.hid hq
      clear h hk' hkb' hql hv hq
      go_wp2
      go_quiet (fail)
      have hs2 := srv_below hs.out (below_drew1 wr nq)
      generalize wr.drewN nq = wq at hs2 ⊢
      obtain ⟨k2, hk2, hkb2⟩ := hs2.lk
      have h2 := hs2.tab.locks.each nm k2 hk2
      obtain ⟨m0, m1⟩ := lk_cells h2
      obtain ⟨c0, -⟩ := tab_cells hs2.tab
      rw [hs2.steps.lm] at c0
      rw [hkb2] at m0 m1
      obtain ⟨a2, cap2, hv2, -⟩ := slc_form h2.slc
      rw [HQ.out] at hv2
      simp only [List.length_nil] at hv2
      rw [hv2] at m1
      obtain ⟨L, hlen, hL0⟩ := len_hold hs2.tab hk2
      have hlen3 := hlen 3
      by_cases hL : L = 0
      · subst hL
        obtain ⟨w9, hrun9, t9, s9, u9⟩ := del_lock hs2.tab HNM.out (hL0 rfl) HQ.out 0
        rw [hs2.steps.lm] at hrun9
        have HX : Hid (Served w g S x N nm (.returned u6) w9) := Lib.hid ⟨S', _, outs, u6, bo, rfl, t9, hs2.path, .inl HQ.out, hs2.wf, hs2.steps.trans s9, slc_kept hs2.slc u9.size (fun b e => u9.block b (slc_lt hs2.slc b e) (fun e' => by have := (hs2.bo b e).2; rw [e', hs2.tab.locks.tag] at this; cases this)), hs2.bo, fun n hne hsome => by rw [show ({ x' with lk := upd x'.lk nm none } : Gh).lk n = x'.lk n from upd_other _ _ hne]; exact hs2.lks n hsome⟩
        clear hs2 hk2 hkb2 h2 hv2 hlen hL0 t9 s9 u9 k0 k1
        go_wp2
        rw [← HR.out]
        exact HX.out
      · have d : ((L : Int) == 0) = false := by simp; omega
        have HX : Hid (Served w g S x N nm (.returned u6) wq) := Lib.hid ⟨S', x', outs, u6, bo, rfl, hs2.tab, hs2.path, .inl HQ.out, hs2.wf, hs2.steps, hs2.slc, hs2.bo, fun n _ hsome => hs2.lks n hsome⟩
        clear hs2 hk2 hkb2 h2 hv2 hlen hL0 k0 k1 hL
        go_wp2
        rw [← HR.out]
        exact HX.out
    | cons p r =>
      obtain ⟨o, m⟩ := p
      have hqs := h.qs (o, m) (by rw [hq]; simp)
      obtain ⟨ho, hm1, hm4⟩ := hqs
      obtain ⟨n, hn⟩ : ∃ n, n = r.length + 1 := ⟨_, rfl⟩
      have hslc := h.slc
      rw [hq, List.length_cons, ← hn, qcells_cons] at hslc
      obtain ⟨_, _, ⟨_, _, h0⟩ | ⟨b, off, cap, hqb, hv, hblt, hle, hmx, hx, -⟩⟩ := id hslc
      · omega
      rw [hv] at k1
      have e0 : wr.cell? ⟨b, off, none⟩ = some (.int .u64 (o : Int)) := hx 0 _ rfl
      have e1 : wr.cell? ⟨b, off + 1, none⟩ = some (.int .i64 (m : Int)) := hx 1 _ rfl
      unfold maxLen at hmx
      have hn0 : 0 < n := by omega
      have hol : outs.length < 8796093022208 := by have h1 := path_len hs.out.path; have h2 := HQ0.out; have h3 := HN.out; omega
      have HLe := Lib.hid (lets_any (hs.out.tab.below (Below.drew (Below.refl _ wr))) hk' ho (m : Int))
      rw [hkb'] at HLe
      have HQ := Lib.hid hq; have HSL := Lib.hid hslc; have HO := Lib.hid ho; have HM := Lib.hid (show 1 ≤ m ∧ m ≤ 4 from ⟨hm1, hm4⟩); have HNR := Lib.hid hn; have HQB := Lib.hid hqb; have HV := Lib.hid hv
      clear h hk' hkb' hql hq hslc hx ho hn hqb hv
      by_cases hL : Lets (S'.hold nm) o m
      · have HLL := Lib.hid hL
        clear hL
        go_wp2
        go_still_tail 22, (by kernel_rfl)
        change wpList _ _ _ _ _ wr.drew
        go_wp2_with (first
          | (go_at_call 30; refine HLe.out.mono ?_; rintro e w3 ⟨rr, rfl, hr, hb3⟩; obtain rfl : rr = true := hr.2 HLL.out; have hbw : Below wr.heap.size wr w3 := (Below.drew (Below.refl _ wr)).trans hb3; have hs3 := srv_below hs.out hbw; obtain ⟨m0, m1⟩ := lk_cells (hs3.tab.locks.each nm k' HK.out); rw [HKB.out] at m0 m1; rw [HV.out] at m1; have hk3 : kb < w3.heap.size := World.block_lt_of_cell? w3 _ m1; have e0' := (hbw.cell (World.block_lt_of_cell? wr _ e0)).trans e0; have e1' := (hbw.cell (World.block_lt_of_cell? wr _ e1)).trans e1; have HS3 := Lib.hid hs3; have hsl3 := slc_below HSL.out hbw; rw [HV.out, HQB.out] at hsl3; have HSL3 := Lib.hid hsl3; clear hr hb3 hbw hs3 hsl3; have HD := Lib.hid (delete_any (slc_below (hn_slc HNR.out HSL3.out) (below_alloc w3 (.cells #[.int .u64 (o : Int), .int .i64 (m : Int)] 74)))))
          | (go_at_call 63; refine HD.out.mono ?_; rintro e w4 ⟨da, dc, rfl, d1, d2⟩; obtain ⟨⟨u4, hu4⟩, hf4, x5, hm5, ho5, k5, hl5, hb5, hc5⟩ := srv_pop HS3.out HK.out HKB.out HQ.out HQB.out d1 d2; have t0 := hm5.t0; have t1 := hm5.t1; have hwr := wait_room HS3.out.tab HS3.out.wf (nm := nm) (o := o) (m := m) (by rw [HQ.out]; simp) HM.out.1; rw [← ho5] at hwr; obtain ⟨kk, hkk, hkc⟩ := hwr; have HG := Lib.hid (grant_at hm5.tab (by have := HN.out; omega) HNM.out hl5 (by rw [show ({ S' with queue := upd S'.queue nm r } : St).queue nm = r from upd_same _ _ _]; exact hc5) HO.out HM.out hkk hkc); have HM5 := Lib.hid hm5; have HB5 := Lib.hid hb5; clear d1 d2 hm5 ho5 hl5 hb5 hc5 hkk hkc HS3)
          | (go_at_call 31; refine HG.out.mono ?_; rintro e w6 ⟨x6, rfl, t6, s6, k6, l6, b6⟩; have hm6 := mid_grant HM5.out t6 s6 l6; have q0 := hm6.t0; have HM6 := Lib.hid hm6; have HL6 : Hid (∃ k, x6.lk nm = some k ∧ k.b = kb) := Lib.hid ⟨k6, by rw [l6, upd_same], by rw [b6, HB5.out]⟩; clear t6 s6 l6 b6 hm6 t0 t1)
          | (refine wpList_slc HRU.out rfl (.tmp 59) (.tmp 62) 29 rfl rfl rfl (slc_below HM6.out.slc (below_alloc w6 (.cells #[.int .u64 (o : Int)] 27))) (u64_src ((cell_of_row _ _ 0 _ _ _ (cells_new w6 27 #[.int .u64 (o : Int)])).trans rfl)) rfl (by unfold maxLen; omega) (by omega) ?_; intro ao7 cap7 bo7 w7 g1 g2 g3; have HS7 := Lib.hid (mid_out HM6.out hs.out.path hs.out.wf HQ.out HLL.out HL6.out g1 g2 g3); clear g1 g2 g3))
        go_roundw
        case rel => exact ⟨_, x6, outs ++ [o], bo7, HS7⟩
        case measure =>
          obtain ⟨k7, hk7, hb7⟩ := HS7.out.lk
          have h1 := qlen_of HS7.out.tab hk7
          rw [hb7] at h1
          rw [h1, HQL.out, HQ.out]
          show (upd S'.queue nm r nm).length < _
          rw [upd_same]
          exact Nat.lt_succ_self _
      · have HLL := Lib.hid hL
        clear hL
        go_wp2
        go_still_tail 22, (by kernel_rfl)
        change wpList _ _ _ _ _ wr.drew
        go_wp2_with (go_at_call 30; refine HLe.out.mono ?_; rintro e w3 ⟨rr, rfl, hr, hb3⟩; obtain rfl : rr = false := (by cases rr; rfl; exact absurd (hr.1 rfl) HLL.out); have hbw : Below wr.heap.size wr w3 := (Below.drew (Below.refl _ wr)).trans hb3; have hs3 := srv_below hs.out hbw; obtain ⟨m0, m1⟩ := lk_cells (hs3.tab.locks.each nm k' HK.out); rw [HKB.out] at m0 m1; rw [HV.out] at m1; have hk3 : kb < w3.heap.size := World.block_lt_of_cell? w3 _ m1; have e0' := (hbw.cell (World.block_lt_of_cell? wr _ e0)).trans e0; have e1' := (hbw.cell (World.block_lt_of_cell? wr _ e1)).trans e1; have HS3 := Lib.hid hs3; have hsl3 := slc_below HSL.out hbw; rw [HV.out, HQB.out] at hsl3; have HSL3 := Lib.hid hsl3; clear hr hb3 hbw hs3 hsl3; obtain ⟨c0, -⟩ := tab_cells HS3.out.tab; rw [HS3.out.steps.lm] at c0; obtain ⟨L, hlen, -⟩ := len_hold HS3.out.tab HK.out; have hlen3 := hlen 3; clear hlen)
        all_goals
          rw [← HR.out]
          exact ⟨S', x', outs, u6, bo, rfl, HS3.out.tab, HS3.out.path, .inr ⟨o, m, r, HQ.out, HLL.out⟩, HS3.out.wf, HS3.out.steps, HS3.out.slc, HS3.out.bo, fun n _ hsome => HS3.out.lks n hsome⟩
end Go.Proofs.Ythanjncpgcmnaaa
