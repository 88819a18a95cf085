/- SumKept: walks. -/
import Derived.Test.YtflepcoiidaekaaDoorSumKeepA
import Derived.Test.YtflepcoiidaekaaDoorSumNumC
import Derived.Laws.AppendOwnNone
namespace Go.Proofs.YtflepcoiidaekaaDoor
open Go.ChangeShapes Go.WideShapes Go.ChangeAt Go.RowKit

theorem cell_201 (w : World) : ∀ (j : Nat) (u : Value), [Value.int .u8 201][j]? = some u → ((w.alloc (.cells #[] 5)).alloc (.cells #[.int .u8 201] 5)).cell? ((⟨w.heap.size + 1, 0, none⟩ : Addr).add j) = some u := by
  have := cell_one_new (w.alloc (.cells #[] 5)) (.int .u8 201) 5
  rwa [World.size_alloc] at this
theorem own_nil (w : World) {l : List Nat} (h : l = []) : (w.alloc (.cells #[] 5)).ownsRow w.heap.size 5 1 (.slice (some ⟨w.heap.size, 0, none⟩) l.length 0) l.length (u8s l) := by
  subst h
  exact World.ownsRow_made w #[] 0 (Nat.le_refl _) (Nat.zero_le _) rfl

set_option maxHeartbeats 1600000 in
theorem keep_err_nil (p size : Int) (n : Nat) (w : World) (hT : TabAt w) (he : PutErr 0 p size n) :
    Calls Tryd.prog 6 #[.slice none 0 0, .int .i64 p, .int .i64 size, .int .u64 (n : Int)] w (True' w) := by
  obtain ⟨E, hE, HP⟩ := put_err 0 p size n (Nat.zero_le _) he
  have HPE := Lib.hid HP; clear HP he
  obtain ⟨i0, hi, hz0, hz1, hz2⟩ := info_parts info5
  have HA : Hid (Calls Tryd.prog 10 #[] w fun e w2 => e = .returned (.bool true) ∧ Below w.heap.size w w2) := Lib.hid (awake_any w hT)
  have HBY : Hid (∀ w', BytesAt w' none []) := Lib.hid (fun w' => ⟨fun c hc => (by cases hc), Nat.zero_le _, fun j hj => absurd hj (Nat.not_lt_zero _)⟩)
  clear hT
  have HM3 : Hid (0 + 1 ≤ maxLen) := Lib.hid (by unfold maxLen; omega)
  have HM4 : Hid ((0 + 1) * 1 ≤ 140737488355328) := Lib.hid (by omega)
  go_enter Tryd.func6, Tryd.ntmps6
  go_wp2_with (first | (go_at_call 10; refine HA.out.mono ?_; rintro e w0 ⟨rfl, hb0⟩; have HB0 := Lib.hid hb0; clear hb0) | (at_builtin; refine wpList_append_own_none rfl (.tmp 17) (.tmp 18) 27 rfl w0.heap.size 5 i0 1 Tryd.underlying27 hi _ 0 [] rfl (World.ownsRow_made w0 #[] 0 (Nat.le_refl _) (Nat.zero_le _) rfl) rfl ?_; have HO1 := Lib.hid (World.ownsRow_made (e := 5) (size := 1) w0 #[] 0 (Nat.le_refl _) (Nat.zero_le _) rfl); have HB1 := Lib.hid ((Below.refl w0.heap.size w0).alloc (Nat.le_refl _) (.cells #[] 5))) | (at_builtin; refine wpList_append_own _ rfl (.tmp 19) (.tmp 20) 27 rfl w0.heap.size 5 i0 (.int .u8 0) 1 1 Tryd.underlying27 hi hz0 hz1 hz2 rfl (by decide) _ _ _ rfl (HO1.out.alloc _) _ 1 1 [.int .u8 201] rfl rfl (cell_201 w0) (by intro u hu; simp at hu; subst hu; rfl) HM3.out HM4.out (Nat.le_trans HB1.out.size (Nat.le_of_lt (by simp))) ?_; intro v2 w2 hown2 hgrow2 _; simp only [Nat.zero_add, List.nil_append] at hown2; obtain ⟨g2, c2, rfl, hg2⟩ := own_pos hown2 Nat.one_pos; have HO2 := Lib.hid (own_snoc (l := []) (c := 201) rfl hown2); have HB2 := Lib.hid ((HB1.out.alloc (HB1.out.size) _).grown hgrow2 (Nat.le_trans HB1.out.size (Nat.le_of_lt (by simp))) (fun k hk => (HO1.out.lt k hk).1)); have hc2 := (row_base hown2).2; clear hown2 hgrow2 hg2) | (go_at_call 9; refine (HPE.out _ _ _).mono ?_; rintro e w' ⟨rfl, rfl⟩; have k1 : (convert 27 9 (.slice (some ⟨g2, 0, none⟩) 0 c2)).run Tryd.prog w2 = .ok (.string (str [])) w2 := conv_bytes (zs := []) (row_bytes' HO2.out (fun c hc => (by cases hc)) (Nat.zero_le _)) (by intro h; cases h) c2; have k2 : (convert 27 9 (.slice none 0 0)).run Tryd.prog w2 = .ok (.string (str [])) w2 := conv_bytes (HBY.out w2) (fun _ => rfl) 0))
  go_ret
  exact ⟨rfl, HB0.out.trans (HB2.out.mono HB0.out.size)⟩

set_option maxHeartbeats 1600000 in
theorem keep_err_some (ad : Addr) (cap : Nat) (l : List Nat) (p size : Int) (n : Nat) (w : World) (hb : BytesAt w (some ad) l) (hreach : l.length ≤ 140737488351232) (hT : TabAt w) (he : PutErr l.length p size n) :
    Calls Tryd.prog 6 #[.slice (some ad) l.length cap, .int .i64 p, .int .i64 size, .int .u64 (n : Int)] w (True' w) := by
  obtain ⟨E, hE, HP⟩ := put_err l.length p size n hb.2.1 he
  have HPE := Lib.hid HP; clear HP he
  obtain ⟨i0, hi, hz0, hz1, hz2⟩ := info_parts info5
  have hm : l.length ≤ maxLen := hb.2.1
  have HZ := Lib.hid hb.1
  have HA : Hid (Calls Tryd.prog 10 #[] w fun e w2 => e = .returned (.bool true) ∧ Below w.heap.size w w2) := Lib.hid (awake_any w hT)
  have HBY : Hid (∀ w', Below w.heap.size w w' → BytesAt w' (some ad) l) := Lib.hid (fun w' h => bytes_below hb h)
  clear hT hb
  have HM := Lib.hid hm
  unfold maxLen at hm
  have HU1 := Lib.hid (u8s_one l)
  have HUL : Hid ((u8s l).length = l.length * 1) := Lib.hid (by simp [u8s])
  have HM1 : Hid (0 + l.length ≤ maxLen) := Lib.hid (by unfold maxLen; omega)
  have HM2 : Hid ((0 + l.length) * 1 ≤ 140737488355328) := Lib.hid (by omega)
  have HM3 : Hid (l.length + 1 ≤ maxLen) := Lib.hid (by unfold maxLen; omega)
  have HM4 : Hid ((l.length + 1) * 1 ≤ 140737488355328) := Lib.hid (by omega)
  go_enter Tryd.func6, Tryd.ntmps6
  go_wp2_with (first | (go_at_call 10; refine HA.out.mono ?_; rintro e w0 ⟨rfl, hb0⟩; have HB0 := Lib.hid hb0; clear hb0) | (at_builtin; refine wpList_append_own _ rfl (.tmp 17) (.tmp 18) 27 rfl w0.heap.size 5 i0 (.int .u8 0) 1 1 Tryd.underlying27 hi hz0 hz1 hz2 rfl (by decide) _ _ _ rfl (World.ownsRow_made w0 #[] 0 (Nat.le_refl _) (Nat.zero_le _) rfl) ad l.length cap (u8s l) rfl HUL.out (fun j u h => cell_alloc (bytes_cells (HBY.out _ HB0.out) j u h) _) HU1.out HM1.out HM2.out (Nat.le_of_lt (by simp)) ?_; intro v1 w1 hown1 hgrow1 hnil1; obtain ⟨g1, c1, rfl, hg1⟩ := own_form hown1 (fun h => by have := (hnil1.1 h).1; cases this); simp only [Nat.zero_add, List.nil_append] at hown1; have HO1 := Lib.hid hown1; have HB1 := Lib.hid (((Below.refl w0.heap.size w0).alloc (Nat.le_refl _) (.cells #[] 5)).grown hgrow1 (Nat.le_of_lt (by simp)) (fun k hk => by cases hk; exact Nat.le_refl _)); clear hown1 hgrow1 hnil1 hg1) | (at_builtin; refine wpList_append_own _ rfl (.tmp 19) (.tmp 20) 27 rfl w0.heap.size 5 i0 (.int .u8 0) 1 1 Tryd.underlying27 hi hz0 hz1 hz2 rfl (by decide) _ _ _ rfl (HO1.out.alloc _) _ 1 1 [.int .u8 201] rfl rfl (cell_one_new _ _ _) (by intro u hu; simp at hu; subst hu; rfl) HM3.out HM4.out (Nat.le_trans HB1.out.size (Nat.le_of_lt (by simp))) ?_; intro v2 w2 hown2 hgrow2 _; obtain ⟨g2, c2, rfl, hg2⟩ := own_pos hown2 (Nat.succ_pos _); have HO2 := Lib.hid (own_snoc (c := 201) rfl hown2); have HB2 := Lib.hid ((HB1.out.alloc (HB1.out.size) _).grown hgrow2 (Nat.le_trans HB1.out.size (Nat.le_of_lt (by simp))) (fun k hk => (HO1.out.lt k hk).1)); have hc2 := (row_base hown2).2; clear hown2 hgrow2 hg2) | (go_at_call 9; refine (HPE.out _ _ _).mono ?_; rintro e w' ⟨rfl, rfl⟩; have k1 := conv_bytes (row_bytes' HO2.out HZ.out HM.out) (by intro h; cases h) c2; have k2 := conv_bytes (HBY.out _ (HB0.out.trans (HB2.out.mono HB0.out.size))) (by intro h; cases h) cap))
  go_ret
  exact ⟨rfl, HB0.out.trans (HB2.out.mono HB0.out.size)⟩
end Go.Proofs.YtflepcoiidaekaaDoor
