/- The key of bytes: contracts of value and Of. -/
import Derived.Test.YtpbdchcocadnkaaDoorKeyBBig
namespace Go.Proofs.YtpbdchcocadnkaaDoor
open Go.ChangeShapes Go.WideShapes Go.ChangeAt Go.RowKit

theorem byD_bytes (p : Nat) (z : DataW Value) : (byD p).atKey (.int .u8 80) z = fnAt 27 p := by rfl
theorem by_look80 {V : World} {p mb : Nat} (h : ByAt V p mb) : (Instr.lookup 43 (.map (some mb)) (.int .u8 80) false).run Tryd.prog V = .ok (.func (.func 27) #[.pointer (some ⟨p, 0, none⟩)] #[]) V := by
  obtain ⟨v, ps, hrun, hv⟩ := h.lookup keysU8 Tryd.underlying43 (zeroF V) (zd := .held .nilFunc) (zp := []) rfl (key := .int .u8 80) (kl := .int .u8 80) rfl
  rw [byD_bytes] at hv
  rw [hrun]
  cases v <;> simp [asFn, fnAt] at hv
  obtain ⟨⟨rfl, rfl, rfl⟩, _⟩ := hv
  rfl
theorem bytes_nil (w : World) (x : Option Addr) : BytesAt w x [] := ⟨fun c hc => (by cases hc), Nat.zero_le _, fun j hj => absurd hj (Nat.not_lt_zero _)⟩
theorem bytes_weak {W w : World} {p : Nat} {a : Option Addr} {l : List Nat} (h : BytesAt W a l) (ht : Turned (fun k => k = p) W w) (hp : l ≠ [] → ∀ ad, a = some ad → ad.block ≠ p) : BytesAt w a l := by
  by_cases h0 : l = []
  · subst h0
    exact bytes_nil w a
  · exact bytes_away h ht (hp h0)
set_option maxHeartbeats 2000000 in
set_option maxRecDepth 20000 in
theorem escaped_weak {W w : World} {p n c xc m : Nat} {mv : Value} {a x : Option Addr} {k l : List Nat} (hW : Wri W w p mv a n c k) (hp : p < W.heap.size) (hx : BytesAt W x l) (hxp : l ≠ [] → ∀ ad, x = some ad → ad.block ≠ p) (hl : l.length = m) (hb : n + 2 * m + 2 ≤ 1048576) :
    Calls Tryd.prog 41 #[.pointer (some ⟨p, 0, none⟩), .slice x m xc] w fun e w' => e = .returned (.tuple #[]) ∧ ∃ a' n' c', Wri W w' p mv a' n' c' (k ++ esc l ++ [0, 0]) := by
  have HR := Lib.hid rowyU
  have HW := Lib.hid hW
  have HX : Hid (∀ V, Turned (fun k => k = p) W V → BytesAt V x l) := Lib.hid (fun V hV => bytes_weak hx hV hxp)
  have HL := Lib.hid hl
  have HP := Lib.hid hp
  have HM : Hid (∀ k, k ≤ 1048576 → k ≤ maxLen) := Lib.hid (fun k h => by unfold maxLen; omega)
  have HZ : Hid (∀ c ∈ l, c < 256) := Lib.hid hx.1
  generalize hQ : (fun (e : Ending) (w' : World) => e = .returned (.tuple #[]) ∧ ∃ a' n' c', Wri W w' p mv a' n' c' (k ++ esc l ++ [0, 0])) = Q
  have HQ := Lib.hid hQ
  clear hQ hW hx hxp hl hp
  go_enter Tryd.func41, Tryd.ntmps41
  go_wp2
  go_loopw [5, 8] (fun _ i wr => ∃ (j : Nat) (a9 : Option Addr) (n9 c9 : Nat), j ≤ m ∧ i = .int .i64 (j : Int) ∧ n9 ≤ n + 2 * j ∧ Hid (Wri W wr p mv a9 n9 c9 (k ++ esc (l.take j)))) (fun _ i _ => (m - (intOf i)).toNat)
  case atStart => exact ⟨0, a, n, c, by omega, rfl, by omega, Lib.hid (by have := HW.out; simpa [esc] using this)⟩
  case round =>
    obtain ⟨j, a9, n9, c9, hj, rfl, hn9, HWr⟩ := hrel
    have w0 := wri_0 HWr.out
    by_cases hlt : j < m
    · obtain ⟨bx, ox, hxe, hxc, hxz⟩ := byte_at (HX.out _ HWr.out.2.2) HL.out j hlt
      subst hxe
      obtain ⟨d, hd⟩ : ∃ d, d = l.getD j 0 := ⟨_, rfl⟩
      rw [← hd] at hxc hxz
      have HT : Hid (l.take (j + 1) = l.take j ++ [d]) := Lib.hid (by
        have hjl : j < l.length := by rw [HL.out]; exact hlt
        rw [hd, List.take_add_one, List.getElem?_eq_getElem hjl]
        simp [List.getD, List.getElem?_eq_getElem hjl])
      clear hd
      by_cases h0 : d = 0
      · subst h0
        go_wp2_with (first | (at_builtin; refine wpList_slc HR.out rfl (.tmp 28) (.tmp 29) 22 rfl rfl rfl (slc_below HW8.out.2.1.2.2.choose_spec.1 (below_alloc _ _)) (bytes_src Tryd.underlying22 (const_255s w8 ⟨p, 0, none⟩ (.slice a8 (n9 + 1) c8)) rfl) (rfl : (n9 + 1) + 1 = n9 + 1 + 1) (HM.out _ (by omega)) (by omega) ?_; intro a7 c7 b7 w7 h1 h2 h3; obtain ⟨hc, ho, ht⟩ := grow_at (m := [255]) HW8.out.1 HP.out HW8.out.2.2 (below_alloc _ _) HW8.out.2.1.1 (rfl : (n9 + 1) + 1 = n9 + 1 + 1) HW8.out.2.1.2.1 (by decide) HW8.out.2.1.2.2.choose_spec.2 h1 h2 h3; have s7 : w7.cell? ⟨p, 0, none⟩ = some (.slice a8 (n9 + 1) c8) := (by rw [cell_of_row w7 p 0 _ _ _ hc]; rfl); have z7 : w7.frozen? ⟨p, 0, none⟩ = false := frozen_of_row _ _ _ _ _ hc; have HW7 := Lib.hid (wri_set hc ho ht HP.out); clear h1 h2 h3 hc ho ht) | (at_builtin; refine wpList_slc HR.out rfl (.tmp 16) (.tmp 18) 22 rfl rfl rfl (slc_below HWr.out.2.1.2.2.choose_spec.1 (below_alloc _ _)) (bytes_src Tryd.underlying22 (bytes_alloc _ [0] (by decide) (by show 1 ≤ maxLen; unfold maxLen; decide) (0, 0)) rfl) (rfl : n9 + 1 = n9 + 1) (HM.out _ (by omega)) (by omega) ?_; intro a8 c8 b8 w8 h1 h2 h3; obtain ⟨hc, ho, ht⟩ := grow_at (m := [0]) HWr.out.1 HP.out HWr.out.2.2 (below_alloc _ _) HWr.out.2.1.1 (rfl : n9 + 1 = n9 + 1) HWr.out.2.1.2.1 (by decide) HWr.out.2.1.2.2.choose_spec.2 h1 h2 h3; have s8 : w8.cell? ⟨p, 0, none⟩ = some (.slice a9 n9 c9) := (by rw [cell_of_row w8 p 0 _ _ _ hc]; rfl); have z8 : w8.frozen? ⟨p, 0, none⟩ = false := frozen_of_row _ _ _ _ _ hc; have HW8 := Lib.hid (wri_set hc ho ht HP.out); clear h1 h2 h3 hc ho ht))
        go_roundw
        case rel => exact ⟨j + 1, a7, n9 + 1 + 1, c7, by omega, by go_num, by omega, Lib.hid (by rw [HT.out, esc_snoc, if_pos rfl, ← List.append_assoc, show ([0, 255] : List Nat) = [0] ++ [255] from rfl, ← List.append_assoc]; exact HW7.out)⟩
        case measure => simp [intOf]; omega
      · have hd0 : ¬ (d : Int) = 0 := by omega
        go_wp2_with (at_builtin; refine wpList_slc HR.out rfl (.tmp 16) (.tmp 18) 22 rfl rfl rfl (slc_below HWr.out.2.1.2.2.choose_spec.1 (below_alloc _ _)) (bytes_src Tryd.underlying22 (bytes_alloc _ [d] (fun q hq => by rw [List.mem_singleton] at hq; rw [hq]; exact hxz) (by show 1 ≤ maxLen; unfold maxLen; decide) (0, 0)) rfl) (rfl : n9 + 1 = n9 + 1) (HM.out _ (by omega)) (by omega) ?_; intro a8 c8 b8 w8 h1 h2 h3; obtain ⟨hc, ho, ht⟩ := grow_at (m := [d]) HWr.out.1 HP.out HWr.out.2.2 (below_alloc _ _) HWr.out.2.1.1 (rfl : n9 + 1 = n9 + 1) HWr.out.2.1.2.1 (fun q hq => by rw [List.mem_singleton] at hq; rw [hq]; exact hxz) HWr.out.2.1.2.2.choose_spec.2 h1 h2 h3; have s8 : w8.cell? ⟨p, 0, none⟩ = some (.slice a9 n9 c9) := (by rw [cell_of_row w8 p 0 _ _ _ hc]; rfl); have z8 : w8.frozen? ⟨p, 0, none⟩ = false := frozen_of_row _ _ _ _ _ hc; have HW8 := Lib.hid (wri_set hc ho ht HP.out); clear h1 h2 h3 hc ho ht)
        go_roundw
        case rel => exact ⟨j + 1, a8, n9 + 1, c8, by omega, by go_num, by omega, Lib.hid (by rw [HT.out, esc_snoc, if_neg h0, ← List.append_assoc]; exact HW8.out)⟩
        case measure => simp [intOf]; omega
    · have HJ : Hid (l.take j = l) := Lib.hid (List.take_of_length_le (by rw [HL.out]; omega))
      go_wp2_with (at_builtin; refine wpList_slc HR.out rfl (.tmp 38) (.tmp 39) 22 rfl rfl rfl (slc_below HWr.out.2.1.2.2.choose_spec.1 (below_alloc _ _)) (bytes_src Tryd.underlying22 (bytes_alloc _ [0, 0] (by decide) (by show 2 ≤ maxLen; unfold maxLen; decide) (0, 0)) rfl) (rfl : n9 + 2 = n9 + 2) (HM.out _ (by omega)) (by omega) ?_; intro a8 c8 b8 w8 h1 h2 h3; obtain ⟨hc, ho, ht⟩ := grow_at (m := [0, 0]) HWr.out.1 HP.out HWr.out.2.2 (below_alloc _ _) HWr.out.2.1.1 (rfl : n9 + 2 = n9 + 2) HWr.out.2.1.2.1 (by decide) HWr.out.2.1.2.2.choose_spec.2 h1 h2 h3; have s8 : w8.cell? ⟨p, 0, none⟩ = some (.slice a9 n9 c9) := (by rw [cell_of_row w8 p 0 _ _ _ hc]; rfl); have z8 : w8.frozen? ⟨p, 0, none⟩ = false := frozen_of_row _ _ _ _ _ hc; have HW8 := Lib.hid (wri_set hc ho ht HP.out); clear h1 h2 h3 hc ho ht)
      go_end0
      rw [← HQ.out]
      refine ⟨rfl, a8, n9 + 2, c8, ?_⟩
      have h := HW8.out
      rw [HJ.out] at h
      exact h
set_option maxHeartbeats 1000000 in
set_option maxRecDepth 20000 in
theorem text_of_bytes {W w : World} {p n c xc m : Nat} {mv : Value} {a x : Option Addr} {k l : List Nat} (hW : Wri W w p mv a n c k) (hp : p < W.heap.size) (hx : BytesAt W x l) (hxp : l ≠ [] → ∀ ad, x = some ad → ad.block ≠ p) (hl : l.length = m) (hb : n + 2 * m + 2 ≤ 1048576) :
    Calls Tryd.prog 27 #[.pointer (some ⟨p, 0, none⟩), .agg #[.int .i64 6, .int .u64 0, .slice x m xc, .slice none 0 0, .slice none 0 0]] w fun e w' => e = .returned (.tuple #[]) ∧ ∃ a' n' c', Wri W w' p mv a' n' c' (k ++ esc l ++ [0, 0]) := by
  have HE : Hid (∀ V, Below w.heap.size w V → Calls Tryd.prog 41 #[.pointer (some ⟨p, 0, none⟩), .slice x m xc] V fun e w' => e = .returned (.tuple #[]) ∧ ∃ a' n' c', Wri W w' p mv a' n' c' (k ++ esc l ++ [0, 0])) := Lib.hid (fun V hV => escaped_weak (wri_below hW hV) hp hx hxp hl hb)
  have HB : Hid (∀ o : Obj, Below w.heap.size w (w.alloc o)) := Lib.hid (fun o => below_alloc _ _)
  generalize hQ : (fun (e : Ending) (w' : World) => e = .returned (.tuple #[]) ∧ ∃ a' n' c', Wri W w' p mv a' n' c' (k ++ esc l ++ [0, 0])) = Q at HE
  have HQ := Lib.hid hQ
  clear hQ hW hp hx hxp hl hb
  go_enter Tryd.func27, Tryd.ntmps27
  go_wp2_with (go_at_call 41; (with_reducible refine (HE.out _ (HB.out _)).mono ?_); rintro e w2 h2; rw [← HQ.out] at h2; obtain ⟨rfl, h2⟩ := h2; have H2 := Lib.hid h2; clear h2)
  go_end0
  rw [← HQ.out]
  exact ⟨rfl, H2.out⟩
theorem class_bytes (w : World) : Calls Tryd.prog 30 #[.int .i64 6] w fun e w' => e = .returned (.int .u8 80) ∧ w = w' := by
  go_enter Tryd.func30, Tryd.ntmps30
  go_wp2
  go_ret
  exact ⟨rfl, rfl⟩
/-- What value looks at: the map's function, the value's five cells. -/
structure SeesB (V : World) (p mb g xc m : Nat) (x : Option Addr) : Prop where
  c1 : V.cell? ⟨p, 1, none⟩ = some (.map (some mb))
  lk : (Instr.lookup 43 (.map (some mb)) (.int .u8 80) false).run Tryd.prog V = .ok (.func (.func 27) #[.pointer (some ⟨p, 0, none⟩)] #[]) V
  v0 : V.cell? ⟨g, 0, none⟩ = some (.int .i64 6)
  v1 : V.cell? ⟨g, 1, none⟩ = some (.int .u64 0)
  v2 : V.cell? ⟨g, 2, none⟩ = some (.slice x m xc)
  v3 : V.cell? ⟨g, 3, none⟩ = some (.slice none 0 0)
  v4 : V.cell? ⟨g, 4, none⟩ = some (.slice none 0 0)
theorem seesB_of {W V : World} {p mb g n c xc m : Nat} {a x : Option Addr} {k : List Nat} (h : Wri W V p (.map (some mb)) a n c k) (hm : ByAt W p mb) (hmp : mb ≠ p) (hg : Cells W g 35 #[.int .i64 6, .int .u64 0, .slice x m xc, .slice none 0 0, .slice none 0 0]) (hgp : g ≠ p) : SeesB V p mb g xc m x := by
  have hg' := cells_turned hg h.2.2 hgp
  exact ⟨by rw [cell_of_row V p 1 _ _ _ h.1]; rfl, by_look80 (by_turned hm h.2.2 hmp), by rw [cell_of_row V g 0 _ _ _ hg']; rfl, by rw [cell_of_row V g 1 _ _ _ hg']; rfl, by rw [cell_of_row V g 2 _ _ _ hg']; rfl, by rw [cell_of_row V g 3 _ _ _ hg']; rfl, by rw [cell_of_row V g 4 _ _ _ hg']; rfl⟩
set_option maxHeartbeats 1000000 in
set_option maxRecDepth 20000 in
theorem value_bytes {w : World} {p mb xc m : Nat} {x : Option Addr} {l : List Nat} (hC : Cells w p 45 #[.slice none 0 0, .map (some mb)]) (hm : ByAt w p mb) (hmp : mb ≠ p) (hx : BytesAt w x l) (hxp : l ≠ [] → ∀ ad, x = some ad → ad.block ≠ p) (hl : l.length = m) (hb : m ≤ 4096) :
    Calls Tryd.prog 20 #[.pointer (some ⟨p, 0, none⟩), .agg #[.int .i64 6, .int .u64 0, .slice x m xc, .slice none 0 0, .slice none 0 0]] w fun e w' => e = .returned (.tuple #[]) ∧ ∃ a' n' c', Wri w w' p (.map (some mb)) a' n' c' ([80] ++ esc l ++ [0, 0]) := by
  have HR := Lib.hid rowyU
  have hpw : p < w.heap.size := (Array.getElem?_eq_some_iff.1 hC).1
  have HW1 : Hid (Wri (w.alloc (.cells #[.int .i64 6, .int .u64 0, .slice x m xc, .slice none 0 0, .slice none 0 0] 35)) (w.alloc (.cells #[.int .i64 6, .int .u64 0, .slice x m xc, .slice none 0 0, .slice none 0 0] 35)) p (.map (some mb)) none 0 0 []) := Lib.hid ⟨cells_alloc hC _, own_nil _ _, Turned.refl _ _⟩
  have HP : Hid (p < (w.alloc (.cells #[.int .i64 6, .int .u64 0, .slice x m xc, .slice none 0 0, .slice none 0 0] 35)).heap.size) := Lib.hid (by rw [size_alloc]; omega)
  have HBY1 : Hid (ByAt (w.alloc (.cells #[.int .i64 6, .int .u64 0, .slice x m xc, .slice none 0 0, .slice none 0 0] 35)) p mb) := Lib.hid (by_below hm (below_alloc _ _))
  have HV1 : Hid (Cells (w.alloc (.cells #[.int .i64 6, .int .u64 0, .slice x m xc, .slice none 0 0, .slice none 0 0] 35)) w.heap.size 35 #[.int .i64 6, .int .u64 0, .slice x m xc, .slice none 0 0, .slice none 0 0]) := Lib.hid (cells_new _ _ _)
  have HMP := Lib.hid hmp
  have HGP : Hid (w.heap.size ≠ p) := Lib.hid (by omega)
  have HB1 : Hid (Below w.heap.size w (w.alloc (.cells #[.int .i64 6, .int .u64 0, .slice x m xc, .slice none 0 0, .slice none 0 0] 35))) := Lib.hid (below_alloc _ _)
  have HTX : Hid (∀ V a n c, n ≤ 8 → Wri (w.alloc (.cells #[.int .i64 6, .int .u64 0, .slice x m xc, .slice none 0 0, .slice none 0 0] 35)) V p (.map (some mb)) a n c [80] → Calls Tryd.prog 27 #[.pointer (some ⟨p, 0, none⟩), .agg #[.int .i64 6, .int .u64 0, .slice x m xc, .slice none 0 0, .slice none 0 0]] V fun e w' => e = .returned (.tuple #[]) ∧ ∃ a' n' c', Wri (w.alloc (.cells #[.int .i64 6, .int .u64 0, .slice x m xc, .slice none 0 0, .slice none 0 0] 35)) w' p (.map (some mb)) a' n' c' ([80] ++ esc l ++ [0, 0])) := Lib.hid (fun V a n c hn h => text_of_bytes h (by rw [size_alloc]; omega) (bytes_below hx (below_alloc _ _)) hxp hl (by omega))
  generalize hQ : (fun (e : Ending) (w' : World) => e = .returned (.tuple #[]) ∧ ∃ a' n' c', Wri w w' p (.map (some mb)) a' n' c' ([80] ++ esc l ++ [0, 0])) = Q
  have HQ := Lib.hid hQ
  clear hQ hC hx hxp hl hm
  go_enter Tryd.func20, Tryd.ntmps20
  go_wp2_with fail
  generalize w.alloc (.cells #[.int .i64 6, .int .u64 0, .slice x m xc, .slice none 0 0, .slice none 0 0] 35) = w1 at HW1 HBY1 HV1 HTX HP HB1 ⊢
  have w0 := wri_0 HW1.out
  refine (class_bytes _).mono ?_
  rintro e w' ⟨rfl, rfl⟩
  go_wp2_with (at_builtin; refine wpList_slc HR.out rfl (.tmp 12) (.tmp 14) 22 rfl rfl rfl (slc_nil _ 1) (bytes_src Tryd.underlying22 (const_one w1 80 (by decide)) rfl) (rfl : 0 + 1 = 1) (by unfold maxLen; decide) (by decide) ?_; intro a8 c8 b8 w8 h1 h2 h3; obtain ⟨hc, ho, ht⟩ := grow_at (m := [80]) (k := []) HW1.out.1 HP.out HW1.out.2.2 (below_alloc _ _) rfl (rfl : 0 + 1 = 1) (fun x hx => by cases hx) (by decide) (fun b e => by cases e) h1 h2 h3; have s8 : w8.cell? ⟨p, 0, none⟩ = some (.slice none 0 0) := (by rw [cell_of_row w8 p 0 _ _ _ hc]; rfl); have z8 : w8.frozen? ⟨p, 0, none⟩ = false := frozen_of_row _ _ _ _ _ hc; have HW8 := Lib.hid (wri_set hc ho ht HP.out); clear h1 h2 h3 hc ho ht)
  clear s8 z8 w0
  generalize w8.setCell ⟨p, 0, none⟩ (.slice a8 1 c8) = w9 at HW8 ⊢
  obtain ⟨c1, lk, v0, v1, v2, v3, v4⟩ := seesB_of HW8.out HBY1.out HMP.out HV1.out HGP.out
  have HW10 : Hid (Wri w1 w9.drew p (.map (some mb)) a8 1 c8 [80]) := Lib.hid (wri_below HW8.out (Below.drew (Below.refl _ _)))
  obtain ⟨-, lk', -, -, -, -, -⟩ := seesB_of HW10.out HBY1.out HMP.out HV1.out HGP.out
  go_region_held3 (fun V => V.cell? ⟨p, 1, none⟩ = some (.map (some mb)) ∧ (Instr.lookup 43 (.map (some mb)) (.int .u8 80) false).run Tryd.prog V = .ok (.func (.func 27) #[.pointer (some ⟨p, 0, none⟩)] #[]) V ∧ V.cell? ⟨w.heap.size, 0, none⟩ = some (.int .i64 6) ∧ V.cell? ⟨w.heap.size, 1, none⟩ = some (.int .u64 0) ∧ V.cell? ⟨w.heap.size, 2, none⟩ = some (.slice x m xc) ∧ V.cell? ⟨w.heap.size, 3, none⟩ = some (.slice none 0 0) ∧ V.cell? ⟨w.heap.size, 4, none⟩ = some (.slice none 0 0)) (first | exact ⟨d1, ld, d2, d3, d4, d5, d6⟩ | exact ⟨c1, lk', v0, v1, v2, v3, v4⟩ | exact ⟨c1, lk, v0, v1, v2, v3, v4⟩) ((go_at_call 27; refine (HTX.out _ a8 1 c8 (by decide) HW10.out).mono ?_; rintro e w2 ⟨rfl, a2, n2, c2, h2⟩; obtain ⟨d1, ld, d2, d3, d4, d5, d6⟩ := seesB_of h2 HBY1.out HMP.out HV1.out HGP.out; have H2 := Lib.hid h2; clear h2))
  go_end0
  rw [← HQ.out]
  obtain ⟨h1, h2, h3⟩ := H2.out
  exact ⟨rfl, a2, n2, c2, h1, own_mono h2 HB1.out.size, (Turned.of_below HB1.out).trans h3 (fun i hi => .inl hi)⟩
end Go.Proofs.YtpbdchcocadnkaaDoor
