/- What a crash leaves: the walk. -/
import Derived.Test.YtikcanbhdickgaaDskTear
import Derived.Deep.CutBlock
namespace Go.Proofs.Ytikcanbhdickgaa
open Go.ChangeShapes Go.WideShapes Go.ChangeAt Go.RowKit

/-- The pages, as the choice leaves them. -/
def keptN (zs : List Nat) (wait : List (Nat × List Nat)) (ps : List (List Nat)) : Nat → List (List Nat)
  | 0 => ps
  | k + 1 => match wait[k]? with
    | some y => if chose zs k % 2 = 0 then (keptN zs wait ps k).set y.1 y.2 else keptN zs wait ps k
    | none => keptN zs wait ps k
def tornPages (zs : List Nat) (S : Dsk) (ps : List (List Nat)) : List (List Nat) := match S.torn with
  | none => ps
  | some y => ps.set y.1 (torn1 y.2 (ps.getD y.1 []) (chose zs S.wait.length / 2 % 5))
def late (S : Dsk) : List Nat := S.log.drop S.kept ++ S.half
def lateK (zs : List Nat) (S : Dsk) : Nat := (chose zs 0 + 256 * chose zs 1) % ((late S).length + 1)
def logLeft (zs : List Nat) (S : Dsk) : List Nat := S.log.take S.kept ++ (late S).take (lateK zs S)
/-- The device that a crash leaves. -/
def leftOf (zs : List Nat) (S : Dsk) : Dsk := ⟨tornPages zs S (keptN zs S.wait S.pages S.wait.length), [], none, logLeft zs S, S.room, (logLeft zs S).length, [], S.mark, none, 0, false⟩
/-- The device at a crash's beginning. -/
def crash0 (S : Dsk) : Dsk := ⟨S.pages, [], none, [], S.room, 0, [], S.mark, none, 0, false⟩
theorem keptN_length (zs : List Nat) (wait : List (Nat × List Nat)) (ps : List (List Nat)) : ∀ k, (keptN zs wait ps k).length = ps.length
  | 0 => rfl
  | k + 1 => by
    rw [keptN]
    split
    · split
      · rw [List.length_set]; exact keptN_length zs wait ps k
      · exact keptN_length zs wait ps k
    · exact keptN_length zs wait ps k
theorem wcells_get : ∀ (wl : List (Nat × Nat × List Nat)) (k : Nat) (y : Nat × Nat × List Nat), wl[k]? = some y → (wcells wl)[k * 2]? = some (.int .i64 (y.1 : Int)) ∧ (wcells wl)[k * 2 + 1]? = some (.pointer (some ⟨y.2.1, 0, none⟩))
  | [], k, y, h => by simp at h
  | z :: wl, 0, y, h => by
    simp at h; subst h
    exact ⟨rfl, rfl⟩
  | z :: wl, k + 1, y, h => by
    have := wcells_get wl k y (by simpa using h)
    have e : (k + 1) * 2 = k * 2 + 1 + 1 := by omega
    rw [e]
    exact this
theorem i64_and1 (n : Int) : bits .and .i64 n 1 = n % 2 := by
  have h3 : (BitVec.ofInt 64 1).toNat = 2 ^ 1 - 1 := by decide
  have key : (BitVec.ofInt 64 n &&& BitVec.ofInt 64 1).toNat = (n % ((2 ^ 64 : Nat) : Int)).toNat % 2 ^ 1 := by
    rw [BitVec.toNat_and, BitVec.toNat_ofInt, h3, Nat.and_two_pow_sub_one_eq_mod]
  show IntKind.i64.wrap ((BitVec.ofInt 64 n &&& BitVec.ofInt 64 1).toNat : Nat) = _
  rw [key, IntWalk.i64_in _ (by omega)]
  omega
/-- A new slice, seen from an elder world too. -/
def NewSlc2 (w V : World) (n : Nat) (xs : List Value) (e : Ending) (w' : World) : Prop := ∃ ao cap bo, e = .returned (.slice ao n cap) ∧ Slc w' bo 1 (.slice ao n cap) n xs ∧ Below w.heap.size w w' ∧ Below V.heap.size V w' ∧ ∀ b, bo = some b → V.heap.size ≤ b
theorem newSlc2 {w V : World} {n : Nat} {xs : List Value} (hV : Below w.heap.size w V) (e : Ending) (w' : World) (h : NewSlc V 1 n xs e w') : NewSlc2 w V n xs e w' := by
  obtain ⟨ao, cap, bo, h1, h2, h3, h4⟩ := h
  exact ⟨ao, cap, bo, h1, h2, hV.trans (h3.mono hV.size), h3, h4⟩
section
variable {w : World} {S : Dsk} {x : Gh} (h : Dev w S x)
include h
theorem crash_start {wl : World} (hW : Below w.heap.size w wl) {aa am : Option Addr} {ca cm mb : Nat} {ba bm : Option Nat} (hs : Slc wl ba 1 (.slice aa x.P.length ca) x.P.length (x.P.map fun p => ptr p.1)) (hm : wl.heap[mb]? = some (.map #[] 0)) (hk : Slc wl bm 1 (.slice am S.mark.length cm) S.mark.length (u8s S.mark))
    (hba : ∀ b, ba = some b → w.heap.size ≤ b) (hbm : ∀ b, bm = some b → w.heap.size ≤ b) (hmb : w.heap.size ≤ mb) (d1 : ba ≠ some mb) (d2 : bm ≠ some mb) (d3 : ∀ b, bm = some b → ba ≠ some b) :
    ∃ x1 : Gh, Value.pointer (some ⟨wl.heap.size, 0, none⟩) = .pointer (some ⟨x1.g, 0, none⟩) ∧ Hid (Dev (wl.alloc (.cells #[.slice aa x.P.length ca, .map (some mb), .slice none 0 0, .pointer none, .slice none 0 0, .int .i64 (S.room : Int), .int .i64 0, .slice none 0 0, .slice am S.mark.length cm, .bool false, .int .i64 0, .int .i64 0, .bool false] 68)) (crash0 S) x1 ∧
      Below w.heap.size w (wl.alloc (.cells #[.slice aa x.P.length ca, .map (some mb), .slice none 0 0, .pointer none, .slice none 0 0, .int .i64 (S.room : Int), .int .i64 0, .slice none 0 0, .slice am S.mark.length cm, .bool false, .int .i64 0, .int .i64 0, .bool false] 68)) ∧ (∀ k, Ex x1 k → w.heap.size ≤ k) ∧ Grows w x.I x1.I) := by
  have hc := cells_new wl 68 #[.slice aa x.P.length ca, .map (some mb), .slice none 0 0, .pointer none, .slice none 0 0, .int .i64 (S.room : Int), .int .i64 0, .slice none 0 0, .slice am S.mark.length cm, .bool false, .int .i64 0, .int .i64 0, .bool false]
  generalize hcs : #[Value.slice aa x.P.length ca, .map (some mb), .slice none 0 0, .pointer none, .slice none 0 0, .int .i64 (S.room : Int), .int .i64 0, .slice none 0 0, .slice am S.mark.length cm, .bool false, .int .i64 0, .int .i64 0, .bool false] = cs at hc ⊢
  have hal := below_alloc wl (.cells cs 68)
  have hW2 : Below w.heap.size w (wl.alloc (.cells cs 68)) := hW.trans (hal.mono hW.size)
  have hmlt : mb < wl.heap.size := (Array.getElem?_eq_some_iff.1 hm).1
  have hsl := slc_lt hs
  have hkl := slc_lt hk
  have hm2 : (wl.alloc (.cells cs 68)).heap[mb]? = some (.map #[] 0) := (hal.block _ hmlt).trans hm
  have hs2 := slc_below hs hal
  have hk2 := slc_below hk hal
  have hd := dev_below h hW2
  have hsz : (wl.alloc (.cells cs 68)).heap.size = wl.heap.size + 1 := size_alloc _ _
  have hws := hW.size
  have hold : ∀ k, x.I k → k < w.heap.size := fun k hk => (h.out k hk).2.2.2.2.2
  subst hcs
  refine ⟨⟨wl.heap.size, mb, 0, .map [], ba, none, none, none, bm, .slice aa x.P.length ca, .slice none 0 0, .slice none 0 0, .slice none 0 0, .slice am S.mark.length cm, x.P, [], none, 0, fun k => x.I k ∨ bm = some k⟩, rfl, Lib.hid ⟨?_, hW2, ?_, ?_⟩⟩
  · exact {
      cells := hc
      sure := ⟨hs2, fun p hp => by
        rcases hd.sure.leaf p hp with h1 | ⟨b, h1, h2, h3⟩
        · exact .inl h1
        · exact .inr ⟨b, h1, h2, .inl h3⟩, h.sure.is, h.sure.few⟩
      last := dlast_empty hm2 _
      wait := ⟨slc_nil _ _, (fun y hy => by cases hy), rfl⟩
      torn := ⟨(fun t ht => by cases ht), rfl⟩
      log := ⟨slc_nil _ _, (fun c hc => by cases hc)⟩
      half := ⟨slc_nil _ _, (fun c hc => by cases hc)⟩
      mark := ⟨hk2, h.mark.byte⟩
      keptI := ⟨(fun b e => by cases e), fun b e => .inr e⟩
      num := ⟨Nat.zero_le _, h.num.2.1, Nat.le_refl _, Nat.zero_le _, h.num.2.2.2.2.1, Nat.le_refl _⟩
      left := ⟨⟨by simp, by simp⟩, (fun n h => by cases h)⟩
      apart := ⟨(fun e => by have : wl.heap.size = mb := e; omega), (fun e => by have := hsl _ e; exact Nat.lt_irrefl _ this), d1, by simp, by simp, by simp, by simp, Classical.em (ba = none), Classical.em (ba = none), .inl rfl⟩
      out := fun k hk' => by
        rcases hk' with hk' | hk'
        · have hlt := hold k hk'
          refine ⟨fun e => ?_, fun e => ?_, fun e => ?_, (fun e => by cases e), (fun e => by cases e), by omega⟩
          · have e : k = wl.heap.size := e
            omega
          · have e : k = mb := e
            omega
          · have := hba k e; omega
        · have hlt := hkl k hk'
          refine ⟨fun e => ?_, fun e => ?_, d3 k hk', (fun e => by cases e), (fun e => by cases e), by omega⟩
          · have e : k = wl.heap.size := e
            omega
          · have e : k = mb := e
            rw [e] at hk'; exact d2 hk' }
  · intro k hk'
    rcases hk' with rfl | rfl | hk' | hk' | hk'
    · exact hws
    · exact hmb
    · exact hba k hk'
    · cases hk'
    · cases hk'
  · intro k hk'
    rcases hk' with hk' | hk'
    · exact .inl hk'
    · exact .inr (hbm k hk')
set_option maxHeartbeats 1000000 in
set_option maxRecDepth 100000 in
theorem crash_does {a : Option Addr} {n cap : Nat} {zs : List Nat} (hb : BytesAt w a zs) (hl : zs.length = n) (hn : n ≤ maxLen) : Calls Try.prog 14 #[.pointer (some ⟨x.g, 0, none⟩), .slice a n cap] w (NewDev w x.I (leftOf zs S) (fun v => v)) := by
  obtain ⟨f0, f1, f2, f3, f4, f5, f6, f7, f8, f9, f10, f11, f12, fz⟩ := row13 h.cells
  have HC0 := Lib.hid (fun V (hV : Below w.heap.size w V) => (clone_ptrs (slc_below h.sure.slc hV) h.sure.few).mono (newSlc2 hV))
  obtain ⟨ka, kc, hkv, hkl, hkm, -⟩ := slc_form h.mark.slc
  have HC8 : Hid (∀ V, Below w.heap.size w V → Calls Try.prog 38 #[x.kv] V (NewSlc2 w V S.mark.length (u8s S.mark))) := Lib.hid (fun V hV => by
    have hk := h.mark.slc
    rw [hkv] at hk ⊢
    exact (clone_bytes (bytes_below (slc_bytes hk h.mark.byte) hV) rfl (by have := h.num.2.2.2.2.1; omega)).mono (newSlc2 hV))
  generalize hQ : NewDev w x.I (leftOf zs S) (fun v => v) = Q
  have HQ := Lib.hid hQ
  have H := Lib.hid h; have HB := Lib.hid hb; have HL := Lib.hid hl
  have hgl : x.g < w.heap.size := dev_size h _ (.inl rfl)
  have HGL := Lib.hid hgl
  generalize x.sv = sv at f0 HC0
  generalize hkv2 : x.kv = kv at f8 HC8
  have HKV := Lib.hid hkv2
  clear f1 f2 f3 f4 f6 f7 f9 f10 f11 f12 fz h hb hl hQ hkv hkv2 hkl hkm hgl
  go_enter Try.func14, Try.ntmps14
  go_upto_region 3 with fail
  go_cut [5] from 10 to 126 (fun v wx => ∃ x1, v = .pointer (some ⟨x1.g, 0, none⟩) ∧ Hid (Dev wx (crash0 S) x1 ∧ Below w.heap.size w wx ∧ (∀ k, Ex x1 k → w.heap.size ≤ k) ∧ Grows w x.I x1.I))
  case first =>
    --<
    have hmm : ∀ V, (Instr.makeMap 62 none).run Try.prog V = .ok (.map (some V.heap.size)) (V.alloc (.map #[] 0)) := fun V => rfl
    go_region_held3 (fun w' => w'.cell? ⟨x.g, 0, none⟩ = some sv ∧ w'.cell? ⟨x.g, 5, none⟩ = some (.int .i64 (S.room : Int)) ∧ w'.cell? ⟨x.g, 8, none⟩ = some kv) (go_keep)
      (first
        | ((go_at_call 38; refine (HC8.out _ (by repeat (first | exact Below.refl _ _ | exact HWa.out | refine Below.drew ?_ | refine Below.alloc ?_ (by first | (simp; done) | (have := HWa.out.size; simp; omega)) _))).mono ?_; rintro e wm ⟨am, cm, bm, rfl, h1, h2, h3, h4⟩; have HSm := Lib.hid h1; have HWm := Lib.hid h2; have HBm := Lib.hid h3; have HNm := Lib.hid h4; have m0 := (h2.cell (p := ⟨x.g, 0, none⟩) HGL.out).trans f0; have m5 := (h2.cell (p := ⟨x.g, 5, none⟩) HGL.out).trans f5; have m8 := (h2.cell (p := ⟨x.g, 8, none⟩) HGL.out).trans f8; clear h1 h2 h3 h4))
        | ((go_at_call 37; refine (HC0.out _ (by repeat (first | exact Below.refl _ _ | exact HWm.out | refine Below.drew ?_ | refine Below.alloc ?_ (by first | (simp; done) | (have := HWm.out.size; simp; omega)) _))).mono ?_; rintro e wa ⟨aa, ca, ba, rfl, h1, h2, h3, h4⟩; have HSa := Lib.hid h1; have HWa := Lib.hid h2; have HBa := Lib.hid h3; have HNa := Lib.hid h4; have a0 := (h2.cell (p := ⟨x.g, 0, none⟩) HGL.out).trans f0; have a5 := (h2.cell (p := ⟨x.g, 5, none⟩) HGL.out).trans f5; have a8 := (h2.cell (p := ⟨x.g, 8, none⟩) HGL.out).trans f8; clear h1 h2 h3 h4)))
    all_goals (go_wp2_with fail; go_meet)
    · have hlt := slc_lt HSa.out
      have hal := below_alloc wa (.map #[] 0)
      have hbm := HBm.out
      have hnm := HNm.out
      rw [size_alloc] at hbm hnm
      refine crash_start H.out HWm.out (slc_below HSa.out (hal.trans (hbm.mono (Nat.le_succ _)))) ((hbm.block _ (Nat.lt_succ_self _)).trans (heap_alloc_new wa _)) HSm.out HNa.out (fun b e => ?_) HWa.out.size (fun e => Nat.lt_irrefl _ (hlt _ e)) (fun e => ?_) (fun b e e' => ?_)
      · have := hnm b e; have := HWa.out.size; omega
      · have := hnm _ e; omega
      · have := hnm b e; have := hlt b e'; omega
    · have hlt := slc_lt HSa.out
      have hltm := slc_lt HSm.out
      have hal := below_alloc wm (.map #[] 0)
      have := crash_start H.out (wl := wm.alloc (.map #[] 0)) (HWm.out.trans (hal.mono HWm.out.size)) (slc_below (slc_below HSa.out HBm.out) hal) (heap_alloc_new wm _) (slc_below HSm.out hal) HNa.out (fun b e => by have := HNm.out b e; have := HWa.out.size; omega) HWm.out.size (fun e => by have := hlt _ e; have := HBm.out.size; omega) (fun e => by have := hltm _ e; omega) (fun b e e' => by have := HNm.out b e; have := hlt b e'; omega)
      rw [size_alloc] at this
      exact this
    · have hlt := slc_lt HSa.out
      have hsw : (w.alloc (.map #[] 0)).drew.heap.size = w.heap.size + 1 := size_alloc _ _
      have hba := HBa.out
      have hna := HNa.out
      rw [hsw] at hba hna
      have hbs := hba.size
      rw [hsw] at hbs
      refine crash_start H.out HWm.out (slc_below HSa.out HBm.out) ((HBm.out.block _ (Nat.lt_of_lt_of_le (Nat.lt_succ_self _) hbs)).trans ((hba.block _ (Nat.lt_succ_self _)).trans (heap_alloc_new w _))) HSm.out (fun b e => by have := hna b e; omega) (fun b e => by have := HNm.out b e; have := HWa.out.size; omega) (Nat.le_refl _) (fun e => by have := hna _ e; omega) (fun e => by have := HNm.out _ e; omega) (fun b e e' => by have := HNm.out b e; have := hlt b e'; omega)
    -->
  case rest =>
    obtain ⟨x1, rfl, hx1⟩ := hcut
    have h2c : wc.cell? ⟨x.g, 2, none⟩ = some x.wv := by
      have hk := (hx1.out.2.1.cell (p := ⟨x.g, 2, none⟩) HGL.out).trans (row13 H.out.cells).2.2.1
      exact hk
    obtain ⟨aw, cw, hvw, hlw, hmw, -⟩ := slc_form H.out.wait.slc
    rw [hvw] at h2c
    have HVW := Lib.hid hvw
    obtain ⟨L, hL⟩ : ∃ L, L = x.wl.length := ⟨_, rfl⟩
    rw [← hL] at h2c hlw
    have HLL := Lib.hid hL
    clear hvw hL f0 f5 f8 HC0 HC8
    go_wp2
    try go_frame
    have HX0 : Hid (∃ x2, x2.g = x1.g ∧ Dev wc { crash0 S with pages := keptN zs S.wait S.pages 0 } x2 ∧ Below w.heap.size w wc ∧ (∀ k, Ex x2 k → w.heap.size ≤ k) ∧ Grows w x.I x2.I) := Lib.hid ⟨x1, rfl, hx1.out⟩
    go_loopw [34] (fun i wr => ∃ k : Nat, k ≤ L ∧ i = .int .i64 (k : Int) ∧ Hid (∃ x2, x2.g = x1.g ∧ Dev wr { crash0 S with pages := keptN zs S.wait S.pages k } x2 ∧ Below w.heap.size w wr ∧ (∀ j, Ex x2 j → w.heap.size ≤ j) ∧ Grows w x.I x2.I)) (fun i _ => ((L : Int) - intOf i).toNat)
    case atStart => exact ⟨0, Nat.zero_le _, rfl, HX0⟩
    case round =>
      obtain ⟨k, hk, rfl, HX2⟩ := hrel
      clear HX0 h2c
      by_cases hkl : k < L
      · have d0 : decide ((k : Int) < (L : Int)) = true := decide_eq_true (by omega)
        --<
        obtain ⟨x2, hg2, hd2, hb2, he2, hi2⟩ := HX2.out
        have hkw : k < x.wl.length := by rw [← HLL.out]; exact hkl
        obtain ⟨y, hy⟩ : ∃ y, y = x.wl[k] := ⟨_, rfl⟩
        have hyk : x.wl[k]? = some y := by rw [List.getElem?_eq_getElem hkw, hy]
        have hym : y ∈ x.wl := by rw [hy]; exact List.getElem_mem hkw
        obtain ⟨y1, y2, y3⟩ := H.out.wait.leaf y hym
        obtain ⟨c0, c1⟩ := wcells_get x.wl k y hyk
        obtain ⟨bw, ow, eaw, r0, r1⟩ : ∃ bw ow, aw = some ⟨bw, ow, none⟩ ∧ wr.cell? ⟨bw, ow + k * 2, none⟩ = some (.int .i64 (y.1 : Int)) ∧ wr.cell? ⟨bw, ow + k * 2 + 1, none⟩ = some (.pointer (some ⟨y.2.1, 0, none⟩)) := by
          obtain ⟨_, _, ⟨_, _, e⟩ | ⟨b, off, cap, e1, e2, hbs, _, _, hx, _⟩⟩ := H.out.wait.slc
          · omega
          · rw [HVW.out] at e2; cases e2
            exact ⟨b, off, rfl, (hb2.cell (p := ⟨b, off + k * 2, none⟩) hbs).trans (hx _ _ c0), (hb2.cell (p := ⟨b, off + k * 2 + 1, none⟩) hbs).trans (hx _ _ c1)⟩
        subst eaw
        have hpl : x2.P.length = x.P.length := by
          have e1 : x2.P.length = (keptN zs S.wait S.pages k).length := by have := congrArg List.length hd2.sure.is; simpa using this
          rw [e1, keptN_length, ← H.out.sure.is, List.length_map]
        have hsl := hd2.sure.slc
        obtain ⟨b2, o2, c2, hsb, hsv, hbs, hle, hmx, hcell, hfz⟩ := slc_cell hsl (j := y.1) (by rw [hpl]; exact y1) (ptr (x2.P.getD y.1 (none, [])).1) (by rw [List.getElem?_map, List.getElem?_eq_getElem (by rw [hpl]; exact y1)]; simp [List.getD, show y.1 < x2.P.length by rw [hpl]; exact y1])
        obtain ⟨q0, -⟩ := row13 hd2.cells
        rw [hg2, hsv, hpl] at q0
        rw [hpl] at hle
        have hfew := H.out.sure.few
        have HCH := Lib.hid (fun V (hV : Below w.heap.size w V) => chosen_any (w := V) (cap := cap) (bytes_below HB.out hV) HL.out k hn)
        have HB2 := Lib.hid hb2; have HPL := Lib.hid hpl; have HSB := Lib.hid hsb; have HSV := Lib.hid hsv; have HYK := Lib.hid hyk; have HY2 := Lib.hid y2; have HY3 := Lib.hid y3
        have HD2 := Lib.hid hd2; have HG2 := Lib.hid hg2; have HE2 := Lib.hid he2; have HI2 := Lib.hid hi2; have HQ0 := Lib.hid q0; have HHC := Lib.hid hcell; have HHF := Lib.hid hfz; have HBS := Lib.hid hbs
        generalize hyp : y.1 = yp at y1 r0 hcell hfz
        generalize hyb : y.2.1 = yb at r1
        have HYP := Lib.hid hyp; have HYB := Lib.hid hyb
        clear hyp hyb
        generalize hP : x.P.length = NP at q0 hle hfew y1
        have HP := Lib.hid hP
        clear hb2 hpl hsb hsv hy hyk hym y2 y3 hd2 hg2 he2 hi2 c0 c1 hsl hbs hP HX2 hkw
        have hl6 : (L : Int) ≤ 9223372036854775807 := by have h2 := hlw; have h3 := hmw; unfold maxLen at h3; omega
        by_cases hp : chose zs k % 2 = 0
        · have hbit : bits .and .i64 ((chose zs k : Nat) : Int) 1 = 0 := by rw [i64_and1]; omega
          have HP2 := Lib.hid hp
          clear hp
          go_wp2_with (go_at_call 39; refine (HCH.out _ (by repeat (first | exact HB2.out | refine Below.drew ?_ | refine Below.alloc ?_ (by first | exact HB2.out.size | (have := HB2.out.size; simp; omega)) _ | refine Below.setCell ?_ (by first | exact HB2.out.size | (have := HB2.out.size; simp; omega)) _))).mono ?_; rintro e w' ⟨rfl, rfl⟩)
          have hN := cells_new wr 72 #[.int .i64 (yp : Int), .pointer (some ⟨yb, 0, none⟩)]
          have hWk : Below w.heap.size w (wr.alloc (.cells #[.int .i64 (yp : Int), .pointer (some ⟨yb, 0, none⟩)] 72)) := HB2.out.alloc HB2.out.size _
          have hDk := dev_below HD2.out (below_alloc wr (.cells #[.int .i64 (yp : Int), .pointer (some ⟨yb, 0, none⟩)] 72))
          have q0 := cell_alloc q0 (.cells #[.int .i64 (yp : Int), .pointer (some ⟨yb, 0, none⟩)] 72)
          have hcell := cell_alloc hcell (.cells #[.int .i64 (yp : Int), .pointer (some ⟨yb, 0, none⟩)] 72)
          have hfz := (frozen_alloc (o := o2 + yp) HBS.out (.cells #[.int .i64 (yp : Int), .pointer (some ⟨yb, 0, none⟩)] 72)).trans hfz
          have c0 := cell_of_row _ _ 0 _ _ _ hN
          have c1 := cell_of_row _ _ 1 _ _ _ hN
          simp only [List.getElem?_toArray, List.getElem?_cons_zero, List.getElem?_cons_succ] at c0 c1
          generalize wr.alloc (.cells #[.int .i64 (yp : Int), .pointer (some ⟨yb, 0, none⟩)] 72) = W at hWk hDk q0 hcell hfz c0 c1 ⊢
          have HWK := Lib.hid hWk; have HDK := Lib.hid hDk
          have d1 : decide ((yp : Int) < 0) = false := decide_eq_false (by omega)
          have d2 : decide ((NP : Int) ≤ yp) = false := decide_eq_false (by omega)
          have d3 : decide (NP ≤ yp) = false := decide_eq_false (by omega)
          clear hN hWk hDk r0 r1 hbit
          go_still_tail 9, (by kernel_rfl)
          go_wp2
          have hyI : x.I yb := by rw [← HYB.out]; exact HY3.out
          have hyo := H.out.out yb hyI
          have hlf : Leaf W yb y.2.2 := by
            have h1 := HY2.out
            rw [HYB.out] at h1
            exact leaf_kept h1 (HWK.out.block yb hyo.2.2.2.2.2)
          have hput := dev_put HDK.out HSB.out HSV.out (by rw [HPL.out, HP.out]; exact y1) hlf (fun e => by have := HE2.out _ e; have := hyo.2.2.2.2.2; omega) (Nat.lt_of_lt_of_le hyo.2.2.2.2.2 HWK.out.size)
          have hwk : S.wait[k]? = some (yp, y.2.2) := by rw [← H.out.wait.is, List.getElem?_map, HYK.out, ← HYP.out]; rfl
          have e : keptN zs S.wait S.pages (k + 1) = (keptN zs S.wait S.pages k).set yp y.2.2 := by rw [keptN, hwk]; exact if_pos HP2.out
          have hput2 := dev_kept (w' := (W.setCell ⟨b2, o2 + yp, none⟩ (.pointer (some ⟨yb, 0, none⟩))).drew) hput (Nat.le_refl _) (fun _ _ => rfl)
          have hb5 := (HWK.out.setCell (p := ⟨b2, o2 + yp, none⟩) (HE2.out b2 (.inr (.inr (.inl HSB.out)))) (.pointer (some ⟨yb, 0, none⟩))).drew
          have hI5 : Grows w x.I (fun j => x2.I j ∨ j = yb) := fun j hj => by
            rcases hj with hj | rfl
            · exact HI2.out j hj
            · exact .inl hyI
          have hfin : ∃ x3 : Gh, x3.g = x1.g ∧ Dev (W.setCell ⟨b2, o2 + yp, none⟩ (.pointer (some ⟨yb, 0, none⟩))).drew { crash0 S with pages := keptN zs S.wait S.pages (k + 1) } x3 ∧ Below w.heap.size w (W.setCell ⟨b2, o2 + yp, none⟩ (.pointer (some ⟨yb, 0, none⟩))).drew ∧ (∀ j, Ex x3 j → w.heap.size ≤ j) ∧ Grows w x.I x3.I := by
            rw [e]
            exact ⟨{ x2 with P := x2.P.set yp (some yb, y.2.2), I := fun j => x2.I j ∨ j = yb }, HG2.out, hput2, hb5, fun j hj => HE2.out j hj, hI5⟩
          refine ⟨⟨k + 1, hkl, by go_num, Lib.hid hfin⟩, ?_⟩
          simp only [intOf]; omega
        · have hbit : bits .and .i64 ((chose zs k : Nat) : Int) 1 = 1 := by rw [i64_and1]; omega
          have HP2 := Lib.hid hp
          clear hp
          go_wp2_with (go_at_call 39; refine (HCH.out _ (by repeat (first | exact HB2.out | refine Below.drew ?_ | refine Below.alloc ?_ (by first | exact HB2.out.size | (have := HB2.out.size; simp; omega)) _ | refine Below.setCell ?_ (by first | exact HB2.out.size | (have := HB2.out.size; simp; omega)) _))).mono ?_; rintro e w' ⟨rfl, rfl⟩)
          have hWk : Below w.heap.size w (wr.alloc (.cells #[.int .i64 (yp : Int), .pointer (some ⟨yb, 0, none⟩)] 72)) := HB2.out.alloc HB2.out.size _
          have hDk := dev_below HD2.out (below_alloc wr (.cells #[.int .i64 (yp : Int), .pointer (some ⟨yb, 0, none⟩)] 72))
          have hwk : S.wait[k]? = some (yp, y.2.2) := by rw [← H.out.wait.is, List.getElem?_map, HYK.out, ← HYP.out]; rfl
          refine ⟨⟨k + 1, hkl, by go_num, Lib.hid ⟨x2, HG2.out, ?_, hWk, HE2.out, HI2.out⟩⟩, ?_⟩
          · have e : keptN zs S.wait S.pages (k + 1) = keptN zs S.wait S.pages k := by rw [keptN, hwk]; exact if_neg HP2.out
            rw [e]; exact hDk
          · simp only [intOf]; omega
        -->
      · have d0 : decide ((k : Int) < (L : Int)) = false := decide_eq_false (by omega)
        obtain rfl : k = L := by omega
        obtain ⟨x2, hg2, hd2, hb2, he2, hi2⟩ := HX2.out
        have r3 := (hb2.cell (p := ⟨x.g, 3, none⟩) HGL.out).trans (row13 H.out.cells).2.2.2.1
        have HG2 := Lib.hid hg2; have HD2 := Lib.hid hd2; have HB2 := Lib.hid hb2; have HE2 := Lib.hid he2; have HI2 := Lib.hid hi2
        obtain ⟨bT, hbT⟩ : ∃ bT, bT = x.T.isSome := ⟨_, rfl⟩
        have HBT := Lib.hid hbT
        clear HX2 hg2 hd2 hb2 he2 hi2 hbT
        generalize hT : x.T = T at r3
        have HTT := Lib.hid hT
        clear hT
        go_upto_region 10 with fail
        go_cut [58] from 6 to 126 (fun c wx => c = .bool bT ∧ wr = wx)
        case first =>
          cases T with
          | none =>
            have hbf : bT = false := by rw [HBT.out, HTT.out]; rfl
            subst hbf
            simp only [tornV, Option.map_none] at r3
            go_wp2
            go_meet
            exact ⟨rfl, rfl⟩
          | some t =>
            have hbt : bT = true := by rw [HBT.out, HTT.out]; rfl
            subst hbt
            simp only [tornV, Option.map_some] at r3
            go_wp2
            go_meet
            exact ⟨rfl, rfl⟩
        case rest =>
          obtain ⟨rfl, rfl⟩ := hcut
          go_upto_if 58 with fail
          go_cut [59] from 6 to 126 (fun _ wx => Hid (∃ x3 : Gh, x3.g = x1.g ∧ Dev wx { crash0 S with pages := tornPages zs S (keptN zs S.wait S.pages k) } x3 ∧ Below w.heap.size w wx ∧ (∀ j, Ex x3 j → w.heap.size ≤ j) ∧ Grows w x.I x3.I))
          case first =>
            --<
            cases T with
            | none =>
              have hbf : bT = false := by rw [HBT.out, HTT.out]; rfl
              subst hbf
              have e : tornPages zs S (keptN zs S.wait S.pages k) = keptN zs S.wait S.pages k := by
                have : S.torn = none := by rw [← H.out.torn.is, HTT.out]; rfl
                rw [tornPages, this]
              have HE := Lib.hid e
              clear e r3
              go_wp2
              go_meet
              rw [HE.out]
              exact Lib.hid ⟨x2, HG2.out, HD2.out, HB2.out, HE2.out, HI2.out⟩
            | some t =>
              have hbt : bT = true := by rw [HBT.out, HTT.out]; rfl
              subst hbt
              obtain ⟨tb, tn, tpb, tl⟩ := t
              obtain ⟨t1, t2, t3, t4, t5⟩ := H.out.torn.at' _ HTT.out
              simp only [tornV, Option.map_some] at r3 t1 t2 t3 t4 t5
              have htb := (H.out.out tb t2).2.2.2.2.2
              have htp := (H.out.out tpb t4).2.2.2.2.2
              have b0 := (HB2.out.cell (p := ⟨tb, 0, none⟩) htb).trans (cell_of_row _ _ 0 _ _ _ t1)
              have b1 := (HB2.out.cell (p := ⟨tb, 1, none⟩) htb).trans (cell_of_row _ _ 1 _ _ _ t1)
              simp only [List.getElem?_toArray, List.getElem?_cons_zero, List.getElem?_cons_succ, ptr, Option.map_some] at b0 b1
              have r2 := (HB2.out.cell (p := ⟨x.g, 2, none⟩) HGL.out).trans (row13 H.out.cells).2.2.1
              rw [HVW.out, ← HLL.out] at r2
              have hz8 : chose zs k < 256 := by
                unfold chose
                by_cases h : k < zs.length
                · have := HB.out.1 zs[k] (List.getElem_mem h)
                  simpa [List.getD, h] using this
                · simp [List.getD, show zs.length ≤ k by omega]
              have hsw : S.wait.length = k := by rw [← H.out.wait.is, List.length_map]; exact HLL.out.symm
              have HCH := Lib.hid (fun V (hV : Below w.heap.size w V) => chosen_any (w := V) (cap := cap) (bytes_below HB.out hV) HL.out k hn)
              have hnp : tn < (keptN zs S.wait S.pages k).length := by rw [keptN_length, ← H.out.sure.is, List.length_map]; exact t5
              have HTE := Lib.hid (fun V (hV : Below wr.heap.size wr V) => tear_does (dev_below HD2.out hV) (n := tn) (k := chose zs k / 2 % 5) (pb := tpb) hnp (leaf_kept t3 ((HB2.out.trans (hV.mono HB2.out.size)).block tpb htp)) (fun e => by have := HE2.out _ e; omega) (by omega))
              rw [HG2.out] at HTE
              have hto : tornPages zs S (keptN zs S.wait S.pages k) = (keptN zs S.wait S.pages k).set tn (torn1 tl ((keptN zs S.wait S.pages k).getD tn []) (chose zs k / 2 % 5)) := by
                have : S.torn = some (tn, tl) := by rw [← H.out.torn.is, HTT.out]; rfl
                rw [tornPages, this, hsw]
              have HTO := Lib.hid hto
              have hq1 : ((chose zs k : Nat) : Int).tdiv 2 = ((chose zs k / 2 : Nat) : Int) := by rw [Int.tdiv_eq_ediv_of_nonneg (by omega)]; omega
              have hq2 : ((chose zs k / 2 : Nat) : Int).tmod 5 = ((chose zs k / 2 % 5 : Nat) : Int) := by rw [Int.tmod_eq_emod_of_nonneg (by omega)]; omega
              have hw1 : IntKind.i64.wrap ((chose zs k / 2 : Nat) : Int) = ((chose zs k / 2 : Nat) : Int) := by rw [IntWalk.i64_in _ (by omega)]
              have hw2 : IntKind.i64.wrap ((chose zs k / 2 % 5 : Nat) : Int) = ((chose zs k / 2 % 5 : Nat) : Int) := by rw [IntWalk.i64_in _ (by omega)]
              clear hto hsw t1 t2 t3 t4 t5 hnp htb htp
              generalize chose zs k / 2 % 5 = z5 at HTE HTO hq2 hw2
              generalize chose zs k / 2 = z2 at hq1 hq2 hw1
              generalize chose zs k = z at HCH hq1 hz8
              go_wp2
              have hgs : ∀ (V : World), Turned (fun j => x2.sb = some j) wr V → V.cell? ⟨x.g, 3, none⟩ = some (.pointer (some ⟨tb, 0, none⟩)) ∧ V.cell? ⟨tb, 0, none⟩ = some (.int .i64 (tn : Int)) ∧ V.cell? ⟨tb, 1, none⟩ = some (.pointer (some ⟨tpb, 0, none⟩)) ∧ V.cell? ⟨x.g, 2, none⟩ = some (.slice aw k cw) := fun V hV =>
                ⟨cell_turned r3 hV (fun e => Nat.lt_irrefl _ (Nat.lt_of_lt_of_le HGL.out (HE2.out _ (.inr (.inr (.inl e)))))), cell_turned b0 hV (fun e => Nat.lt_irrefl _ (Nat.lt_of_lt_of_le (H.out.out tb (H.out.torn.at' _ HTT.out).2.1).2.2.2.2.2 (HE2.out _ (.inr (.inr (.inl e)))))), cell_turned b1 hV (fun e => Nat.lt_irrefl _ (Nat.lt_of_lt_of_le (H.out.out tb (H.out.torn.at' _ HTT.out).2.1).2.2.2.2.2 (HE2.out _ (.inr (.inr (.inl e)))))), cell_turned r2 hV (fun e => Nat.lt_irrefl _ (Nat.lt_of_lt_of_le HGL.out (HE2.out _ (.inr (.inr (.inl e))))))⟩
              have HGS := Lib.hid hgs
              clear hgs
              go_region_held3 (fun w' => w'.cell? ⟨x.g, 3, none⟩ = some (.pointer (some ⟨tb, 0, none⟩)) ∧ w'.cell? ⟨tb, 0, none⟩ = some (.int .i64 (tn : Int)) ∧ w'.cell? ⟨tb, 1, none⟩ = some (.pointer (some ⟨tpb, 0, none⟩)) ∧ w'.cell? ⟨x.g, 2, none⟩ = some (.slice aw k cw)) (go_keep)
                (first
                  | ((go_at_call 39; refine (HCH.out _ (by repeat (first | exact HB2.out | refine Below.drew ?_))).mono ?_; rintro e w' ⟨rfl, rfl⟩))
                  | ((go_at_call 40; refine (HTE.out _ (by repeat (first | exact Below.refl _ _ | refine Below.drew ?_))).mono ?_; rintro e w5 ⟨rfl, ht5, q, hq5, hq6, hd5⟩; have ht6 : Turned (fun j => x2.sb = some j) wr w5 := (by first | exact ht5 | exact ((Turned.refl _ wr).drew).trans ht5 (fun _ h => .inl h)); obtain ⟨s3, s0, s1, s2⟩ := HGS.out w5 ht6; have HT6 := Lib.hid ht6; have HQ5 := Lib.hid (And.intro hq5 hq6); have HD5 := Lib.hid hd5; clear ht5 ht6 hq5 hq6 hd5)))
              all_goals
                go_wp2
                go_meet
                rw [HTO.out]
                refine Lib.hid ⟨{ x2 with g := x1.g, P := x2.P.set tn (some q, torn1 tl ((keptN zs S.wait S.pages k).getD tn []) z5), I := fun j => x2.I j ∨ j = q }, rfl, HD5.out, ?_, fun j hj => HE2.out j (by rcases hj with h | h; exact .inl (by rw [HG2.out]; exact h); exact .inr h), fun j hj => ?_⟩
                · exact Turned.to_below HB2.out HT6.out (fun j hj => HE2.out j (.inr (.inr (.inl hj)))) HB2.out.size
                · rcases hj with hj | rfl
                  · exact HI2.out j hj
                  · exact .inr (Nat.le_trans HB2.out.size HQ5.out.1)
            -->
          case rest =>
            obtain ⟨x3, hg3, hd3, hb3, he3, hi3⟩ := hcut.out
            obtain ⟨f0, f1, f2, f3, f4, f5, f6, f7, f8, f9, f10, f11, f12, fz⟩ := row13 H.out.cells
            obtain ⟨al, cl, hlv, hll, hlm, -⟩ := slc_form H.out.log.slc
            obtain ⟨ah, ch, hhv, hhl, hhm, -⟩ := slc_form H.out.half.slc
            rw [hlv] at f4
            rw [hhv] at f7
            have r4 := (hb3.cell (p := ⟨x.g, 4, none⟩) HGL.out).trans f4
            have r6 := (hb3.cell (p := ⟨x.g, 6, none⟩) HGL.out).trans f6
            have r7 := (hb3.cell (p := ⟨x.g, 7, none⟩) HGL.out).trans f7
            have hls := H.out.log.slc
            rw [hlv] at hls
            obtain ⟨a2, c2, hrun, hs2⟩ := slc_from hls H.out.num.2.2.1
            have hrun' : ∀ V, (Instr.slice 28 (.slice al S.log.length cl) (some (.int .i64 (S.kept : Int))) none none).run Try.prog V = .ok (.slice a2 (S.log.length - S.kept) c2) V := hrun
            have e2 : (u8s S.log).drop S.kept = u8s (S.log.drop S.kept) := by rw [u8s, u8s, List.map_drop]
            rw [e2] at hs2
            have hlb : (S.log.drop S.kept).length = S.log.length - S.kept := List.length_drop
            have HCL := Lib.hid (fun V (hV : Below w.heap.size w V) => (clone_bytes (w := V) (cap := c2) (bytes_below (slc_bytes hs2 (fun c hc => H.out.log.byte c (List.mem_of_mem_drop hc))) hV) hlb (by have := H.out.num.1; have := H.out.num.2.1; omega)).mono (newSlc2 hV))
            have hhs := H.out.half.slc
            rw [hhv] at hhs
            have HSH := Lib.hid (fun V (hV : Below w.heap.size w V) => bytes_src (w := V) (cap := ch) Try.underlying28 (bytes_below (slc_bytes hhs H.out.half.byte) hV) rfl)
            have HB3 := Lib.hid hb3; have HG3 := Lib.hid hg3; have HD3 := Lib.hid hd3; have HE3 := Lib.hid he3; have HI3 := Lib.hid hi3
            have hnl : S.log.length - S.kept + S.half.length ≤ 16777216 := by have := H.out.num; omega
            obtain ⟨nk, hnk⟩ : ∃ nk, nk = S.log.length - S.kept := ⟨_, rfl⟩
            obtain ⟨nh, hnh⟩ : ∃ nh, nh = S.half.length := ⟨_, rfl⟩
            obtain ⟨ny, hny⟩ : ∃ ny, ny = nk + nh := ⟨_, rfl⟩
            have HNY := Lib.hid hny; have HNK := Lib.hid hnk; have HNH := Lib.hid hnh
            rw [← hnk] at HCL hrun' hnl
            rw [← hnh] at HSH r7 hnl
            rw [← hny] at hnl
            obtain ⟨ib, RB⟩ := rowU8
            have HRB := Lib.hid RB
            clear f0 f1 f2 f3 f4 f5 f6 f7 f8 f9 f10 f11 f12 fz hlv hll hlm hhv hhl hhm hls hrun hs2 e2 hlb hhs hb3 hg3 hd3 he3 hi3 hny hnk hnh RB r3
            go_upto_region 12 with fail
            go_cut [8] from 6 to 126 (fun v wx => ∃ (ay : Option Addr) (cy : Nat), v = .slice ay ny cy ∧ Hid (∃ by', Slc wx by' 1 (.slice ay ny cy) ny (u8s (late S))) ∧ Hid (Below wc.heap.size wc wx))
            case first =>
              --<
              go_region_held3 (fun w' => w'.cell? ⟨x.g, 4, none⟩ = some (.slice al S.log.length cl) ∧ w'.cell? ⟨x.g, 6, none⟩ = some (.int .i64 (S.kept : Int)) ∧ w'.cell? ⟨x.g, 7, none⟩ = some (.slice ah nh ch)) (go_keep)
                (first
                  | ((go_at_call 38; refine (HCL.out _ (by repeat (first | exact HB3.out | refine Below.drew ?_))).mono ?_; rintro e wm ⟨am, cm, bm, rfl, h1, h2, h3, h4⟩; have HSm := Lib.hid h1; have HWm := Lib.hid h2; have HBm : Hid (Below wc.heap.size wc wm) := Lib.hid (by exact ⟨h3.os, h3.tape, h3.output, h3.size, h3.block⟩); have HNm := Lib.hid h4; have m4 := (HBm.out.cell (p := ⟨x.g, 4, none⟩) (Nat.lt_of_lt_of_le HGL.out HB3.out.size)).trans r4; have m6 := (HBm.out.cell (p := ⟨x.g, 6, none⟩) (Nat.lt_of_lt_of_le HGL.out HB3.out.size)).trans r6; have m7 := (HBm.out.cell (p := ⟨x.g, 7, none⟩) (Nat.lt_of_lt_of_le HGL.out HB3.out.size)).trans r7; clear h1 h2 h3 h4))
                  | ((refine step_slc HRB.out rfl (.tmp 85) (.tmp 89) 28 rfl (by rfl) (by rfl) HSm.out (HSH.out _ HWm.out) HNY.out.symm (by unfold maxLen; omega) (by omega) ?_; intro ao3 cap3 bo w3 g1 g2 g3; have G1 := Lib.hid g1; have G2 := Lib.hid g2; have v4 := cell_turned m4 g2 (fun e => Nat.lt_irrefl _ (Nat.lt_of_lt_of_le (Nat.lt_of_lt_of_le HGL.out HB3.out.size) (HNm.out _ e))); have v6 := cell_turned m6 g2 (fun e => Nat.lt_irrefl _ (Nat.lt_of_lt_of_le (Nat.lt_of_lt_of_le HGL.out HB3.out.size) (HNm.out _ e))); have v7 := cell_turned m7 g2 (fun e => Nat.lt_irrefl _ (Nat.lt_of_lt_of_le (Nat.lt_of_lt_of_le HGL.out HB3.out.size) (HNm.out _ e))); clear g1 g2 g3)))
              all_goals
                go_wp2
                go_meet
                refine ⟨ao3, cap3, rfl, Lib.hid ⟨bo, ?_⟩, Lib.hid (Turned.to_below HBm.out G2.out (fun j e => HNm.out j e) HBm.out.size)⟩
                have e : u8s (late S) = u8s (S.log.drop S.kept) ++ u8s S.half := by rw [late, u8s, u8s, u8s, List.map_append]
                rw [e]
                exact G1.out
              -->
            case rest =>
              obtain ⟨ay, cy, rfl, HSY, HBY⟩ := hcut
              have hc0 : Hid (∀ V, Below w.heap.size w V → Calls Try.prog 39 #[.slice a n cap, .int .i64 0] V fun e w' => e = .returned (.int .i64 (chose zs 0 : Int)) ∧ V = w') := Lib.hid (fun V hV => chosen_any (w := V) (cap := cap) (bytes_below HB.out hV) HL.out 0 hn)
              have hc1 : Hid (∀ V, Below w.heap.size w V → Calls Try.prog 39 #[.slice a n cap, .int .i64 1] V fun e w' => e = .returned (.int .i64 (chose zs 1 : Int)) ∧ V = w') := Lib.hid (fun V hV => chosen_any (w := V) (cap := cap) (bytes_below HB.out hV) HL.out 1 hn)
              have hz : ∀ i, chose zs i < 256 := fun i => by
                unfold chose
                by_cases h : i < zs.length
                · have := HB.out.1 zs[i] (List.getElem_mem h)
                  simpa [List.getD, h] using this
                · simp [List.getD, show zs.length ≤ i by omega]
              have hz0 := hz 0
              have hz1 := hz 1
              have hlk : (chose zs 0 + 256 * chose zs 1) % (ny + 1) = lateK zs S := by
                have : (late S).length = ny := by rw [late, List.length_append, List.length_drop, HNY.out, HNK.out, HNH.out]
                rw [lateK, this]
              have hky : lateK zs S ≤ ny := by rw [← hlk]; exact Nat.le_of_lt_succ (Nat.mod_lt _ (Nat.succ_pos ny))
              have HKY := Lib.hid hky
              have hw1 : ((chose zs 0 : Nat) : Int) + 256 * ((chose zs 1 : Nat) : Int) = ((chose zs 0 + 256 * chose zs 1 : Nat) : Int) := by omega
              have hw2 : ((chose zs 0 + 256 * chose zs 1 : Nat) : Int).tmod ((ny : Int) + 1) = ((lateK zs S : Nat) : Int) := by
                rw [Int.tmod_eq_emod_of_nonneg (by omega), ← hlk]; rfl
              have hne : ¬ ((ny : Int) + 1 = 0) := by omega
              clear hz hlk HCL HSH hrun' r4 r6 r7
              generalize chose zs 0 + 256 * chose zs 1 = zt at hw1 hw2
              generalize chose zs 0 = z0 at hc0 hz0 hw1
              generalize chose zs 1 = z1 at hc1 hz1 hw1
              go_wp2_with (first | (go_at_call 39; (with_reducible refine (hc0.out _ (HB3.out.trans (HBY.out.mono HB3.out.size))).mono ?_); rintro e w' ⟨rfl, rfl⟩) | (go_at_call 39; (with_reducible refine (hc1.out _ (HB3.out.trans (HBY.out.mono HB3.out.size))).mono ?_); rintro e w' ⟨rfl, rfl⟩))
              have hwc : Below w.heap.size w wc := HB3.out.trans (HBY.out.mono HB3.out.size)
              obtain ⟨f0, f1, f2, f3, f4, f5, f6, f7, f8, f9, f10, f11, f12, fz⟩ := row13 H.out.cells
              obtain ⟨al, cl, hlv, hll, hlm, -⟩ := slc_form H.out.log.slc
              have hls := H.out.log.slc
              rw [hlv] at f4 hls
              have r4 := (hwc.cell (p := ⟨x.g, 4, none⟩) HGL.out).trans f4
              have r6 := (hwc.cell (p := ⟨x.g, 6, none⟩) HGL.out).trans f6
              obtain ⟨hr1, hu1⟩ := slc_upto hls H.out.num.2.2.1
              have e1 : (u8s S.log).take S.kept = u8s (S.log.take S.kept) := by rw [u8s, u8s, List.map_take]
              rw [e1] at hu1
              have hk1 : (S.log.take S.kept).length = S.kept := by rw [List.length_take]; exact Nat.min_eq_left H.out.num.2.2.1
              have hkb : S.kept ≤ 16777216 := by have := H.out.num; omega
              have HCL := Lib.hid (fun V (hV : Below w.heap.size w V) => (clone_bytes (w := V) (cap := cl) (bytes_below (slc_bytes hu1 (fun c hc => H.out.log.byte c (List.mem_of_mem_take hc))) hV) hk1 (by omega)).mono (newSlc2 hV))
              obtain ⟨by2, hby2⟩ := HSY.out
              obtain ⟨hr2, hu2⟩ := slc_upto hby2 HKY.out
              have hlz : ∀ c ∈ late S, c < 256 := fun c hc => by
                rcases List.mem_append.1 hc with h1 | h1
                · exact H.out.log.byte c (List.mem_of_mem_drop h1)
                · exact H.out.half.byte c h1
              have e2 : (u8s (late S)).take (lateK zs S) = u8s ((late S).take (lateK zs S)) := by rw [u8s, u8s, List.map_take]
              rw [e2] at hu2
              have hk2 : ((late S).take (lateK zs S)).length = lateK zs S := by have := hu2.1; simpa [u8s] using this
              have HSH := Lib.hid (fun V (hV : Below wc.heap.size wc V) => bytes_src (w := V) (cap := cy) Try.underlying28 (bytes_below (slc_bytes hu2 (fun c hc => hlz c (List.mem_of_mem_take hc))) hV) hk2)
              have hd3 := dev_below HD3.out HBY.out
              have hx1 : x1.g < wc.heap.size := by have := dev_size hd3 _ (.inl rfl); rw [HG3.out] at this; exact this
              obtain ⟨q0, q1, q2, q3, q4, q5, q6, q7, q8, q9, q10, q11, q12, qz⟩ := row13 hd3.cells
              rw [HG3.out] at q4
              have qz4 : wc.frozen? ⟨x1.g, 4, none⟩ = false := by rw [← HG3.out]; exact qz 4
              rw [HG3.out] at q6
              have qz6 : wc.frozen? ⟨x1.g, 6, none⟩ = false := by rw [← HG3.out]; exact qz 6
              have hgx : x.g ≠ x1.g := fun e => Nat.lt_irrefl _ (Nat.lt_of_lt_of_le HGL.out (HE3.out _ (.inl (by rw [HG3.out]; exact e))))
              have HX1 := Lib.hid hx1; have HWC := Lib.hid hwc; have HDC := Lib.hid hd3
              obtain ⟨nr, hnr⟩ : ∃ nr, nr = S.kept + lateK zs S := ⟨_, rfl⟩
              have HNR := Lib.hid hnr
              have hnrb : nr ≤ 33554432 := by omega
              generalize hlk9 : lateK zs S = lk at hr2 HSH HNR hw2
              have HLK := Lib.hid hlk9
              clear hlk9
              clear f0 f1 f2 f3 f4 f5 f6 f7 f8 f9 f10 f11 f12 fz hlv hll hlm hls hu1 e1 hk1 hby2 hu2 hlz e2 hk2 hd3 hx1 q0 q1 q2 q3 q5 q7 q8 q9 q10 q11 q12 qz hnr hw1 hw2 hne hz0 hz1 hc0 hc1 hwc
              go_region_held3 (fun w' => w'.cell? ⟨x.g, 4, none⟩ = some (.slice al S.log.length cl) ∧ w'.cell? ⟨x.g, 6, none⟩ = some (.int .i64 (S.kept : Int)) ∧ w'.frozen? ⟨x1.g, 4, none⟩ = false) (first | (go_keep; done) | (refine ⟨?_, ?_, ?_⟩ <;> first | (go_keep; done) | (rw [World.cell?_setCell_other _ _ _ _ (by intro e'; apply hgx; simp only [Addr.mk.injEq] at e'; omega)]; assumption) | (rw [World.frozen?_setCell]; assumption)))
                (first
                  | ((go_at_call 38; refine (HCL.out _ (by repeat (first | exact HWC.out | refine Below.drew ?_))).mono ?_; rintro e wm ⟨am, cm, bm, rfl, h1, h2, h3, h4⟩; have HSm := Lib.hid h1; have HWm := Lib.hid h2; have HBm : Hid (Below wc.heap.size wc wm) := Lib.hid (by exact ⟨h3.os, h3.tape, h3.output, h3.size, h3.block⟩); have HNm := Lib.hid h4; have m4 := (HBm.out.cell (p := ⟨x.g, 4, none⟩) (Nat.lt_of_lt_of_le HGL.out HWC.out.size)).trans r4; have m6 := (HBm.out.cell (p := ⟨x.g, 6, none⟩) (Nat.lt_of_lt_of_le HGL.out HWC.out.size)).trans r6; have m1 := (HBm.out.cell (p := ⟨x1.g, 4, none⟩) HX1.out).trans q4; have mz := (HBm.out.frozen (p := ⟨x1.g, 4, none⟩) HX1.out).trans qz4; have m16 := (HBm.out.cell (p := ⟨x1.g, 6, none⟩) HX1.out).trans q6; have mz6 := (HBm.out.frozen (p := ⟨x1.g, 6, none⟩) HX1.out).trans qz6; clear h1 h2 h3 h4))
                  | ((refine step_slc HRB.out rfl (.tmp 111) (.tmp 114) 28 rfl (by rfl) (by rfl) HSm.out (HSH.out _ HBm.out) HNR.out.symm (by unfold maxLen; omega) (by omega) ?_; intro ao3 cap3 bo w3 g1 g2 g3; have G1 := Lib.hid g1; have G2 := Lib.hid g2; have G3 := Lib.hid g3; have v4 := cell_turned m4 g2 (fun e => Nat.lt_irrefl _ (Nat.lt_of_lt_of_le (Nat.lt_of_lt_of_le HGL.out HWC.out.size) (HNm.out _ e))); have v6 := cell_turned m6 g2 (fun e => Nat.lt_irrefl _ (Nat.lt_of_lt_of_le (Nat.lt_of_lt_of_le HGL.out HWC.out.size) (HNm.out _ e))); have v1 := cell_turned m1 g2 (fun e => Nat.lt_irrefl _ (Nat.lt_of_lt_of_le HX1.out (HNm.out _ e))); have vz : w3.frozen? ⟨x1.g, 4, none⟩ = false := (World.frozen?_of_block (a := ⟨x1.g, 4, none⟩) (g2.block x1.g (Nat.lt_of_lt_of_le HX1.out HBm.out.size) (fun e => Nat.lt_irrefl _ (Nat.lt_of_lt_of_le HX1.out (HNm.out _ e))))).trans mz; have v16 := cell_turned m16 g2 (fun e => Nat.lt_irrefl _ (Nat.lt_of_lt_of_le HX1.out (HNm.out _ e))); have vz6 : w3.frozen? ⟨x1.g, 6, none⟩ = false := (World.frozen?_of_block (a := ⟨x1.g, 6, none⟩) (g2.block x1.g (Nat.lt_of_lt_of_le HX1.out HBm.out.size) (fun e => Nat.lt_irrefl _ (Nat.lt_of_lt_of_le HX1.out (HNm.out _ e))))).trans mz6; clear g1 g2 g3)))
              all_goals
                go_wp2
                rw [← HQ.out]
                have hlg : logLeft zs S = S.log.take S.kept ++ (late S).take lk := by rw [logLeft, HLK.out]
                have hlu : u8s (logLeft zs S) = u8s (S.log.take S.kept) ++ u8s ((late S).take lk) := by rw [hlg, u8s, u8s, u8s, List.map_append]
                have hll : (logLeft zs S).length = nr := by
                  have h1 := G1.out.1
                  rw [← hlu, u8s, List.length_map] at h1; omega
                have hpk : S.wait.length = k := by rw [← H.out.wait.is, List.length_map]; exact HLL.out.symm
                have hng : ¬ (bm = some x3.g) := fun e => Nat.lt_irrefl _ (Nat.lt_of_lt_of_le HX1.out (by have := HNm.out _ e; rw [HG3.out] at this; exact this))
                have hT0 : Turned (fun j => bm = some j) wc w3 := ((Turned.refl _ wc).below HBm.out).trans G2.out (fun j e => .inr (HNm.out j e))
                have hT1 : Turned (fun j => j = x3.g ∨ x3.lb = some j) wc w3 := ⟨hT0.os, hT0.tape, hT0.output, hT0.size, fun j hj hn => hT0.block j hj (fun e => Nat.lt_irrefl _ (Nat.lt_of_lt_of_le hj (HNm.out j e)))⟩
                have hT2 := (hT1.setCell (p := ⟨x1.g, 4, none⟩) (.inl (.inl HG3.out.symm)) (.slice ao3 nr cap3)).setCell (p := ⟨x1.g, 6, none⟩) (.inl (.inl HG3.out.symm)) (.int .i64 (nr : Int))
                have hc3 : Cells w3 x3.g _ _ := cells_turned HDC.out.cells hT0 hng
                have hc4 := cells_setCell (o := 6) (v := .int .i64 (nr : Int)) (cells_setCell (o := 4) (v := .slice ao3 nr cap3) hc3)
                rw [HG3.out] at hc4
                have hbo : ∀ b, bo = some b → w.heap.size ≤ b ∧ wc.heap.size ≤ b := fun b e => by
                  have h1 := HWC.out.size
                  have h2 := HBm.out.size
                  rcases G3.out with h | h
                  · have h3 := HNm.out b (by rw [← h]; exact e)
                    have h4 : wc.heap.size ≤ b := h3
                    omega
                  · rw [h] at e; cases e; exact ⟨Nat.le_trans h1 h2, h2⟩
                have hTw : Turned (fun j => j = x1.g) w3 ((w3.setCell ⟨x1.g, 4, none⟩ (.slice ao3 nr cap3)).setCell ⟨x1.g, 6, none⟩ (.int .i64 (nr : Int))) := turned_gg (turned_g _) _
                have hsl : Slc ((w3.setCell ⟨x1.g, 4, none⟩ (.slice ao3 nr cap3)).setCell ⟨x1.g, 6, none⟩ (.int .i64 (nr : Int))) bo 1 (.slice ao3 nr cap3) nr (u8s (logLeft zs S)) := by
                  rw [hlu]
                  exact slc_turned G1.out hTw (fun b e e' => by have := (hbo b e).2; have := HX1.out; omega)
                have hby : ∀ c ∈ logLeft zs S, c < 256 := fun c hc => by
                  rw [hlg] at hc
                  rcases List.mem_append.1 hc with h1 | h1
                  · exact H.out.log.byte c (List.mem_of_mem_take h1)
                  · rcases List.mem_append.1 (List.mem_of_mem_take h1) with h2 | h2
                    · exact H.out.log.byte c (List.mem_of_mem_drop h2)
                    · exact H.out.half.byte c h2
                have hroom : nr ≤ S.room := by
                  have h1 := HNR.out; have h2 := HLK.out; have h3 := HKY.out; have h4 := HNY.out; have h5 := HNK.out; have h6 := HNH.out; have h7 := H.out.num
                  omega
                have hd := dev_log HDC.out hT2 (bo := bo) (v := .slice ao3 nr cap3) (l := logLeft zs S) (kept' := nr) (by rw [HG3.out]; exact hc4) (by rw [hll]; exact hsl) hby (.inr (fun b e => (hbo b e).2)) (by rw [hll]; exact Nat.le_trans (Nat.le_of_eq (Nat.zero_add nr)) hroom) (by rw [hll]; exact Nat.le_refl nr)
                refine ⟨{ x3 with lb := bo, lv := .slice ao3 nr cap3 }, ?_, ?_, ?_, ?_, ?_⟩
                · show Ending.returned (.pointer (some ⟨x1.g, 0, none⟩)) = .returned (.pointer (some ⟨x3.g, 0, none⟩))
                  rw [HG3.out]
                · rw [leftOf, hpk, hll]
                  exact hd
                · refine Turned.to_below HWC.out hT2 (fun j hj => ?_) HWC.out.size
                  rcases hj with hj | hj
                  · exact HE3.out j (.inl hj)
                  · exact HE3.out j (.inr (.inr (.inr (.inr hj))))
                · intro j hj
                  rcases hj with hj | hj | hj | hj | hj
                  · exact HE3.out j (.inl hj)
                  · exact HE3.out j (.inr (.inl hj))
                  · exact HE3.out j (.inr (.inr (.inl hj)))
                  · exact HE3.out j (.inr (.inr (.inr (.inl hj))))
                  · exact (hbo j hj).1
                · exact fun j hj => HI3.out j hj
end
end Go.Proofs.Ytikcanbhdickgaa
