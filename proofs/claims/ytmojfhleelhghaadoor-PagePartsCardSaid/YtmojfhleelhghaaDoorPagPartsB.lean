/- A page's parts, whatever its bytes: the law's own walk. -/
import Derived.Test.YtmojfhleelhghaaDoorPagRefMore
import Derived.Deep.CutRange
namespace Go.Proofs.YtmojfhleelhghaaDoor
open Go.ChangeShapes Go.WideShapes Go.ChangeAt Go.RowKit

attribute [local irreducible] str
set_option maxHeartbeats 8000000 in
set_option maxRecDepth 100000 in
theorem parts_good {bK bI bZ : Bool} {b off cap kN kC kX kY kZ n kd sn lk ex : Nat} {kind i link extra lsn nN nC nZ m : Int} {zs RN RC RX RY RZ : List Nat} {ls : List (List Nat)} {w : World}
    (HN : Hid (∀ V, Below w.heap.size w V → Calls Tryd.prog 8 #[.int .i64 kind] V (Tells V RN kN nN)))
    (HCt : Hid (∀ V, Below w.heap.size w V → Calls Tryd.prog 16 #[.slice (some ⟨b, off, none⟩) 512 cap] V fun e w' => e = .returned (.tuple #[.int .i64 (n : Int), .int .i64 0]) ∧ Below V.heap.size V w'))
    (HFr : Hid (∀ V, Below w.heap.size w V → Calls Tryd.prog 11 #[.slice (some ⟨b, off, none⟩) 512 cap] V fun e w' => e = .returned (.tuple #[.int .i64 m, .int .i64 0]) ∧ Below V.heap.size V w'))
    (HCl : Hid (∀ V, Below w.heap.size w V → Calls Tryd.prog 17 #[.slice (some ⟨b, off, none⟩) 512 cap, .int .i64 i] V (Tells V RC kC nC)))
    (HCs : Hid (∀ V, Below w.heap.size w V → Calls Tryd.prog 18 #[.slice (some ⟨b, off, none⟩) 512 cap] V (CellsOut V n ls)))
    (HCk : Hid (∀ V, Below w.heap.size w V → Calls Tryd.prog 15 #[.slice (some ⟨b, off, none⟩) 512 cap] V fun e w' => ∃ c, e = .returned (.int .i64 c) ∧ checkOf zs c ∧ Below V.heap.size V w'))
    (HCr : Hid (∀ V, Below w.heap.size w V → Calls Tryd.prog 19 #[.slice (some ⟨b, off, none⟩) 512 cap] V fun e w' => ∃ c, e = .returned (.int .i64 c) ∧ checkOf zs c ∧ Below V.heap.size V w'))
    (HGp : Hid (∀ V, Below w.heap.size w V → Calls Tryd.prog 20 #[.slice (some ⟨b, off, none⟩) 512 cap] V fun e w' => e = .returned (.bool true) ∧ Below V.heap.size V w'))
    (HGr : Hid (∀ V, Below w.heap.size w V → Calls Tryd.prog 21 #[.slice (some ⟨b, off, none⟩) 512 cap] V fun e w' => e = .returned (.bool true) ∧ Below V.heap.size V w'))
    (hK : (bK = true ∧ (kind < 0 ∨ 255 < kind) ∧ kN = 0 ∧ nN = 1) ∨ (bK = false ∧ (0 ≤ kind ∧ kind ≤ 255) ∧ nN = 0 ∧ ∀ V, Below w.heap.size w V → Calls Tryd.prog 23 #[.int .i64 kind] V (Is V RN kN)))
    (HCo : Hid (∀ V, Below w.heap.size w V → Calls Tryd.prog 24 #[.slice (some ⟨b, off, none⟩) 512 cap] V (Tells V RX kX 0)))
    (HSe : Hid (∀ V, Below w.heap.size w V → Calls Tryd.prog 12 #[.slice (some ⟨b, off, none⟩) 512 cap, .int .u64 lsn] V (Tells V RY kY 0)))
    (HSt : Hid (∀ V, Below w.heap.size w V → Calls Tryd.prog 25 #[.slice (some ⟨b, off, none⟩) 512 cap, .int .i64 link, .int .i64 extra] V (Tells V RZ kZ nZ)))
    (HHd : Hid (∀ V, Below w.heap.size w V → Calls Tryd.prog 26 #[.slice (some ⟨b, off, none⟩) 512 cap] V fun e w' => e = .returned (.tuple #[.int .i64 (kd : Int), .int .u64 (sn : Int), .int .i64 (lk : Int), .int .i64 (ex : Int), .int .i64 0]) ∧ Below V.heap.size V w'))
    (HCtr : Hid (∀ V, Below w.heap.size w V → Calls Tryd.prog 27 #[.slice (some ⟨b, off, none⟩) 512 cap] V fun e w' => e = .returned (.int .i64 (n : Int)) ∧ V = w'))
    (HFrr : Hid (∀ V, Below w.heap.size w V → Calls Tryd.prog 28 #[.slice (some ⟨b, off, none⟩) 512 cap] V fun e w' => e = .returned (.int .i64 m) ∧ V = w'))
    (HCsr : Hid (∀ V, Below w.heap.size w V → Calls Tryd.prog 30 #[.slice (some ⟨b, off, none⟩) 512 cap] V fun e w' => ∃ v vs, e = .returned v ∧ w'.ownsRow V.heap.size 22 1 v n vs ∧ RowsU w' V.heap.size vs ls ∧ Below V.heap.size V w'))
    (hSh : Short ls) (hn : n ≤ 121) (hln : ls.length = n)
    (hI : (bI = true ∧ (i < 0 ∨ (n : Int) ≤ i) ∧ kC = 0 ∧ nC = 1) ∨ (bI = false ∧ (0 ≤ i ∧ i < (n : Int)) ∧ nC = 0 ∧ ∃ h : i.toNat < ls.length, RC = ls[i.toNat]))
    (hZ : (bZ = true ∧ (link < 0 ∨ 4294967295 < link ∨ extra < 0 ∨ 4294967295 < extra) ∧ RZ = [] ∧ nZ = 1) ∨ (bZ = false ∧ (0 ≤ link ∧ link ≤ 4294967295 ∧ 0 ≤ extra ∧ extra ≤ 4294967295) ∧ nZ = 0 ∧ ∀ V, Below w.heap.size w V → Calls Tryd.prog 31 #[.slice (some ⟨b, off, none⟩) 512 cap, .int .i64 link, .int .i64 extra] V (Is V RZ kZ)))
    (HCor : Hid (∀ V, Below w.heap.size w V → Calls Tryd.prog 32 #[.slice (some ⟨b, off, none⟩) 512 cap] V (Is V RX kX)))
    (HSer : Hid (∀ V, Below w.heap.size w V → Calls Tryd.prog 33 #[.slice (some ⟨b, off, none⟩) 512 cap, .int .u64 lsn] V (Is V RY kY)))
    (HG4 : Hid (∀ V, Below w.heap.size w V → Calls Tryd.prog 34 #[.slice (some ⟨b, off, none⟩) 512 cap, .int .i64 4, .int .i64 8] V fun e w' => e = .returned (.int .u64 (sn : Int)) ∧ V = w'))
    (HG18 : Hid (∀ V, Below w.heap.size w V → Calls Tryd.prog 34 #[.slice (some ⟨b, off, none⟩) 512 cap, .int .i64 18, .int .i64 4] V fun e w' => e = .returned (.int .u64 (lk : Int)) ∧ V = w'))
    (HG22 : Hid (∀ V, Below w.heap.size w V → Calls Tryd.prog 34 #[.slice (some ⟨b, off, none⟩) 512 cap, .int .i64 22, .int .i64 4] V fun e w' => e = .returned (.int .u64 (ex : Int)) ∧ V = w'))
    (HP12 : Hid (∀ V, Below w.heap.size w V → V.cell? ⟨b, off + 12, none⟩ = some (.int .u8 (kd : Int))))
    (hkd : kd < 256) (hlk : lk < 4294967296) (hex : ex < 4294967296) :
    Calls Tryd.prog 4 #[.slice (some ⟨b, off, none⟩) 512 cap, .int .i64 kind, .int .i64 i, .int .i64 link, .int .i64 extra, .int .u64 lsn] w fun e w' => e = .returned (.bool true) ∧ Below w.heap.size w w' := by
  have HB0 : Hid (Below w.heap.size w w) := Lib.hid (Below.refl _ _)
  go_enter Tryd.func4, Tryd.ntmps4
  as_aux_lemma =>
  go_wp2_with fail
  refine (HN.out w HB0.out).mono ?_
  rintro e w1 ⟨a1, c1, rfl, hl1, hby, hbel⟩
  have HB1 : Hid (Below w.heap.size w w1) := Lib.hid (HB0.out.trans (hbel.mono HB0.out.size))
  have HY1 := Lib.hid hby
  clear hby
  clear hbel
  as_aux_lemma =>
  go_wp2_with fail
  refine (HCt.out w1 HB1.out).mono ?_
  rintro e w2 ⟨rfl, hbel⟩
  have HB2 : Hid (Below w.heap.size w w2) := Lib.hid (HB1.out.trans (hbel.mono HB1.out.size))
  have HY1 := Lib.hid (bytes_below HY1.out hbel)
  clear hbel
  as_aux_lemma =>
  go_wp2_with fail
  refine (HFr.out w2 HB2.out).mono ?_
  rintro e w3 ⟨rfl, hbel⟩
  have HB3 : Hid (Below w.heap.size w w3) := Lib.hid (HB2.out.trans (hbel.mono HB2.out.size))
  have HY1 := Lib.hid (bytes_below HY1.out hbel)
  clear hbel
  as_aux_lemma =>
  go_wp2_with fail
  refine (HCl.out w3 HB3.out).mono ?_
  rintro e w4 ⟨a4, c4, rfl, hl4, hby, hbel⟩
  have HB4 : Hid (Below w.heap.size w w4) := Lib.hid (HB3.out.trans (hbel.mono HB3.out.size))
  have HY4 := Lib.hid hby
  clear hby
  have HY1 := Lib.hid (bytes_below HY1.out hbel)
  clear hbel
  as_aux_lemma =>
  go_wp2_with fail
  refine (HCs.out w4 HB4.out).mono ?_
  rintro e w5 ⟨G, xs, rfl, hrp, hxc, hxm, hGw, hbel⟩
  have HB5 : Hid (Below w.heap.size w w5) := Lib.hid (HB4.out.trans (hbel.mono HB4.out.size))
  have HRP := Lib.hid hrp
  have HXC := Lib.hid hxc
  have HXM := Lib.hid hxm
  clear hrp hxc hxm hGw
  have HY1 := Lib.hid (bytes_below HY1.out hbel)
  have HY4 := Lib.hid (bytes_below HY4.out hbel)
  clear hbel
  as_aux_lemma =>
  go_wp2_with fail
  refine (awake_any w5).mono ?_
  rintro e w6 ⟨rfl, hbel⟩
  have HB6 : Hid (Below w.heap.size w w6) := Lib.hid (HB5.out.trans (hbel.mono HB5.out.size))
  have HY1 := Lib.hid (bytes_below HY1.out hbel)
  have HY4 := Lib.hid (bytes_below HY4.out hbel)
  have HRP := Lib.hid (rowsPart_below HRP.out hbel)
  clear hbel
  as_aux_lemma =>
  go_wp2_with fail
  refine (HCk.out w6 HB6.out).mono ?_
  rintro e w7 ⟨ck, rfl, hck, hbel⟩
  have HB7 : Hid (Below w.heap.size w w7) := Lib.hid (HB6.out.trans (hbel.mono HB6.out.size))
  have HY1 := Lib.hid (bytes_below HY1.out hbel)
  have HY4 := Lib.hid (bytes_below HY4.out hbel)
  have HRP := Lib.hid (rowsPart_below HRP.out hbel)
  clear hbel
  as_aux_lemma =>
  go_wp2_with fail
  refine (HCr.out w7 HB7.out).mono ?_
  rintro e w8 ⟨ck2, rfl, hck2, hbel⟩
  have HB8 : Hid (Below w.heap.size w w8) := Lib.hid (HB7.out.trans (hbel.mono HB7.out.size))
  obtain rfl := checkOf_one hck2 hck
  clear hck2 hck
  have HY1 := Lib.hid (bytes_below HY1.out hbel)
  have HY4 := Lib.hid (bytes_below HY4.out hbel)
  have HRP := Lib.hid (rowsPart_below HRP.out hbel)
  clear hbel
  as_aux_lemma =>
  go_wp2_with fail
  refine (HGp.out w8 HB8.out).mono ?_
  rintro e w9 ⟨rfl, hbel⟩
  have HB9 : Hid (Below w.heap.size w w9) := Lib.hid (HB8.out.trans (hbel.mono HB8.out.size))
  have HY1 := Lib.hid (bytes_below HY1.out hbel)
  have HY4 := Lib.hid (bytes_below HY4.out hbel)
  have HRP := Lib.hid (rowsPart_below HRP.out hbel)
  clear hbel
  as_aux_lemma =>
  go_wp2_with fail
  refine (HGr.out w9 HB9.out).mono ?_
  rintro e wA ⟨rfl, hbel⟩
  have HBA : Hid (Below w.heap.size w wA) := Lib.hid (HB9.out.trans (hbel.mono HB9.out.size))
  have HY1 := Lib.hid (bytes_below HY1.out hbel)
  have HY4 := Lib.hid (bytes_below HY4.out hbel)
  have HRP := Lib.hid (rowsPart_below HRP.out hbel)
  clear hbel
  go_upto_region 8 with fail
  go_cut [81] from 34 to 316 (fun c wx => c = .bool bK ∧ wA = wx)
  case first =>
    as_aux_lemma =>
    rcases hK with ⟨rfl, hk, -, -⟩ | ⟨rfl, ⟨hk1, hk2⟩, -, -⟩
    · by_cases hk0 : kind < 0
      · have d1 : decide (kind < 0) = true := decide_eq_true hk0
        go_wp2_with fail
        go_meet
        exact ⟨rfl, rfl⟩
      · have hk3 : 255 < kind := by omega
        have d1 : decide (kind < 0) = false := decide_eq_false hk0
        have d2 : decide (255 < kind) = true := decide_eq_true hk3
        go_wp2_with fail
        go_meet
        exact ⟨rfl, rfl⟩
    · have d1 : decide (kind < 0) = false := decide_eq_false (by omega)
      have d2 : decide (255 < kind) = false := decide_eq_false (by omega)
      go_wp2_with fail
      go_meet
      exact ⟨rfl, rfl⟩
  case rest =>
  as_aux_lemma =>
  obtain ⟨hc81, hw81⟩ := hcut
  subst hw81
  subst hc81
  go_upto_if 81 with fail
  go_cut [13, 14] from 34 to 316 (fun _ _ wx => Hid (Below w.heap.size w wx) ∧ Hid (Below wA.heap.size wA wx))
  case first =>
    as_aux_lemma =>
    rcases hK with ⟨rfl, hk, rfl, rfl⟩ | ⟨rfl, ⟨hk1, hk2⟩, rfl, hnew⟩
    · go_wp2_with fail
      go_meet
      exact ⟨HBA, Lib.hid (Below.refl _ _)⟩
    · have HNW := Lib.hid hnew
      clear hnew
      go_wp2_with fail
      refine (HNW.out wA HBA.out).mono ?_
      rintro e wB ⟨aN, cN, rfl, hlN, hbyN, hbel⟩
      have HYN := Lib.hid hbyN
      have HBB : Hid (Below w.heap.size w wB) := Lib.hid (HBA.out.trans (hbel.mono HBA.out.size))
      have HBAB : Hid (Below wA.heap.size wA wB) := Lib.hid hbel
      have HY1 := Lib.hid (bytes_below HY1.out hbel)
      clear hbyN hbel
      go_wp2_with fail
      refine (told_any 0 hl1 HY1.out HYN.out).mono ?_
      rintro e w' ⟨rfl, rfl⟩
      go_wp2_with fail
      go_meet
      exact ⟨HBB, HBAB⟩
  case rest =>
  as_aux_lemma =>
  obtain ⟨HBC, HAC⟩ := hcut
  have HY4 := Lib.hid (bytes_below HY4.out HAC.out)
  have HRP := Lib.hid (rowsPart_below HRP.out HAC.out)
  clear hK
  as_aux_lemma =>
  go_wp2_with fail
  refine (HCo.out wc HBC.out).mono ?_
  rintro e wD ⟨a6, c6, rfl, hl6, hby, hbel⟩
  have HBD : Hid (Below w.heap.size w wD) := Lib.hid (HBC.out.trans (hbel.mono HBC.out.size))
  have HY6 := Lib.hid hby
  clear hby
  have HY4 := Lib.hid (bytes_below HY4.out hbel)
  have HRP := Lib.hid (rowsPart_below HRP.out hbel)
  clear hbel
  as_aux_lemma =>
  go_wp2_with fail
  refine (HSe.out wD HBD.out).mono ?_
  rintro e wE ⟨a7, c7, rfl, hl7, hby, hbel⟩
  have HBE : Hid (Below w.heap.size w wE) := Lib.hid (HBD.out.trans (hbel.mono HBD.out.size))
  have HY7 := Lib.hid hby
  clear hby
  have HY4 := Lib.hid (bytes_below HY4.out hbel)
  have HRP := Lib.hid (rowsPart_below HRP.out hbel)
  have HY6 := Lib.hid (bytes_below HY6.out hbel)
  clear hbel
  as_aux_lemma =>
  go_wp2_with fail
  refine (HSt.out wE HBE.out).mono ?_
  rintro e wF ⟨a8, c8, rfl, hl8, hby, hbel⟩
  have HBF : Hid (Below w.heap.size w wF) := Lib.hid (HBE.out.trans (hbel.mono HBE.out.size))
  have HY8 := Lib.hid hby
  clear hby
  have HY4 := Lib.hid (bytes_below HY4.out hbel)
  have HRP := Lib.hid (rowsPart_below HRP.out hbel)
  have HY6 := Lib.hid (bytes_below HY6.out hbel)
  have HY7 := Lib.hid (bytes_below HY7.out hbel)
  clear hbel
  as_aux_lemma =>
  go_wp2_with fail
  refine (HHd.out wF HBF.out).mono ?_
  rintro e wG ⟨rfl, hbel⟩
  have HBG : Hid (Below w.heap.size w wG) := Lib.hid (HBF.out.trans (hbel.mono HBF.out.size))
  have HY4 := Lib.hid (bytes_below HY4.out hbel)
  have HRP := Lib.hid (rowsPart_below HRP.out hbel)
  have HY6 := Lib.hid (bytes_below HY6.out hbel)
  have HY7 := Lib.hid (bytes_below HY7.out hbel)
  have HY8 := Lib.hid (bytes_below HY8.out hbel)
  clear hbel
  as_aux_lemma =>
  go_wp2_with fail
  refine (HGr.out wG HBG.out).mono ?_
  rintro e wH ⟨rfl, hbel⟩
  have HBH : Hid (Below w.heap.size w wH) := Lib.hid (HBG.out.trans (hbel.mono HBG.out.size))
  have HY4 := Lib.hid (bytes_below HY4.out hbel)
  have HRP := Lib.hid (rowsPart_below HRP.out hbel)
  have HY6 := Lib.hid (bytes_below HY6.out hbel)
  have HY7 := Lib.hid (bytes_below HY7.out hbel)
  have HY8 := Lib.hid (bytes_below HY8.out hbel)
  clear hbel
  go_wp2_with fail
  refine (HCtr.out wH HBH.out).mono ?_
  rintro e w' ⟨rfl, rfl⟩
  go_wp2_with fail
  refine (HFrr.out wH HBH.out).mono ?_
  rintro e w' ⟨rfl, rfl⟩
  as_aux_lemma =>
  go_wp2_with fail
  refine (HCsr.out wH HBH.out).mono ?_
  rintro e wI ⟨v, vs, rfl, hov, hru, hbel⟩
  have HBI : Hid (Below w.heap.size w wI) := Lib.hid (HBH.out.trans (hbel.mono HBH.out.size))
  have HOV := Lib.hid hov
  have HRU := Lib.hid hru
  obtain ⟨ao, cv, rfl, _⟩ := cellsU_form hov
  clear hov hru
  have HY4 := Lib.hid (bytes_below HY4.out hbel)
  have HRP := Lib.hid (rowsPart_below HRP.out hbel)
  have HY6 := Lib.hid (bytes_below HY6.out hbel)
  have HY7 := Lib.hid (bytes_below HY7.out hbel)
  have HY8 := Lib.hid (bytes_below HY8.out hbel)
  clear hbel
  as_aux_lemma =>
  go_wp2_with fail
  refine (lists_mixed HRP.out HXC.out HXM.out HOV.out HRU.out hSh (by omega)).mono ?_
  rintro e wJ ⟨rfl, hbel⟩
  have HBJ : Hid (Below w.heap.size w wJ) := Lib.hid (HBI.out.trans (hbel.mono HBI.out.size))
  have HY4 := Lib.hid (bytes_below HY4.out hbel)
  have HRP := Lib.hid (rowsPart_below HRP.out hbel)
  have HY6 := Lib.hid (bytes_below HY6.out hbel)
  have HY7 := Lib.hid (bytes_below HY7.out hbel)
  have HY8 := Lib.hid (bytes_below HY8.out hbel)
  clear hbel
  go_upto_region 21 with fail
  go_cut [226] from 34 to 316 (fun c wx => c = .bool bI ∧ wJ = wx)
  case first =>
    as_aux_lemma =>
    rcases hI with ⟨rfl, hi, -, -⟩ | ⟨rfl, ⟨hi1, hi2⟩, -, -⟩
    · by_cases hi0 : i < 0
      · have d1 : decide (i < 0) = true := decide_eq_true hi0
        go_wp2_with fail
        go_meet
        exact ⟨rfl, rfl⟩
      · have d1 : decide (i < 0) = false := decide_eq_false hi0
        have d2 : decide ((n : Int) ≤ i) = true := decide_eq_true (by omega)
        go_wp2_with fail
        go_meet
        exact ⟨rfl, rfl⟩
    · have d1 : decide (i < 0) = false := decide_eq_false (by omega)
      have d2 : decide ((n : Int) ≤ i) = false := decide_eq_false (by omega)
      go_wp2_with fail
      go_meet
      exact ⟨rfl, rfl⟩
  case rest =>
  as_aux_lemma =>
  obtain ⟨hc81, hw81⟩ := hcut
  subst hw81
  subst hc81
  go_upto_if 226 with fail
  go_cut [19, 20] from 34 to 316 (fun _ _ wx => Hid (Below w.heap.size w wx) ∧ Hid (Below wJ.heap.size wJ wx))
  case first =>
    as_aux_lemma =>
    rcases hI with ⟨rfl, hi, rfl, rfl⟩ | ⟨rfl, ⟨hi1, hi2⟩, rfl, hil, hRC⟩
    · go_wp2_with fail
      go_meet
      exact ⟨HBJ, Lib.hid (Below.refl _ _)⟩
    · obtain ⟨j, rfl⟩ : ∃ j : Nat, i = (j : Int) := ⟨i.toNat, by omega⟩
      have hjn : j < n := by omega
      have hgt := rowsPart_get HRP.out (k := j) (by rw [HXC.out]; exact hjn)
      have e2 : (xs[j]'(by rw [HXC.out]; exact hjn)).2 = RC := by
        have h1 : (xs.map (·.2))[j]? = some (xs[j]'(by rw [HXC.out]; exact hjn)).2 := by rw [List.getElem?_map, List.getElem?_eq_getElem (by rw [HXC.out]; exact hjn)]; rfl
        rw [HXM.out, List.getElem?_eq_getElem (by omega)] at h1
        rw [hRC]
        exact (Option.some.inj h1).symm
      rw [e2] at hgt
      have hsh := hSh RC (by rw [hRC]; exact List.getElem_mem _)
      have hml : RC.length ≤ maxLen := by have := hsh.2; unfold maxLen; omega
      have hb2 := cells_bytes hgt.2 hsh.1 hml
      obtain ⟨g1, hg1⟩ : ∃ g1, g1 = (xs[j]'(by rw [HXC.out]; exact hjn)).1 := ⟨_, rfl⟩
      rw [← hg1] at hgt hb2
      have hcA := hgt.1
      rw [hl4] at hcA
      have hnw : ∀ k, Below wJ.heap.size wJ (wJ.drewN k) := fun k => below_drewN (Below.refl _ _) k
      have k1 : ∀ k, (convert 22 9 (.slice a4 kC c4)).run Tryd.prog (wJ.drewN k) = .ok (.string (str RC)) (wJ.drewN k) := fun k => conv_any (bytes_below HY4.out (hnw k)) hl4 c4
      have k2 : ∀ k, (convert 22 9 (.slice (some ⟨g1, 0, none⟩) kC kC)).run Tryd.prog (wJ.drewN k) = .ok (.string (str RC)) (wJ.drewN k) := fun k => conv_any (bytes_below hb2 (hnw k)) hl4 kC
      obtain ⟨s, hs⟩ : ∃ s, s = str RC := ⟨_, rfl⟩
      rw [← hs] at k1 k2
      clear hs hgt hb2 hg1 e2 hsh hml hRC hnw
      go_wp2
      go_quiet (fail)
      have HBq : Hid (Below w.heap.size w (wJ.drewN nq)) := Lib.hid (below_drewN HBJ.out nq)
      have HBq' : Hid (Below wJ.heap.size wJ (wJ.drewN nq)) := Lib.hid (below_drewN (Below.refl _ _) nq)
      go_wp2_with fail
      go_meet
      exact ⟨HBq, HBq'⟩
  case rest =>
  as_aux_lemma =>
  obtain ⟨HBK, HJK⟩ := hcut
  have HY6 := Lib.hid (bytes_below HY6.out HJK.out)
  have HY7 := Lib.hid (bytes_below HY7.out HJK.out)
  have HY8 := Lib.hid (bytes_below HY8.out HJK.out)
  rename World => wK
  go_upto_region 26 with fail
  go_cut [259] from 34 to 316 (fun c wx => c = .bool bZ ∧ wK = wx)
  case first =>
    as_aux_lemma =>
    rcases hZ with ⟨rfl, hz, -, -⟩ | ⟨rfl, ⟨z1, z2, z3, z4⟩, -, -⟩
    · by_cases hc0 : link < 0
      · have d0 : decide (link < 0) = true := decide_eq_true hc0
        go_wp2_with fail
        go_meet
        exact ⟨rfl, rfl⟩
      · skip
        by_cases hc1 : 4294967296 ≤ link
        · have d0 : decide (link < 0) = false := decide_eq_false hc0
          have d1 : decide (4294967296 ≤ link) = true := decide_eq_true hc1
          go_wp2_with fail
          go_meet
          exact ⟨rfl, rfl⟩
        · skip
          by_cases hc2 : extra < 0
          · have d0 : decide (link < 0) = false := decide_eq_false hc0
            have d1 : decide (4294967296 ≤ link) = false := decide_eq_false hc1
            have d2 : decide (extra < 0) = true := decide_eq_true hc2
            go_wp2_with fail
            go_meet
            exact ⟨rfl, rfl⟩
          · skip
            have d0 : decide (link < 0) = false := decide_eq_false hc0
            have d1 : decide (4294967296 ≤ link) = false := decide_eq_false hc1
            have d2 : decide (extra < 0) = false := decide_eq_false hc2
            have d3 : decide (4294967296 ≤ extra) = true := decide_eq_true (by omega)
            go_wp2_with fail
            go_meet
            exact ⟨rfl, rfl⟩
    · have d1 : decide (link < 0) = false := decide_eq_false (by omega)
      have d2 : decide (4294967296 ≤ link) = false := decide_eq_false (by omega)
      have d3 : decide (extra < 0) = false := decide_eq_false (by omega)
      have d4 : decide (4294967296 ≤ extra) = false := decide_eq_false (by omega)
      go_wp2_with fail
      go_meet
      exact ⟨rfl, rfl⟩
  case rest =>
  as_aux_lemma =>
  obtain ⟨hc81, hw81⟩ := hcut
  subst hw81
  subst hc81
  go_upto_if 259 with fail
  go_cut [27, 28] from 34 to 316 (fun _ _ wx => Hid (Below w.heap.size w wx) ∧ Hid (Below wK.heap.size wK wx))
  case first =>
    as_aux_lemma =>
    rcases hZ with ⟨rfl, hz, rfl, rfl⟩ | ⟨rfl, ⟨z1, z2, z3, z4⟩, rfl, hset⟩
    · obtain rfl : kZ = 0 := hl8.symm
      go_wp2_with fail
      refine (told_any 1 hl8 HY8.out (bytes_empty _)).mono ?_
      rintro e w' ⟨rfl, rfl⟩
      go_wp2_with fail
      go_meet
      exact ⟨HBK, Lib.hid (Below.refl _ _)⟩
    · skip
      have HSR := Lib.hid hset
      clear hset
      go_wp2_with fail
      refine (HSR.out wK HBK.out).mono ?_
      rintro e wL ⟨aL, cL, rfl, hlL, hbyL, hbel⟩
      have HYL := Lib.hid hbyL
      have HBL : Hid (Below w.heap.size w wL) := Lib.hid (HBK.out.trans (hbel.mono HBK.out.size))
      have HKL : Hid (Below wK.heap.size wK wL) := Lib.hid hbel
      have HY8 := Lib.hid (bytes_below HY8.out hbel)
      clear hbyL hbel
      go_wp2_with fail
      refine (told_any 0 hl8 HY8.out HYL.out).mono ?_
      rintro e w' ⟨rfl, rfl⟩
      go_wp2_with fail
      go_meet
      exact ⟨HBL, HKL⟩
  case rest =>
  as_aux_lemma =>
  obtain ⟨HBM, HKM⟩ := hcut
  have HY6 := Lib.hid (bytes_below HY6.out HKM.out)
  have HY7 := Lib.hid (bytes_below HY7.out HKM.out)
  rename World => wM
  go_wp2_with fail
  refine (HCor.out wM HBM.out).mono ?_
  rintro e wN ⟨aX, cX, rfl, hlX, hbyX, hbel⟩
  have HYX := Lib.hid hbyX
  have HBN : Hid (Below w.heap.size w wN) := Lib.hid (HBM.out.trans (hbel.mono HBM.out.size))
  have HY6 := Lib.hid (bytes_below HY6.out hbel)
  have HY7 := Lib.hid (bytes_below HY7.out hbel)
  clear hbyX hbel
  go_wp2_with fail
  refine (told_any 0 hl6 HY6.out HYX.out).mono ?_
  rintro e w' ⟨rfl, rfl⟩
  go_wp2_with fail
  refine (HSer.out wN HBN.out).mono ?_
  rintro e wO ⟨aY, cY, rfl, hlY, hbyY, hbel⟩
  have HYY := Lib.hid hbyY
  have HBO : Hid (Below w.heap.size w wO) := Lib.hid (HBN.out.trans (hbel.mono HBN.out.size))
  have HY7 := Lib.hid (bytes_below HY7.out hbel)
  clear hbyY hbel
  have hp12 := HP12.out wO HBO.out
  go_wp2_with fail
  refine (told_any 0 hl7 HY7.out HYY.out).mono ?_
  rintro e w' ⟨rfl, rfl⟩
  go_wp2_with fail
  refine (HG4.out wO HBO.out).mono ?_
  rintro e w' ⟨rfl, rfl⟩
  go_wp2_with fail
  refine (HG18.out wO HBO.out).mono ?_
  rintro e w' ⟨rfl, rfl⟩
  go_wp2_with fail
  refine (HG22.out wO HBO.out).mono ?_
  rintro e w' ⟨rfl, rfl⟩
  go_wp2
  go_ret
  exact ⟨rfl, HBO.out⟩
end Go.Proofs.YtmojfhleelhghaaDoor
