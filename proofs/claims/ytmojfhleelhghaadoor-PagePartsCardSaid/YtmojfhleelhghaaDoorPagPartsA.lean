/- A page's parts, whatever its bytes: the law's own walk. -/
import Derived.Test.YtmojfhleelhghaaDoorPagRefMore
import Derived.Deep.CutRange
namespace Go.Proofs.YtmojfhleelhghaaDoor
open Go.ChangeShapes Go.WideShapes Go.ChangeAt Go.RowKit

attribute [local irreducible] str
set_option maxHeartbeats 4000000 in
set_option maxRecDepth 100000 in
theorem parts_bad {bK : Bool} {a : Option Addr} {cap k0 kN : Nat} {kind i link extra lsn nN : Int} {zs RN : List Nat} {w : World}
    (HN : Hid (∀ V, Below w.heap.size w V → Calls Tryd.prog 8 #[.int .i64 kind] V (Tells V RN kN nN)))
    (HCt : Hid (∀ V, Below w.heap.size w V → Calls Tryd.prog 16 #[.slice a k0 cap] V fun e w' => e = .returned (.tuple #[.int .i64 0, .int .i64 4]) ∧ Below V.heap.size V w'))
    (HFr : Hid (∀ V, Below w.heap.size w V → Calls Tryd.prog 11 #[.slice a k0 cap] V fun e w' => e = .returned (.tuple #[.int .i64 0, .int .i64 4]) ∧ Below V.heap.size V w'))
    (HCl : Hid (∀ V, Below w.heap.size w V → Calls Tryd.prog 17 #[.slice a k0 cap, .int .i64 i] V (Tells V [] 0 4)))
    (HCs : Hid (∀ V, Below w.heap.size w V → Calls Tryd.prog 18 #[.slice a k0 cap] V (Tells V [] 0 4)))
    (HCk : Hid (∀ V, Below w.heap.size w V → Calls Tryd.prog 15 #[.slice a k0 cap] V fun e w' => ∃ c, e = .returned (.int .i64 c) ∧ checkOf zs c ∧ Below V.heap.size V w'))
    (HCr : Hid (∀ V, Below w.heap.size w V → Calls Tryd.prog 19 #[.slice a k0 cap] V fun e w' => ∃ c, e = .returned (.int .i64 c) ∧ checkOf zs c ∧ Below V.heap.size V w'))
    (HGp : Hid (∀ V, Below w.heap.size w V → Calls Tryd.prog 20 #[.slice a k0 cap] V fun e w' => e = .returned (.bool false) ∧ Below V.heap.size V w'))
    (HGr : Hid (∀ V, Below w.heap.size w V → Calls Tryd.prog 21 #[.slice a k0 cap] V fun e w' => e = .returned (.bool false) ∧ Below V.heap.size V w'))
    (hK : (bK = true ∧ (kind < 0 ∨ 255 < kind) ∧ kN = 0 ∧ nN = 1) ∨ (bK = false ∧ (0 ≤ kind ∧ kind ≤ 255) ∧ nN = 0 ∧ ∀ V, Below w.heap.size w V → Calls Tryd.prog 23 #[.int .i64 kind] V (Is V RN kN)))
    (HCo : Hid (∀ V, Below w.heap.size w V → Calls Tryd.prog 24 #[.slice a k0 cap] V (Tells V [] 0 4)))
    (HSe : Hid (∀ V, Below w.heap.size w V → Calls Tryd.prog 12 #[.slice a k0 cap, .int .u64 lsn] V (Tells V [] 0 4)))
    (HSt : Hid (∀ V, Below w.heap.size w V → Calls Tryd.prog 25 #[.slice a k0 cap, .int .i64 link, .int .i64 extra] V (Tells V [] 0 4)))
    (HHd : Hid (∀ V, Below w.heap.size w V → Calls Tryd.prog 26 #[.slice a k0 cap] V fun e w' => e = .returned (.tuple #[.int .i64 0, .int .u64 0, .int .i64 0, .int .i64 0, .int .i64 4]) ∧ Below V.heap.size V w')) :
    Calls Tryd.prog 4 #[.slice a k0 cap, .int .i64 kind, .int .i64 i, .int .i64 link, .int .i64 extra, .int .u64 lsn] w fun e w' => e = .returned (.bool true) ∧ Below w.heap.size w w' := by
  have HB0 : Hid (Below w.heap.size w w) := Lib.hid (Below.refl _ _)
  go_enter Tryd.func4, Tryd.ntmps4
  as_aux_lemma =>
  go_wp2_with fail
  refine (HN.out w HB0.out).mono ?_
  rintro e w1 ⟨a1, c1, rfl, hl1, hby, hbel⟩
  have HB1 : Hid (Below w.heap.size w w1) := Lib.hid (HB0.out.trans (hbel.mono HB0.out.size))
  have HY1 := Lib.hid hby
  clear hby
  clear hbel
  as_aux_lemma =>
  go_wp2_with fail
  refine (HCt.out w1 HB1.out).mono ?_
  rintro e w2 ⟨rfl, hbel⟩
  have HB2 : Hid (Below w.heap.size w w2) := Lib.hid (HB1.out.trans (hbel.mono HB1.out.size))
  have HY1 := Lib.hid (bytes_below HY1.out hbel)
  clear hbel
  as_aux_lemma =>
  go_wp2_with fail
  refine (HFr.out w2 HB2.out).mono ?_
  rintro e w3 ⟨rfl, hbel⟩
  have HB3 : Hid (Below w.heap.size w w3) := Lib.hid (HB2.out.trans (hbel.mono HB2.out.size))
  have HY1 := Lib.hid (bytes_below HY1.out hbel)
  clear hbel
  as_aux_lemma =>
  go_wp2_with fail
  refine (HCl.out w3 HB3.out).mono ?_
  rintro e w4 ⟨a4, c4, rfl, hl4, hby, hbel⟩
  have HB4 : Hid (Below w.heap.size w w4) := Lib.hid (HB3.out.trans (hbel.mono HB3.out.size))
  have HY4 := Lib.hid hby
  clear hby
  have HY1 := Lib.hid (bytes_below HY1.out hbel)
  clear hbel
  as_aux_lemma =>
  go_wp2_with fail
  refine (HCs.out w4 HB4.out).mono ?_
  rintro e w5 ⟨a5, c5, rfl, hl5, hby, hbel⟩
  have HB5 : Hid (Below w.heap.size w w5) := Lib.hid (HB4.out.trans (hbel.mono HB4.out.size))
  have HY5 := Lib.hid hby
  clear hby
  have HY1 := Lib.hid (bytes_below HY1.out hbel)
  have HY4 := Lib.hid (bytes_below HY4.out hbel)
  clear hbel
  as_aux_lemma =>
  go_wp2_with fail
  refine (awake_any w5).mono ?_
  rintro e w6 ⟨rfl, hbel⟩
  have HB6 : Hid (Below w.heap.size w w6) := Lib.hid (HB5.out.trans (hbel.mono HB5.out.size))
  have HY1 := Lib.hid (bytes_below HY1.out hbel)
  have HY4 := Lib.hid (bytes_below HY4.out hbel)
  have HY5 := Lib.hid (bytes_below HY5.out hbel)
  clear hbel
  as_aux_lemma =>
  go_wp2_with fail
  refine (HCk.out w6 HB6.out).mono ?_
  rintro e w7 ⟨ck, rfl, hck, hbel⟩
  have HB7 : Hid (Below w.heap.size w w7) := Lib.hid (HB6.out.trans (hbel.mono HB6.out.size))
  have HY1 := Lib.hid (bytes_below HY1.out hbel)
  have HY4 := Lib.hid (bytes_below HY4.out hbel)
  have HY5 := Lib.hid (bytes_below HY5.out hbel)
  clear hbel
  as_aux_lemma =>
  go_wp2_with fail
  refine (HCr.out w7 HB7.out).mono ?_
  rintro e w8 ⟨ck2, rfl, hck2, hbel⟩
  have HB8 : Hid (Below w.heap.size w w8) := Lib.hid (HB7.out.trans (hbel.mono HB7.out.size))
  obtain rfl := checkOf_one hck2 hck
  clear hck2 hck
  have HY1 := Lib.hid (bytes_below HY1.out hbel)
  have HY4 := Lib.hid (bytes_below HY4.out hbel)
  have HY5 := Lib.hid (bytes_below HY5.out hbel)
  clear hbel
  as_aux_lemma =>
  go_wp2_with fail
  refine (HGp.out w8 HB8.out).mono ?_
  rintro e w9 ⟨rfl, hbel⟩
  have HB9 : Hid (Below w.heap.size w w9) := Lib.hid (HB8.out.trans (hbel.mono HB8.out.size))
  have HY1 := Lib.hid (bytes_below HY1.out hbel)
  have HY4 := Lib.hid (bytes_below HY4.out hbel)
  have HY5 := Lib.hid (bytes_below HY5.out hbel)
  clear hbel
  as_aux_lemma =>
  go_wp2_with fail
  refine (HGr.out w9 HB9.out).mono ?_
  rintro e wA ⟨rfl, hbel⟩
  have HBA : Hid (Below w.heap.size w wA) := Lib.hid (HB9.out.trans (hbel.mono HB9.out.size))
  have HY1 := Lib.hid (bytes_below HY1.out hbel)
  have HY4 := Lib.hid (bytes_below HY4.out hbel)
  have HY5 := Lib.hid (bytes_below HY5.out hbel)
  clear hbel
  go_upto_region 8 with fail
  go_cut [81] from 34 to 316 (fun c wx => c = .bool bK ∧ wA = wx)
  case first =>
    as_aux_lemma =>
    rcases hK with ⟨rfl, hk, -, -⟩ | ⟨rfl, ⟨hk1, hk2⟩, -, -⟩
    · by_cases hk0 : kind < 0
      · have d1 : decide (kind < 0) = true := decide_eq_true hk0
        go_wp2_with fail
        go_meet
        exact ⟨rfl, rfl⟩
      · have hk3 : 255 < kind := by omega
        have d1 : decide (kind < 0) = false := decide_eq_false hk0
        have d2 : decide (255 < kind) = true := decide_eq_true hk3
        go_wp2_with fail
        go_meet
        exact ⟨rfl, rfl⟩
    · have d1 : decide (kind < 0) = false := decide_eq_false (by omega)
      have d2 : decide (255 < kind) = false := decide_eq_false (by omega)
      go_wp2_with fail
      go_meet
      exact ⟨rfl, rfl⟩
  case rest =>
  as_aux_lemma =>
  obtain ⟨hc81, hw81⟩ := hcut
  subst hw81
  subst hc81
  go_upto_if 81 with fail
  go_cut [13, 14] from 34 to 316 (fun _ _ wx => Hid (Below w.heap.size w wx) ∧ Hid (Below wA.heap.size wA wx))
  case first =>
    as_aux_lemma =>
    rcases hK with ⟨rfl, hk, rfl, rfl⟩ | ⟨rfl, ⟨hk1, hk2⟩, rfl, hnew⟩
    · go_wp2_with fail
      go_meet
      exact ⟨HBA, Lib.hid (Below.refl _ _)⟩
    · have HNW := Lib.hid hnew
      clear hnew
      go_wp2_with fail
      refine (HNW.out wA HBA.out).mono ?_
      rintro e wB ⟨aN, cN, rfl, hlN, hbyN, hbel⟩
      have HYN := Lib.hid hbyN
      have HBB : Hid (Below w.heap.size w wB) := Lib.hid (HBA.out.trans (hbel.mono HBA.out.size))
      have HBAB : Hid (Below wA.heap.size wA wB) := Lib.hid hbel
      have HY1 := Lib.hid (bytes_below HY1.out hbel)
      clear hbyN hbel
      go_wp2_with fail
      refine (told_any 0 hl1 HY1.out HYN.out).mono ?_
      rintro e w' ⟨rfl, rfl⟩
      go_wp2_with fail
      go_meet
      exact ⟨HBB, HBAB⟩
  case rest =>
  as_aux_lemma =>
  obtain ⟨HBC, HAC⟩ := hcut
  have HY4 := Lib.hid (bytes_below HY4.out HAC.out)
  have HY5 := Lib.hid (bytes_below HY5.out HAC.out)
  clear hK
  as_aux_lemma =>
  go_wp2_with fail
  refine (HCo.out wc HBC.out).mono ?_
  rintro e wD ⟨a6, c6, rfl, hl6, hby, hbel⟩
  have HBD : Hid (Below w.heap.size w wD) := Lib.hid (HBC.out.trans (hbel.mono HBC.out.size))
  have HY6 := Lib.hid hby
  clear hby
  have HY4 := Lib.hid (bytes_below HY4.out hbel)
  have HY5 := Lib.hid (bytes_below HY5.out hbel)
  clear hbel
  as_aux_lemma =>
  go_wp2_with fail
  refine (HSe.out wD HBD.out).mono ?_
  rintro e wE ⟨a7, c7, rfl, hl7, hby, hbel⟩
  have HBE : Hid (Below w.heap.size w wE) := Lib.hid (HBD.out.trans (hbel.mono HBD.out.size))
  have HY7 := Lib.hid hby
  clear hby
  have HY4 := Lib.hid (bytes_below HY4.out hbel)
  have HY5 := Lib.hid (bytes_below HY5.out hbel)
  have HY6 := Lib.hid (bytes_below HY6.out hbel)
  clear hbel
  as_aux_lemma =>
  go_wp2_with fail
  refine (HSt.out wE HBE.out).mono ?_
  rintro e wF ⟨a8, c8, rfl, hl8, hby, hbel⟩
  have HBF : Hid (Below w.heap.size w wF) := Lib.hid (HBE.out.trans (hbel.mono HBE.out.size))
  have HY8 := Lib.hid hby
  clear hby
  have HY4 := Lib.hid (bytes_below HY4.out hbel)
  have HY5 := Lib.hid (bytes_below HY5.out hbel)
  have HY6 := Lib.hid (bytes_below HY6.out hbel)
  have HY7 := Lib.hid (bytes_below HY7.out hbel)
  clear hbel
  as_aux_lemma =>
  go_wp2_with fail
  refine (HHd.out wF HBF.out).mono ?_
  rintro e wG ⟨rfl, hbel⟩
  have HBG : Hid (Below w.heap.size w wG) := Lib.hid (HBF.out.trans (hbel.mono HBF.out.size))
  have HY4 := Lib.hid (bytes_below HY4.out hbel)
  have HY5 := Lib.hid (bytes_below HY5.out hbel)
  have HY6 := Lib.hid (bytes_below HY6.out hbel)
  have HY7 := Lib.hid (bytes_below HY7.out hbel)
  have HY8 := Lib.hid (bytes_below HY8.out hbel)
  clear hbel
  as_aux_lemma =>
  go_wp2_with fail
  refine (HGr.out wG HBG.out).mono ?_
  rintro e wH ⟨rfl, hbel⟩
  have HBH : Hid (Below w.heap.size w wH) := Lib.hid (HBG.out.trans (hbel.mono HBG.out.size))
  have HY4 := Lib.hid (bytes_below HY4.out hbel)
  have HY5 := Lib.hid (bytes_below HY5.out hbel)
  have HY6 := Lib.hid (bytes_below HY6.out hbel)
  have HY7 := Lib.hid (bytes_below HY7.out hbel)
  have HY8 := Lib.hid (bytes_below HY8.out hbel)
  clear hbel
  go_wp2_with fail
  refine (told_any 4 hl6 HY6.out (bytes_empty _)).mono ?_
  rintro e w' ⟨rfl, rfl⟩
  go_wp2_with fail
  refine (told_any 4 hl7 HY7.out (bytes_empty _)).mono ?_
  rintro e w' ⟨rfl, rfl⟩
  go_wp2_with fail
  refine (told_any 4 hl8 HY8.out (bytes_empty _)).mono ?_
  rintro e w' ⟨rfl, rfl⟩
  go_wp2
  go_ret
  exact ⟨rfl, HBH.out⟩
end Go.Proofs.YtmojfhleelhghaaDoor
