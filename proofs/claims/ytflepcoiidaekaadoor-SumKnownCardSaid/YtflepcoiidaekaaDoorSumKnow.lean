/- SumKnown: the walk. -/
import Derived.Test.YtflepcoiidaekaaDoorSumKnowA
namespace Go.Proofs.YtflepcoiidaekaaDoor
open Go.ChangeShapes Go.WideShapes Go.ChangeAt Go.RowKit

set_option maxHeartbeats 2000000 in
theorem known_walk (w : World) (hT : TabAt w) : Calls Tryd.prog 3 #[] w (True' w) := by
  have kc := fun (w : World) (C : Array Value) (n c : Nat) => Lib.run_convert_bytes_const (P := Tryd.prog) w 27 5 C n c Tryd.underlying27 Tryd.underlying5
  go_enter Tryd.func3, Tryd.ntmps3
  go_wp2_with fail
  refine (of_l1 _ hT).mono ?_
  rintro e w1 ⟨rfl, hb1⟩
  have hT1 : TabAt w1 := tab_below hT hb1
  have HB1 := Lib.hid hb1; clear hb1
  go_wp2_with fail
  refine (of_l2 _ hT1).mono ?_
  rintro e w2 ⟨rfl, hb2⟩
  have hT2 : TabAt w2 := tab_below hT1 hb2
  have HB2 := Lib.hid hb2; clear hb2
  go_wp2_with fail
  refine (join_l _).mono ?_
  rintro e w3 ⟨rfl, hb3⟩
  have hT3 : TabAt w3 := tab_below hT2 hb3
  have HB3 := Lib.hid hb3; clear hb3
  go_wp2_with fail
  refine (put_l _).mono ?_
  rintro e w4 ⟨g, rfl, hby, hb4⟩
  have HBY := Lib.hid hby; clear hby
  have hT4 : TabAt w4 := tab_below hT3 hb4
  have HB4 := Lib.hid hb4; clear hb4
  go_wp2_with fail
  refine (put_l2 _).mono ?_
  rintro e w5 ⟨rfl, hb5⟩
  have hT5 : TabAt w5 := tab_below hT4 hb5
  have HB5 := Lib.hid hb5; clear hb5
  go_wp2_with fail
  refine (put_l3 _).mono ?_
  rintro e w6 ⟨rfl, hb6⟩
  have hT6 : TabAt w6 := tab_below hT5 hb6
  have HB6 := Lib.hid hb6; clear hb6
  go_wp2_with fail
  refine (awake_any _ hT6).mono ?_
  rintro e w7 ⟨rfl, hb7⟩
  have hT7 : TabAt w7 := tab_below hT6 hb7
  have HB7 := Lib.hid hb7; clear hb7
  go_wp2_with fail
  refine (of_nil _ hT7).mono ?_
  rintro e w8 ⟨rfl, hb8⟩
  have hT8 : TabAt w8 := tab_below hT7 hb8
  have HB8 := Lib.hid hb8; clear hb8
  go_wp2_with fail
  refine (of_l3 _ hT8).mono ?_
  rintro e w9 ⟨rfl, hb9⟩
  have hT9 : TabAt w9 := tab_below hT8 hb9
  have HB9 := Lib.hid hb9; clear hb9
  go_wp2_with fail
  refine (of_l1 _ hT9).mono ?_
  rintro e w10 ⟨rfl, hb10⟩
  have hT10 : TabAt w10 := tab_below hT9 hb10
  have HB10 := Lib.hid hb10; clear hb10
  go_wp2_with fail
  refine (more_l2 _ hT10).mono ?_
  rintro e w11 ⟨rfl, hb11⟩
  have hT11 : TabAt w11 := tab_below hT10 hb11
  have HB11 := Lib.hid hb11; clear hb11
  have HB : Hid (Below w.heap.size w w11) := by
    have b1 := HB1.out
    have b2 := b1.trans (HB2.out.mono b1.size)
    have b3 := b2.trans (HB3.out.mono b2.size)
    have b4 := b3.trans (HB4.out.mono b3.size)
    have b5 := b4.trans (HB5.out.mono b4.size)
    have b6 := b5.trans (HB6.out.mono b5.size)
    have b7 := b6.trans (HB7.out.mono b6.size)
    have b8 := b7.trans (HB8.out.mono b7.size)
    have b9 := b8.trans (HB9.out.mono b8.size)
    have b10 := b9.trans (HB10.out.mono b9.size)
    have b11 := b10.trans (HB11.out.mono b10.size)
    exact Lib.hid b11
  have HB4' : Hid (BytesAt w11 (some ⟨g, 0, none⟩) [0, 2, 1]) := by
    have b5 := HB5.out
    have b6 := b5.trans (HB6.out.mono b5.size)
    have b7 := b6.trans (HB7.out.mono b6.size)
    have b8 := b7.trans (HB8.out.mono b7.size)
    have b9 := b8.trans (HB9.out.mono b8.size)
    have b10 := b9.trans (HB10.out.mono b9.size)
    have b11 := b10.trans (HB11.out.mono b10.size)
    exact Lib.hid (bytes_below HBY.out b11)
  have k1 : (convert 27 9 (.slice (some ⟨g, 0, none⟩) 3 3)).run Tryd.prog w11 = .ok (.string ⟨#[0, 2, 1]⟩) w11 := conv_bytes HB4'.out (by intro h; cases h) 3
  go_wp2
  go_ret
  exact ⟨rfl, HB.out⟩
end Go.Proofs.YtflepcoiidaekaaDoor
