/- A cursor over ten bytes: what it takes: contracts. -/
import Derived.Test.YteplapigkofgaaaDoorWirSplit
import Derived.BigQuiet
namespace Go.Proofs.YteplapigkofgaaaDoor
open Go.ChangeShapes Go.WideShapes Go.ChangeAt Go.RowKit

/-- A cursor at p that stands at q of the bytes at a. -/
def Cur (w : World) (p : Nat) (b off cap q : Nat) : Prop := Cells w p 49 #[.slice (some ⟨b, off, none⟩) 10 cap, .int .i64 (q : Int)]
theorem cur_0 {w : World} {p b off cap q : Nat} (h : Cur w p b off cap q) : w.cell? ⟨p, 0, none⟩ = some (.slice (some ⟨b, off, none⟩) 10 cap) := by rw [cell_of_row w p 0 _ _ _ h]; rfl
theorem cur_1 {w : World} {p b off cap q : Nat} (h : Cur w p b off cap q) : w.cell? ⟨p, 1, none⟩ = some (.int .i64 (q : Int)) := by rw [cell_of_row w p 1 _ _ _ h]; rfl
theorem cur_f {w : World} {p b off cap q : Nat} (h : Cur w p b off cap q) : w.frozen? ⟨p, 1, none⟩ = false := frozen_of_row _ _ _ _ _ h
theorem cur_set {w : World} {p b off cap q : Nat} (h : Cur w p b off cap q) (r : Nat) : Cur (w.setCell ⟨p, 1, none⟩ (.int .i64 (r : Int))) p b off cap r := cells_setCell (o := 1) h
set_option maxHeartbeats 1000000 in
set_option maxRecDepth 20000 in
theorem take_any {w : World} {p b off cap q n : Nat} (h : Cur w p b off cap q) (hcap : 10 ≤ cap) (h1 : 1 ≤ n) (hn : q + n ≤ 10) :
    Calls Tryd.prog 36 #[.pointer (some ⟨p, 0, none⟩), .int .i64 (n : Int)] w fun e w' => e = .returned (.slice (some ⟨b, off + q, none⟩) n n) ∧ Cur w' p b off cap (q + n) ∧ Turned (fun k => k = p) w w' := by
  have f0 := cur_0 h
  have f1 := cur_1 h
  have fz := cur_f h
  have H := Lib.hid h
  generalize hQ : (fun (e : Ending) (w' : World) => e = .returned (.slice (some ⟨b, off + q, none⟩) n n) ∧ Cur w' p b off cap (q + n) ∧ Turned (fun k => k = p) w w') = Q
  have HQ := Lib.hid hQ
  clear h hQ
  have hd : decide ((n : Int) ≤ IntKind.i64.wrap (10 - (q : Int))) = true := by rw [IntWalk.i64_in _ (by omega)]; exact decide_eq_true (by omega)
  have HT : Hid (Turned (fun k => k = p) w w.drew) := Lib.hid (Turned.drew (Turned.refl _ _))
  have HC : Hid (Cur w.drew p b off cap q) := Lib.hid (cells_drew H.out)
  have hqn : q + n ≤ cap := by omega
  have hq1 : q ≤ q + n := by omega
  have hq0 : ¬ q = cap := by omega
  go_enter Tryd.func36, Tryd.ntmps36
  go_wp2
  go_region_held (fun V => V.cell? ⟨p, 0, none⟩ = some (.slice (some ⟨b, off, none⟩) 10 cap) ∧ V.cell? ⟨p, 1, none⟩ = some (.int .i64 (q : Int))) (exact ⟨f0, f1⟩) ((go_at_call 23; refine (demand_yes _).mono ?_; rintro e w' ⟨rfl, rfl⟩))
  have g0 := cur_0 HC.out
  have g1 := cur_1 HC.out
  have gz := cur_f HC.out
  generalize w.drew = wd at HT HC g0 g1 gz ⊢
  go_wp2
  have HC2 : Hid (Cur (wd.setCell ⟨p, 1, none⟩ (.int .i64 ((q : Int) + (n : Int)))) p b off cap (q + n)) := Lib.hid (by have := cur_set HC.out (q + n); rwa [Int.natCast_add] at this)
  have HT2 : Hid (Turned (fun k => k = p) w (wd.setCell ⟨p, 1, none⟩ (.int .i64 ((q : Int) + (n : Int))))) := Lib.hid (HT.out.setCell (.inl rfl) _)
  clear g0 g1 gz
  generalize wd.setCell ⟨p, 1, none⟩ (.int .i64 ((q : Int) + (n : Int))) = we at HC2 HT2 ⊢
  have g0 := cur_0 HC2.out
  have g1 := cur_1 HC2.out
  rw [Int.natCast_add] at g1
  go_region
  have hqq : q + n - q = n := by omega
  go_wp2
  rw [← HQ.out]
  exact ⟨by rw [hqq]; rfl, cells_drew HC2.out, HT2.out.drew⟩
/-- Ten noughts stand there. -/
def Ten (w : World) (b off : Nat) : Prop := ∀ j, j < 10 → w.cell? ⟨b, off + j, none⟩ = some (.int .u8 0)
theorem ten_turned {w w' : World} {b off p : Nat} (h : Ten w b off) (ht : Turned (fun k => k = p) w w') (hp : b ≠ p) : Ten w' b off := fun j hj => by
  have hc := h j hj
  rw [World.cell?_of_block (a := ⟨b, off + j, none⟩) (ht.block b (World.block_lt_of_cell? w _ hc) (fun e => hp e))]
  exact hc
theorem ten_bytes {w : World} {b off q n : Nat} (h : Ten w b off) (hn : q + n ≤ 10) : BytesAt w (some ⟨b, off + q, none⟩) (List.replicate n 0) :=
  ⟨fun c hc => by rw [List.eq_of_mem_replicate hc]; decide, by rw [List.length_replicate]; unfold maxLen; omega, fun j hj => by
    rw [List.length_replicate] at hj
    refine ⟨b, off + q, rfl, ?_⟩
    rw [Nat.add_assoc, h (q + j) (by omega), List.getElem_replicate]
    rfl⟩
theorem num_zeros : ∀ n, num (List.replicate n 0) = 0
  | 0 => rfl
  | n + 1 => by rw [List.replicate_succ, num, num_zeros n]
/-- A number of noughts was taken. -/
def Nought (w : World) (p b off cap r : Nat) (e : Ending) (w' : World) : Prop := e = .returned (.int .i64 0) ∧ Cur w' p b off cap r ∧ Turned (fun k => k = p) w w'
set_option maxHeartbeats 1000000 in
set_option maxRecDepth 20000 in
theorem cnumber_any {w : World} {p b off cap q n : Nat} (h : Cur w p b off cap q) (hcap : 10 ≤ cap) (hs : n = 1 ∨ n = 2 ∨ n = 4 ∨ n = 8) (hn : q + n ≤ 10) (hz : Ten w b off) (hp : b ≠ p) :
    Calls Tryd.prog 37 #[.pointer (some ⟨p, 0, none⟩), .int .i64 (n : Int)] w (Nought w p b off cap (q + n)) := by
  have HK := Lib.hid (take_any (n := n) h hcap (by omega) hn)
  have HG : Hid (∀ V, Turned (fun k => k = p) w V → Calls Tryd.prog 21 #[.slice (some ⟨b, off + q, none⟩) n n, .int .i64 0, .int .i64 (n : Int)] V fun e w' => e = .returned (.tuple #[.int .u64 0, .int .i64 0]) ∧ V = w') := Lib.hid (fun V hV => by
    have h := get_yes (some ⟨b, off + q, none⟩) n (List.replicate n 0) 0 (n : Int) V (ten_bytes (ten_turned hz hV hp) hn) (by omega) (by rw [List.length_replicate]; omega)
    rw [List.length_replicate, List.drop_zero, show (n : Int).toNat = n from Int.toNat_natCast n, List.take_of_length_le (by rw [List.length_replicate]; exact Nat.le_refl _), num_zeros] at h
    exact h)
  clear h hz hp hs
  generalize hQ : Nought w p b off cap (q + n) = Q
  have HQ := Lib.hid hQ
  clear hQ
  go_enter Tryd.func37, Tryd.ntmps37
  go_wp2_with (first | (go_at_call 36; (with_reducible refine HK.out.mono ?_); rintro e w2 ⟨rfl, hc2, ht2⟩; have HC2 := Lib.hid hc2; have HT2 := Lib.hid ht2; clear hc2 ht2) | (go_at_call 21; (with_reducible refine (HG.out _ HT2.out).mono ?_); rintro e w3 ⟨rfl, rfl⟩))
  rw [← HQ.out]
  exact ⟨rfl, HC2.out, HT2.out⟩
set_option maxHeartbeats 1000000 in
set_option maxRecDepth 20000 in
theorem octet_any {w : World} {p b off cap q : Nat} (h : Cur w p b off cap q) (hcap : 10 ≤ cap) (hn : q + 1 ≤ 10) (hz : Ten w b off) (hp : b ≠ p) :
    Calls Tryd.prog 24 #[.pointer (some ⟨p, 0, none⟩)] w (Nought w p b off cap (q + 1)) := by
  have HK : Hid (Calls Tryd.prog 36 #[.pointer (some ⟨p, 0, none⟩), .int .i64 1] w fun e w' => e = .returned (.slice (some ⟨b, off + q, none⟩) 1 1) ∧ Cur w' p b off cap (q + 1) ∧ Turned (fun k => k = p) w w') := Lib.hid (take_any (n := 1) h hcap (by omega) hn)
  have HZ : Hid (∀ V, Turned (fun k => k = p) w V → V.cell? ⟨b, off + q, none⟩ = some (.int .u8 0)) := Lib.hid (fun V hV => ten_turned hz hV hp q (by omega))
  clear h hz hp
  generalize hQ : Nought w p b off cap (q + 1) = Q
  have HQ := Lib.hid hQ
  clear hQ
  go_enter Tryd.func24, Tryd.ntmps24
  go_wp2_with (go_at_call 36; (with_reducible refine HK.out.mono ?_); rintro e w2 ⟨rfl, hc2, ht2⟩; have HC2 := Lib.hid hc2; have HT2 := Lib.hid ht2; have hz2 := HZ.out w2 ht2; clear hc2 ht2)
  rw [← HQ.out]
  exact ⟨rfl, HC2.out, HT2.out⟩
set_option maxHeartbeats 1000000 in
set_option maxRecDepth 20000 in
theorem count_any {w : World} {p b off cap q : Nat} (h : Cur w p b off cap q) (hcap : 10 ≤ cap) (hn : q + 4 ≤ 10) (hz : Ten w b off) (hp : b ≠ p) :
    Calls Tryd.prog 25 #[.pointer (some ⟨p, 0, none⟩)] w (Nought w p b off cap (q + 4)) := by
  have HK : Hid (Calls Tryd.prog 37 #[.pointer (some ⟨p, 0, none⟩), .int .i64 4] w (Nought w p b off cap (q + 4))) := Lib.hid (cnumber_any (n := 4) h hcap (by omega) hn hz hp)
  clear h hz hp
  generalize hQ : Nought w p b off cap (q + 4) = Q
  have HQ := Lib.hid hQ
  rw [hQ] at HK
  clear hQ
  go_enter Tryd.func25, Tryd.ntmps25
  go_wp2_with (first | (go_at_call 37; (with_reducible refine HK.out.mono ?_); rintro e w2 h2; rw [← HQ.out] at h2; obtain ⟨rfl, hc2, ht2⟩ := h2; have HC2 := Lib.hid hc2; have HT2 := Lib.hid ht2; clear hc2 ht2) | (go_at_call 23; refine (demand_yes _).mono ?_; rintro e w' ⟨rfl, rfl⟩))
  rw [← HQ.out]
  exact ⟨rfl, HC2.out, HT2.out⟩
end Go.Proofs.YteplapigkofgaaaDoor
