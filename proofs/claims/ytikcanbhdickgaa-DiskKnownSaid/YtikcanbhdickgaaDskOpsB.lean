/- What is done to a device's log: the walks. -/
import Derived.Test.YtikcanbhdickgaaDskOps
namespace Go.Proofs.Ytikcanbhdickgaa
open Go.ChangeShapes Go.WideShapes Go.ChangeAt Go.RowKit

theorem did_log {w w1 w' : World} {S1 : Dsk} {x x1 : Gh} {k : Int} {bo : Option Nat} {v : Value} {l : List Nat} {kept' : Nat} (ht : Turned (Ex x) w w1) (h1 : Dev w1 S1 x1) (hg : x1.g = x.g) (hE : Grows w (Ex x) (Ex x1)) (hI : Grows w x.I x1.I)
    (ht2 : Turned (fun k => k = x1.g ∨ x1.lb = some k) w1 w')
    (hc : Cells w' x1.g 68 #[x1.sv, .map (some x1.mb), x1.wv, tornV x1.T, v, .int .i64 (S1.room : Int), .int .i64 (kept' : Int), x1.hv, x1.kv, .bool S1.fuse.isSome, .int .i64 x1.left, .int .i64 (S1.ops : Int), .bool S1.dead])
    (hs : Slc w' bo 1 v l.length (u8s l)) (hz : ∀ c ∈ l, c < 256) (hbo : bo = x1.lb ∨ ∀ b, bo = some b → w1.heap.size ≤ b) (hl : S1.half.length + l.length ≤ S1.room) (hk : kept' ≤ l.length) :
    Did w x { S1 with log := l, kept := kept' } (.int .i64 k) (.returned (.int .i64 k)) w' := by
  have h2 := dev_log h1 ht2 hc hs hz hbo hl hk
  have hsub : ∀ k, k = x1.g ∨ x1.lb = some k → Ex x1 k := fun k e => by
    rcases e with e | e
    · exact .inl e
    · exact .inr (.inr (.inr (.inr e)))
  refine ⟨_, rfl, h2, hg, ht.trans (ht2.mono hsub) hE, fun k hk => ?_, hI⟩
  rcases hk with e | e | e | e | e
  · exact hE k (.inl e)
  · exact hE k (.inr (.inl e))
  · exact hE k (.inr (.inr (.inl e)))
  · exact hE k (.inr (.inr (.inr (.inl e))))
  · rcases hbo with e' | e'
    · exact hE k (.inr (.inr (.inr (.inr (by rw [← e']; exact e)))))
    · exact .inr (Nat.le_trans ht.size (e' k e))
section
variable {w : World} {S : Dsk} {x : Gh} (h : Dev w S x)
include h
theorem trim_arg (n : Int) (hd : S.dead = false) (hn : n < 0 ∨ (S.log.length : Int) < n) : Calls Try.prog 35 #[.pointer (some ⟨x.g, 0, none⟩), .int .i64 n] w fun e w' => e = .returned (.int .i64 1) ∧ w = w' := by
  have HD := dead_any h
  rw [hd] at HD
  have H := Lib.hid HD
  obtain ⟨f0, f1, f2, f3, f4, f5, f6, f7, f8, f9, f10, f11, f12, fz⟩ := row13 h.cells
  obtain ⟨ao, cap, hv, hle, hmx, -⟩ := slc_form h.log.slc
  rw [hv] at f4
  generalize S.log.length = L at f4 hle hn
  clear HD h hd hv f0 f1 f2 f3 f5 f6 f7 f8 f9 f10 f11 f12 fz
  by_cases h0 : n < 0
  · have d : decide (n < 0) = true := decide_eq_true h0
    go_enter Try.func35, Try.ntmps35
    go_wp2_with (go_at_call 20; refine H.out.mono ?_; rintro e w' ⟨rfl, rfl⟩)
    go_ret
    exact ⟨rfl, rfl⟩
  · have d : decide (n < 0) = false := decide_eq_false h0
    have d2 : decide ((L : Int) < n) = true := decide_eq_true (by omega)
    go_enter Try.func35, Try.ntmps35
    go_wp2_with (go_at_call 20; refine H.out.mono ?_; rintro e w' ⟨rfl, rfl⟩)
    go_ret
    exact ⟨rfl, rfl⟩
theorem trim_dies (n : Nat) (hd : S.dead = false) (hn : n ≤ S.log.length) (hf : S.fuse = some 0) : Calls Try.prog 35 #[.pointer (some ⟨x.g, 0, none⟩), .int .i64 (n : Int)] w (Did w x { S with dead := true } (.int .i64 9)) := by
  have HD := dead_any h
  rw [hd] at HD
  have H := Lib.hid HD
  have HA := Lib.hid (alive_dies h hf)
  generalize hQ : Did w x { S with dead := true } (.int .i64 9) = Q
  have HQ := Lib.hid hQ
  obtain ⟨f0, f1, f2, f3, f4, f5, f6, f7, f8, f9, f10, f11, f12, fz⟩ := row13 h.cells
  obtain ⟨ao, cap, hv, hle, hmx, -⟩ := slc_form h.log.slc
  rw [hv] at f4
  generalize S.log.length = L at f4 hle hn
  clear HD h hd hf hQ hv f0 f1 f2 f3 f5 f6 f7 f8 f9 f10 f11 f12 fz
  have d : decide ((n : Int) < 0) = false := decide_eq_false (by omega)
  have d2 : decide (L < n) = false := decide_eq_false (by omega)
  go_enter Try.func35, Try.ntmps35
  go_wp2_with (first | (go_at_call 20; refine H.out.mono ?_; rintro e w' ⟨rfl, rfl⟩) | (go_at_call 36; refine HA.out.mono ?_; rintro e w1 ⟨rfl, h1, h2⟩; have H1 := Lib.hid h1; have H2 := Lib.hid h2; clear h1 h2))
  rw [← HQ.out]
  exact did_dead H1.out H2.out _
theorem trim_does (n : Nat) (hd : S.dead = false) (hn : n ≤ S.log.length) (hf : S.fuse ≠ some 0) (ho : S.ops < 4611686018427387904) :
    Calls Try.prog 35 #[.pointer (some ⟨x.g, 0, none⟩), .int .i64 (n : Int)] w (Did w x { S with fuse := S.fuse.map (· - 1), ops := S.ops + 1, log := S.log.take n, kept := n } (.int .i64 0)) := by
  have HD := dead_any h
  rw [hd] at HD
  have H := Lib.hid HD
  have HA := Lib.hid (alive_lives h hf ho)
  generalize hQ : Did w x { S with fuse := S.fuse.map (· - 1), ops := S.ops + 1, log := S.log.take n, kept := n } (.int .i64 0) = Q
  have HQ := Lib.hid hQ
  obtain ⟨f0, f1, f2, f3, f4, f5, f6, f7, f8, f9, f10, f11, f12, fz⟩ := row13 h.cells
  obtain ⟨ao, cap, hv, hle, hmx, -⟩ := slc_form h.log.slc
  rw [hv] at f4
  obtain ⟨L, hL⟩ : ∃ L, L = S.log.length := ⟨_, rfl⟩
  rw [← hL] at f4 hle hn
  have HLL := Lib.hid hL
  have HV := Lib.hid hv
  clear HD h hd hf ho hQ hv hL f0 f1 f2 f3 f5 f6 f7 f8 f9 f10 f11 f12 fz
  have d : decide ((n : Int) < 0) = false := decide_eq_false (by omega)
  have d2 : decide (L < n) = false := decide_eq_false (by omega)
  go_enter Try.func35, Try.ntmps35
  go_wp2_with fail
  refine H.out.mono ?_
  rintro e w' ⟨rfl, rfl⟩
  go_wp2_with fail
  refine HA.out.mono ?_
  rintro e w1 ⟨rfl, ⟨left, h1⟩, h2⟩
  have H1 := Lib.hid h1; have H2 := Lib.hid h2
  clear h1 h2 f4
  obtain ⟨f0, f1, f2, f3, f4, f5, f6, f7, f8, f9, f10, f11, f12, fz⟩ := row13 H1.out.cells
  have hsl := H1.out.log.slc
  simp only at hsl f4
  rw [HV.out] at hsl f4
  rw [← HLL.out] at hsl f4
  obtain ⟨hrun, hs2⟩ := slc_upto hsl (j := n) hn
  have HS := Lib.hid hs2
  clear f0 f1 f2 f3 f5 f7 f8 f9 f10 f11 f12 hsl hs2
  go_wp2
  rw [← HQ.out]
  have hc := cells_setCell (o := 6) (v := .int .i64 (n : Int)) (cells_setCell (o := 4) (v := .slice ao n cap) H1.out.cells)
  have hlt : (S.log.take n).length = n := by rw [List.length_take, ← HLL.out, Nat.min_eq_left hn]
  have hnum : S.half.length + S.log.length ≤ S.room := H1.out.num.2.2.2.1
  refine did_log (H2.out.mono (fun _ e => .inl e)) H1.out rfl (fun _ h => .inl h) (fun _ h => .inl h) ((turned_gg (turned_g _) _).mono (fun _ e => .inl e)) hc ?_ (fun c hc => H1.out.log.byte c (List.mem_of_mem_take hc)) (.inl rfl) (by show S.half.length + (S.log.take n).length ≤ S.room; rw [hlt]; have := HLL.out; omega) (by rw [hlt]; exact Nat.le_refl _)
  rw [hlt]
  have e : u8s (S.log.take n) = (u8s S.log).take n := by simp [u8s, List.map_take]
  rw [e]
  exact slc_turned HS.out (turned_gg (turned_g _) _) (fun b e e' => H1.out.apart.2.2.2.2.2.1 (by show x.lb = some x.g; rw [← e']; exact e))
theorem append_full (a : Option Addr) {n : Nat} (cap : Nat) (hd : S.dead = false) (hn : S.room < S.log.length + n) (hm : n ≤ 9223372036854775807) : Calls Try.prog 16 #[.pointer (some ⟨x.g, 0, none⟩), .slice a n cap] w fun e w' => e = .returned (.int .i64 7) ∧ Below w.heap.size w w' := by
  have HD := dead_any h
  rw [hd] at HD
  have H := Lib.hid HD
  obtain ⟨f0, f1, f2, f3, f4, f5, f6, f7, f8, f9, f10, f11, f12, fz⟩ := row13 h.cells
  obtain ⟨ao, cap2, hv, hle, hmx, -⟩ := slc_form h.log.slc
  rw [hv] at f4
  have hr1 := h.num.1
  have hr2 := h.num.2.1
  generalize S.log.length = L at f4 hle hn hr1
  generalize S.room = M at f5 hn hr1 hr2
  clear HD h hd hv f0 f1 f2 f3 f6 f7 f8 f9 f10 f11 f12 fz
  have d : decide ((M : Int) - (L : Int) < (n : Int)) = true := decide_eq_true (by omega)
  go_enter Try.func16, Try.ntmps16
  go_wp2_with (go_at_call 20; refine H.out.mono ?_; rintro e w' ⟨rfl, rfl⟩)
  go_quiet (fail)
  go_wp2
  go_ret
  exact ⟨rfl, below_drewN (Below.refl _ _) _⟩
theorem append_dies {a : Option Addr} {n cap : Nat} {l : List Nat} (hb : BytesAt w a l) (hl : l.length = n) (hx : Apt x a l) (hd : S.dead = false) (hn : S.log.length + n ≤ S.room) (hf : S.fuse = some 0) :
    Calls Try.prog 16 #[.pointer (some ⟨x.g, 0, none⟩), .slice a n cap] w (Did w x { S with dead := true, half := l } (.int .i64 9)) := by
  have HD := dead_any h
  rw [hd] at HD
  have H := Lib.hid HD
  have HA := Lib.hid (fun V (hV : Below w.heap.size w V) => alive_dies (dev_below h hV) hf)
  generalize hQ : Did w x { S with dead := true, half := l } (.int .i64 9) = Q
  have HQ := Lib.hid hQ
  obtain ⟨f0, f1, f2, f3, f4, f5, f6, f7, f8, f9, f10, f11, f12, fz⟩ := row13 h.cells
  obtain ⟨ao, cap2, hv, hle, hmx, -⟩ := slc_form h.log.slc
  rw [hv] at f4
  have hr1 := h.num.1
  have hr2 := h.num.2.1
  have HB := Lib.hid hb; have HL := Lib.hid hl; have HX := Lib.hid hx
  have HN : Hid (l.length + S.log.length ≤ S.room) := Lib.hid (by omega)
  generalize S.log.length = L at f4 hle hn hr1
  generalize S.room = M at f5 hn hr1 hr2
  clear HD h hd hf hQ hv f0 f1 f2 f3 f6 f7 f8 f9 f10 f11 f12 fz hb hl hx
  have d : decide ((M : Int) - (L : Int) < (n : Int)) = false := decide_eq_false (by omega)
  go_enter Try.func16, Try.ntmps16
  go_wp2_with (go_at_call 20; refine H.out.mono ?_; rintro e w' ⟨rfl, rfl⟩)
  go_quiet (fail)
  have HB0 : Hid (Below w.heap.size w (w.drewN nq)) := Lib.hid (below_drewN (Below.refl _ _) _)
  generalize w.drewN nq = w0 at HB0 f4 f5 ⊢
  go_wp2_with fail
  refine (HA.out w0 HB0.out).mono ?_
  rintro e w1 ⟨rfl, h1, h2⟩
  have H1 := Lib.hid h1; have H2 := Lib.hid h2
  clear h1 h2 f4 f5
  go_wp2_with fail
  refine (clone_bytes (bytes_turned' (bytes_below HB.out HB0.out) H2.out (fun h0 ad e e' => HX.out h0 ad e (.inl e'))) HL.out (by omega)).mono ?_
  rintro e w2 ⟨ao2, c2, bo, rfl, hs, hbl, hnw⟩
  obtain ⟨f0, f1, f2, f3, f4, f5, f6, f7, f8, f9, f10, f11, f12, fz⟩ := row13 (dev_below H1.out hbl).cells
  have HS := Lib.hid hs; have HBL := Lib.hid hbl; have HNW := Lib.hid hnw
  clear f0 f1 f2 f3 f4 f5 f6 f8 f9 f10 f11 f12 hs hbl hnw
  go_wp2
  rw [← HQ.out]
  have hT : Turned (Ex x) w w1 := (Turned.of_below HB0.out).trans (H2.out.mono (E' := Ex x) (fun _ e => .inl e)) (fun _ h => .inl h)
  exact did_half hT H1.out rfl (fun _ h => .inl h) (fun _ h => .inl h) HBL.out HS.out HNW.out HB.out.1 HL.out HN.out
end
end Go.Proofs.Ytikcanbhdickgaa
