/- What is done to a device's log and mark: the walks. -/
import Derived.Test.YtikcanbhdickgaaDskLog
import Derived.Outline
namespace Go.Proofs.Ytikcanbhdickgaa
open Go.ChangeShapes Go.WideShapes Go.ChangeAt Go.RowKit

theorem did_dead {w w' : World} {S : Dsk} {x : Gh} (h : Dev w' { S with dead := true } x) (ht : Turned (fun k => k = x.g) w w') (r : Value) : Did w x { S with dead := true } r (.returned r) w' :=
  did_same h rfl (ht.mono (fun _ e => .inl e)) (fun _ h => h) (fun _ h => h)
theorem bytes_turned {w w' : World} {E : Nat → Prop} {a : Option Addr} {l : List Nat} (h : BytesAt w a l) (ht : Turned E w w') (hE : ∀ ad, a = some ad → ¬ E ad.block) : BytesAt w' a l :=
  ⟨h.1, h.2.1, fun j hj => by
    obtain ⟨b, off, e, hc⟩ := h.2.2 j hj
    refine ⟨b, off, e, ?_⟩
    rw [World.cell?_of_block (a := ⟨b, off + j, none⟩) (ht.block b (World.block_lt_of_cell? w _ hc) (hE _ e))]
    exact hc⟩
theorem bytes_turned' {w w' : World} {E : Nat → Prop} {a : Option Addr} {l : List Nat} (h : BytesAt w a l) (ht : Turned E w w') (hE : l ≠ [] → ∀ ad, a = some ad → ¬ E ad.block) : BytesAt w' a l := by
  by_cases h0 : l = []
  · subst h0
    exact ⟨h.1, h.2.1, fun j hj => absurd hj (Nat.not_lt_zero _)⟩
  · exact bytes_turned h ht (hE h0)
/-- What may be handed to a device: it stands in none of its own blocks, or is empty. -/
def Apt (x : Gh) (a : Option Addr) (l : List Nat) : Prop := l ≠ [] → ∀ ad, a = some ad → ¬ Ex x ad.block
theorem new_not {w : World} {S : Dsk} {x : Gh} (h : Dev w S x) {bo : Option Nat} (hn : ∀ b, bo = some b → w.heap.size ≤ b) : ∀ b, bo = some b → ¬ Ex x b := fun b e he => by
  have h1 := dev_size h b he
  have h2 := hn b e
  omega
theorem did_mark {w w1 w2 : World} {S1 : Dsk} {x : Gh} {k : Int} {bo : Option Nat} {ao : Option Addr} {n cap : Nat} {l : List Nat} (ht : Turned (Ex x) w w1) {x1 : Gh} (h1 : Dev w1 S1 x1) (hg : x1.g = x.g) (hE : Grows w (Ex x) (Ex x1)) (hI : Grows w x.I x1.I) (hb : Below w1.heap.size w1 w2)
    (hs : Slc w2 bo 1 (.slice ao n cap) n (u8s l)) (hnew : ∀ b, bo = some b → w1.heap.size ≤ b) (hz : ∀ c ∈ l, c < 256) (hlen : l.length = n) (hl : l.length ≤ 64) :
    Did w x { S1 with mark := l } (.int .i64 k) (.returned (.int .i64 k)) (w2.setCell ⟨x.g, 8, none⟩ (.slice ao n cap)) := by
  subst hlen
  have h2 := dev_below h1 hb
  rw [← hg]
  have hsl : Slc (w2.setCell ⟨x1.g, 8, none⟩ (.slice ao l.length cap)) bo 1 (.slice ao l.length cap) l.length (u8s l) := slc_turned hs (turned_g _) (fun b e e' => new_not h1 hnew b e (.inl e'))
  have h3 := dev_mark h2 (turned_g _) (cells_setCell (o := 8) (v := .slice ao l.length cap) h2.cells) hsl hz (new_not h1 hnew) hl
  refine ⟨_, rfl, h3, hg, ?_, hE, fun k hk => ?_⟩
  · exact (ht.below hb).setCell (by rw [hg]; exact .inl (.inl rfl)) _
  · rcases hk with hk | hk
    · exact hI k hk
    · exact .inr (Nat.le_trans ht.size (hnew k hk))
theorem did_half {w w1 w2 : World} {S1 : Dsk} {x : Gh} {k : Int} {bo : Option Nat} {ao : Option Addr} {n cap : Nat} {l : List Nat} (ht : Turned (Ex x) w w1) {x1 : Gh} (h1 : Dev w1 S1 x1) (hg : x1.g = x.g) (hE : Grows w (Ex x) (Ex x1)) (hI : Grows w x.I x1.I) (hb : Below w1.heap.size w1 w2)
    (hs : Slc w2 bo 1 (.slice ao n cap) n (u8s l)) (hnew : ∀ b, bo = some b → w1.heap.size ≤ b) (hz : ∀ c ∈ l, c < 256) (hlen : l.length = n) (hl : l.length + S1.log.length ≤ S1.room) :
    Did w x { S1 with half := l } (.int .i64 k) (.returned (.int .i64 k)) (w2.setCell ⟨x.g, 7, none⟩ (.slice ao n cap)) := by
  subst hlen
  have h2 := dev_below h1 hb
  rw [← hg]
  have hsl : Slc (w2.setCell ⟨x1.g, 7, none⟩ (.slice ao l.length cap)) bo 1 (.slice ao l.length cap) l.length (u8s l) := slc_turned hs (turned_g _) (fun b e e' => new_not h1 hnew b e (.inl e'))
  have h3 := dev_half h2 (turned_g _) (cells_setCell (o := 7) (v := .slice ao l.length cap) h2.cells) hsl hz (new_not h1 hnew) hl
  refine ⟨_, rfl, h3, hg, ?_, hE, fun k hk => ?_⟩
  · exact (ht.below hb).setCell (by rw [hg]; exact .inl (.inl rfl)) _
  · rcases hk with hk | hk
    · exact hI k hk
    · exact .inr (Nat.le_trans ht.size (hnew k hk))
section
variable {w : World} {S : Dsk} {x : Gh} (h : Dev w S x)
include h
theorem force_dead (hd : S.dead = true) : Calls Try.prog 17 #[.pointer (some ⟨x.g, 0, none⟩)] w fun e w' => e = .returned (.int .i64 9) ∧ w = w' := by
  have HD := dead_any h
  rw [hd] at HD
  have H := Lib.hid HD
  clear HD h hd
  go_enter Try.func17, Try.ntmps17
  go_wp2_with (go_at_call 20; refine H.out.mono ?_; rintro e w' ⟨rfl, rfl⟩)
  go_ret
  exact ⟨rfl, rfl⟩
theorem force_dies (hd : S.dead = false) (hf : S.fuse = some 0) : Calls Try.prog 17 #[.pointer (some ⟨x.g, 0, none⟩)] w (Did w x { S with dead := true } (.int .i64 9)) := by
  have HD := dead_any h
  rw [hd] at HD
  have H := Lib.hid HD
  have HA := Lib.hid (alive_dies h hf)
  clear HD h hd hf
  go_enter Try.func17, Try.ntmps17
  go_wp2_with (first | (go_at_call 20; refine H.out.mono ?_; rintro e w' ⟨rfl, rfl⟩) | (go_at_call 36; refine HA.out.mono ?_; rintro e w1 ⟨rfl, h1, h2⟩; have H1 := Lib.hid h1; have H2 := Lib.hid h2; clear h1 h2))
  go_ret
  exact did_dead H1.out H2.out _
theorem force_does (hd : S.dead = false) (hf : S.fuse ≠ some 0) (ho : S.ops < 4611686018427387904) : Calls Try.prog 17 #[.pointer (some ⟨x.g, 0, none⟩)] w (Did w x { S with fuse := S.fuse.map (· - 1), ops := S.ops + 1, kept := S.log.length } (.int .i64 0)) := by
  have HD := dead_any h
  rw [hd] at HD
  have H := Lib.hid HD
  have HA := Lib.hid (alive_lives h hf ho)
  clear HD h hd hf ho
  generalize hQ : Did w x { S with fuse := S.fuse.map (· - 1), ops := S.ops + 1, kept := S.log.length } (.int .i64 0) = Q
  have HQ := Lib.hid hQ
  clear hQ
  go_enter Try.func17, Try.ntmps17
  go_wp2_with fail
  refine H.out.mono ?_
  rintro e w' ⟨rfl, rfl⟩
  go_wp2_with fail
  refine HA.out.mono ?_
  rintro e w1 ⟨rfl, ⟨l, h1⟩, h2⟩
  have H1 := Lib.hid h1; have H2 := Lib.hid h2
  obtain ⟨f0, f1, f2, f3, f4, f5, f6, f7, f8, f9, f10, f11, f12, fz⟩ := row13 h1.cells
  obtain ⟨ao, cap, hv, _⟩ := slc_form h1.log.slc
  simp only at hv f4
  rw [hv] at f4
  obtain ⟨n, hn⟩ : ∃ n, n = S.log.length := ⟨_, rfl⟩
  rw [← hn] at f4
  have HN := Lib.hid hn
  clear h1 h2 f0 f1 f2 f3 f5 f7 f8 f9 f10 f11 f12 hv hn
  go_wp2_with fail
  rw [← HQ.out]
  have hc := cells_setCell (o := 6) (v := .int .i64 (n : Int)) H1.out.cells
  have hd := dev_nums (kept' := n) (ops' := S.ops + 1) (fuse' := S.fuse.map (· - 1)) (left' := l) (dead' := S.dead) H1.out (turned_g _) hc (by rw [HN.out]; exact Nat.le_refl _) H1.out.num.2.2.2.2.2 H1.out.left
  rw [HN.out] at hd ⊢
  exact did_same hd rfl ((H2.out.mono (fun _ e => .inl e)).setCell (.inl (.inl rfl)) _) (fun _ h => h) (fun _ h => h)
theorem mark_dead (a : Option Addr) (n cap : Nat) (hd : S.dead = true) : Calls Try.prog 31 #[.pointer (some ⟨x.g, 0, none⟩), .slice a n cap] w fun e w' => e = .returned (.int .i64 9) ∧ w = w' := by
  have HD := dead_any h
  rw [hd] at HD
  have H := Lib.hid HD
  clear HD h hd
  go_enter Try.func31, Try.ntmps31
  go_wp2_with (go_at_call 20; refine H.out.mono ?_; rintro e w' ⟨rfl, rfl⟩)
  go_ret
  exact ⟨rfl, rfl⟩
theorem trim_dead (n : Int) (hd : S.dead = true) : Calls Try.prog 35 #[.pointer (some ⟨x.g, 0, none⟩), .int .i64 n] w fun e w' => e = .returned (.int .i64 9) ∧ w = w' := by
  have HD := dead_any h
  rw [hd] at HD
  have H := Lib.hid HD
  clear HD h hd
  go_enter Try.func35, Try.ntmps35
  go_wp2_with (go_at_call 20; refine H.out.mono ?_; rintro e w' ⟨rfl, rfl⟩)
  go_ret
  exact ⟨rfl, rfl⟩
theorem append_dead (a : Option Addr) (n cap : Nat) (hd : S.dead = true) : Calls Try.prog 16 #[.pointer (some ⟨x.g, 0, none⟩), .slice a n cap] w fun e w' => e = .returned (.int .i64 9) ∧ w = w' := by
  have HD := dead_any h
  rw [hd] at HD
  have H := Lib.hid HD
  clear HD h hd
  go_enter Try.func16, Try.ntmps16
  go_wp2_with (go_at_call 20; refine H.out.mono ?_; rintro e w' ⟨rfl, rfl⟩)
  go_ret
  exact ⟨rfl, rfl⟩
theorem cut_dead (k : Int) (a : Option Addr) (n cap : Nat) (hd : S.dead = true) : Calls Try.prog 34 #[.pointer (some ⟨x.g, 0, none⟩), .int .i64 k, .slice a n cap] w fun e w' => e = .returned (.int .i64 9) ∧ w = w' := by
  have HD := dead_any h
  rw [hd] at HD
  have H := Lib.hid HD
  clear HD h hd
  go_enter Try.func34, Try.ntmps34
  go_wp2_with (go_at_call 20; refine H.out.mono ?_; rintro e w' ⟨rfl, rfl⟩)
  go_ret
  exact ⟨rfl, rfl⟩
theorem log_dead (hd : S.dead = true) : Calls Try.prog 18 #[.pointer (some ⟨x.g, 0, none⟩)] w fun e w' => e = .returned (.tuple #[.slice none 0 0, .int .i64 9]) ∧ w = w' := by
  have HD := dead_any h
  rw [hd] at HD
  have H := Lib.hid HD
  clear HD h hd
  go_enter Try.func18, Try.ntmps18
  go_wp2_with (go_at_call 20; refine H.out.mono ?_; rintro e w' ⟨rfl, rfl⟩)
  go_ret2
  exact ⟨rfl, rfl⟩
theorem marked_dead (hd : S.dead = true) : Calls Try.prog 32 #[.pointer (some ⟨x.g, 0, none⟩)] w fun e w' => e = .returned (.tuple #[.slice none 0 0, .int .i64 9]) ∧ w = w' := by
  have HD := dead_any h
  rw [hd] at HD
  have H := Lib.hid HD
  clear HD h hd
  go_enter Try.func32, Try.ntmps32
  go_wp2_with (go_at_call 20; refine H.out.mono ?_; rintro e w' ⟨rfl, rfl⟩)
  go_ret2
  exact ⟨rfl, rfl⟩
theorem read_dead (n : Int) (hd : S.dead = true) : Calls Try.prog 15 #[.pointer (some ⟨x.g, 0, none⟩), .int .i64 n] w fun e w' => e = .returned (.tuple #[.slice none 0 0, .int .i64 9]) ∧ w = w' := by
  have HD := dead_any h
  rw [hd] at HD
  have H := Lib.hid HD
  clear HD h hd
  go_enter Try.func15, Try.ntmps15
  go_wp2_with (go_at_call 20; refine H.out.mono ?_; rintro e w' ⟨rfl, rfl⟩)
  go_ret2
  exact ⟨rfl, rfl⟩
theorem sync_dead (hd : S.dead = true) : Calls Try.prog 29 #[.pointer (some ⟨x.g, 0, none⟩)] w fun e w' => e = .returned (.int .i64 9) ∧ w = w' := by
  have HD := dead_any h
  rw [hd] at HD
  have H := Lib.hid HD
  clear HD h hd
  go_enter Try.func29, Try.ntmps29
  go_wp2_with (go_at_call 20; refine H.out.mono ?_; rintro e w' ⟨rfl, rfl⟩)
  go_ret
  exact ⟨rfl, rfl⟩
theorem write_dead (k : Int) (a : Option Addr) (n cap : Nat) (hd : S.dead = true) : Calls Try.prog 12 #[.pointer (some ⟨x.g, 0, none⟩), .int .i64 k, .slice a n cap] w fun e w' => e = .returned (.int .i64 9) ∧ w = w' := by
  have HD := dead_any h
  rw [hd] at HD
  have H := Lib.hid HD
  clear HD h hd
  go_enter Try.func12, Try.ntmps12
  go_wp2_with (go_at_call 20; refine H.out.mono ?_; rintro e w' ⟨rfl, rfl⟩)
  go_ret
  exact ⟨rfl, rfl⟩
theorem mark_arg (a : Option Addr) {n : Nat} (cap : Nat) (hd : S.dead = false) (hn : 64 < n) (hm : n ≤ 9223372036854775807) : Calls Try.prog 31 #[.pointer (some ⟨x.g, 0, none⟩), .slice a n cap] w fun e w' => e = .returned (.int .i64 1) ∧ w = w' := by
  have HD := dead_any h
  rw [hd] at HD
  have H := Lib.hid HD
  have d : decide ((64 : Int) < (n : Int)) = true := decide_eq_true (by omega)
  have d2 : decide (64 < n) = true := decide_eq_true hn
  clear HD h hd
  go_enter Try.func31, Try.ntmps31
  go_wp2_with (go_at_call 20; refine H.out.mono ?_; rintro e w' ⟨rfl, rfl⟩)
  go_ret
  exact ⟨rfl, rfl⟩
theorem mark_dies (a : Option Addr) {n : Nat} (cap : Nat) (hd : S.dead = false) (hn : n ≤ 64) (hf : S.fuse = some 0) : Calls Try.prog 31 #[.pointer (some ⟨x.g, 0, none⟩), .slice a n cap] w (Did w x { S with dead := true } (.int .i64 9)) := by
  have HD := dead_any h
  rw [hd] at HD
  have H := Lib.hid HD
  have HA := Lib.hid (alive_dies h hf)
  have d : decide ((64 : Int) < (n : Int)) = false := decide_eq_false (by omega)
  have d2 : decide (64 < n) = false := decide_eq_false (by omega)
  generalize hQ : Did w x { S with dead := true } (.int .i64 9) = Q
  have HQ := Lib.hid hQ
  clear HD h hd hf hQ
  go_enter Try.func31, Try.ntmps31
  go_wp2_with (first | (go_at_call 20; refine H.out.mono ?_; rintro e w' ⟨rfl, rfl⟩) | (go_at_call 36; refine HA.out.mono ?_; rintro e w1 ⟨rfl, h1, h2⟩; have H1 := Lib.hid h1; have H2 := Lib.hid h2; clear h1 h2))
  rw [← HQ.out]
  exact did_dead H1.out H2.out _
theorem mark_does {a : Option Addr} {n cap : Nat} {l : List Nat} (hb : BytesAt w a l) (hl : l.length = n) (hx : Apt x a l) (hd : S.dead = false) (hn : n ≤ 64) (hf : S.fuse ≠ some 0) (ho : S.ops < 4611686018427387904) :
    Calls Try.prog 31 #[.pointer (some ⟨x.g, 0, none⟩), .slice a n cap] w (Did w x { S with fuse := S.fuse.map (· - 1), ops := S.ops + 1, mark := l } (.int .i64 0)) := by
  have HD := dead_any h
  rw [hd] at HD
  have H := Lib.hid HD
  have HA := Lib.hid (alive_lives h hf ho)
  have d : decide ((64 : Int) < (n : Int)) = false := decide_eq_false (by omega)
  have d2 : decide (64 < n) = false := decide_eq_false (by omega)
  generalize hQ : Did w x { S with fuse := S.fuse.map (· - 1), ops := S.ops + 1, mark := l } (.int .i64 0) = Q
  have HQ := Lib.hid hQ
  have HB := Lib.hid hb; have HL := Lib.hid hl; have HX := Lib.hid hx
  clear HD h hd hf hQ ho hb hl hx
  go_enter Try.func31, Try.ntmps31
  go_wp2_with fail
  refine H.out.mono ?_
  rintro e w' ⟨rfl, rfl⟩
  go_wp2_with fail
  refine HA.out.mono ?_
  rintro e w1 ⟨rfl, ⟨left, h1⟩, h2⟩
  have H1 := Lib.hid h1; have H2 := Lib.hid h2
  clear h1 h2
  go_wp2_with fail
  refine (clone_bytes (bytes_turned' HB.out H2.out (fun h0 ad e e' => HX.out h0 ad e (.inl e'))) HL.out (by omega)).mono ?_
  rintro e w2 ⟨ao, c2, bo, rfl, hs, hbl, hnw⟩
  obtain ⟨f0, f1, f2, f3, f4, f5, f6, f7, f8, f9, f10, f11, f12, fz⟩ := row13 (dev_below H1.out hbl).cells
  have HS := Lib.hid hs; have HBL := Lib.hid hbl; have HNW := Lib.hid hnw
  clear f0 f1 f2 f3 f4 f5 f6 f7 f9 f10 f11 f12 hs hbl hnw
  go_wp2
  rw [← HQ.out]
  exact did_mark (H2.out.mono (fun _ e => .inl e)) H1.out rfl (fun _ h => .inl h) (fun _ h => .inl h) HBL.out HS.out HNW.out HB.out.1 HL.out (by rw [HL.out]; exact hn)
end
end Go.Proofs.Ytikcanbhdickgaa
