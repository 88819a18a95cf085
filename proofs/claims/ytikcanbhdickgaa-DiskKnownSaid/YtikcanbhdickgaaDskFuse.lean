/- P6.3: of a fuse just so many operations are done; then the device is dead for good: the walk. -/
import Derived.Test.YtikcanbhdickgaaDskDeed
namespace Go.Proofs.Ytikcanbhdickgaa
open Go.ChangeShapes Go.WideShapes Go.ChangeAt Go.RowKit

/-- What an operation's answer says. -/
theorem ask_kind (S : Dsk) (op n : Int) (l : List Nat) :
    ((ask S op n l).2 = 0 ∧ S.fuse ≠ some 0 ∧ S.dead = false ∧ (ask S op n l).1.dead = false ∧ (ask S op n l).1.ops = S.ops + 1 ∧ (ask S op n l).1.fuse = S.fuse.map (· - 1)) ∨
    ((ask S op n l).2 = 9 ∧ (ask S op n l).1.dead = true ∧ (ask S op n l).1.ops = S.ops ∧ (ask S op n l).1.fuse = S.fuse ∧ (S.dead = true ∨ S.fuse = some 0)) ∨
    (((ask S op n l).2 = 1 ∨ (ask S op n l).2 = 7) ∧ (ask S op n l).1 = S ∧ S.dead = false) := by
  by_cases hd : S.dead = true
  · refine .inr (.inl ?_)
    unfold ask doWrite doSync doAppend doForce doCut doTrim doMark
    simp only [if_pos hd]
    repeat (first | exact ⟨rfl, hd, rfl, rfl, .inl hd⟩ | split)
  · have hd' : S.dead = false := by simpa using hd
    by_cases hf : S.fuse = some 0
    · unfold ask doWrite doSync doAppend doForce doCut doTrim doMark
      simp only [if_neg hd, if_pos hf]
      repeat (first | exact .inr (.inl ⟨rfl, rfl, rfl, rfl, .inr hf⟩) | exact .inr (.inr ⟨.inl rfl, rfl, hd'⟩) | exact .inr (.inr ⟨.inr rfl, rfl, hd'⟩) | split)
    · unfold ask doWrite doSync doAppend doForce doCut doTrim doMark
      simp only [if_neg hd, if_neg hf]
      repeat (first | exact .inl ⟨rfl, hf, hd', hd', rfl, rfl⟩ | exact .inr (.inr ⟨.inl rfl, rfl, hd'⟩) | exact .inr (.inr ⟨.inr rfl, rfl, hd'⟩) | split)
theorem i64_and15 (n : Int) : bits .and .i64 n 15 = (((n % 16).toNat : Nat) : Int) := by
  have h3 : (BitVec.ofInt 64 15).toNat = 2 ^ 4 - 1 := by decide
  have key : (BitVec.ofInt 64 n &&& BitVec.ofInt 64 15).toNat = (n % ((2 ^ 64 : Nat) : Int)).toNat % 2 ^ 4 := by
    rw [BitVec.toNat_and, BitVec.toNat_ofInt, h3, Nat.and_two_pow_sub_one_eq_mod]
  show IntKind.i64.wrap ((BitVec.ofInt 64 n &&& BitVec.ofInt 64 15).toNat : Nat) = _
  rw [key, IntWalk.i64_in _ (by omega)]
  omega
section
variable {w0 w : World} {S : Dsk} {A : Nat → Prop} {g : Nat} (h : Live w0 w S g A)
include h
theorem live_read_dead (n : Int) (hd : S.dead = true) : Calls Try.prog 15 #[.pointer (some ⟨g, 0, none⟩), .int .i64 n] w fun e w' => e = .returned (.tuple #[.slice none 0 0, .int .i64 9]) ∧ w = w' := by
  obtain ⟨⟨x, rfl, hD, h3, h4⟩, hB, hlt, hf⟩ := h
  exact read_dead hD n hd
theorem live_read_arg (n : Int) (hd : S.dead = false) (hn : n < 0 ∨ (S.pages.length : Int) ≤ n) : Calls Try.prog 15 #[.pointer (some ⟨g, 0, none⟩), .int .i64 n] w fun e w' => e = .returned (.tuple #[.slice none 0 0, .int .i64 1]) ∧ w = w' := by
  obtain ⟨⟨x, rfl, hD, h3, h4⟩, hB, hlt, hf⟩ := h
  exact read_arg hD n hd hn
theorem live_log_dead (hd : S.dead = true) : Calls Try.prog 18 #[.pointer (some ⟨g, 0, none⟩)] w fun e w' => e = .returned (.tuple #[.slice none 0 0, .int .i64 9]) ∧ w = w' := by
  obtain ⟨⟨x, rfl, hD, h3, h4⟩, hB, hlt, hf⟩ := h
  exact log_dead hD hd
theorem live_marked_dead (hd : S.dead = true) : Calls Try.prog 32 #[.pointer (some ⟨g, 0, none⟩)] w fun e w' => e = .returned (.tuple #[.slice none 0 0, .int .i64 9]) ∧ w = w' := by
  obtain ⟨⟨x, rfl, hD, h3, h4⟩, hB, hlt, hf⟩ := h
  exact marked_dead hD hd
end
/-- A device with a fuse of m, of which q are used. -/
def Fused (w wr : World) (g m q : Nat) (S : Dsk) : Prop := Live w wr S g Nil ∧ S.ops = q ∧ q ≤ m ∧ m ≤ 15 ∧ S.fuse = some (m - q) ∧ (S.dead = true → q = m)
theorem fused_ask {w wr w' : World} {g m q : Nat} {S : Dsk} (h : Fused w wr g m q S) (op n : Int) (l : List Nat) (hl : Live w w' (ask S op n l).1 g Nil) :
    ((ask S op n l).2 = 0 ∧ Fused w w' g m (q + 1) (ask S op n l).1 ∧ (ask S op n l).1.dead = false ∧ q + 1 ≤ m) ∨
    ((ask S op n l).2 = 9 ∧ Fused w w' g m q (ask S op n l).1 ∧ (ask S op n l).1.dead = true ∧ q = m) ∨
    (((ask S op n l).2 = 1 ∨ (ask S op n l).2 = 7) ∧ Fused w w' g m q (ask S op n l).1 ∧ (ask S op n l).1.dead = false ∧ q ≤ m) := by
  obtain ⟨h1, h2, h3, h4, h5, h6⟩ := h
  rcases ask_kind S op n l with ⟨k1, k2, k3, k4, k5, k6⟩ | ⟨k1, k2, k3, k4, k5⟩ | ⟨k1, k2, k3⟩
  · have hq : q < m := by
      rw [h5] at k2
      have : m - q ≠ 0 := fun e => k2 (by rw [e])
      omega
    refine .inl ⟨k1, ⟨hl, by omega, by omega, h4, ?_, fun e => by rw [k4] at e; cases e⟩, k4, by omega⟩
    rw [k6, h5, Option.map_some]
    congr 1
  · have hq : q = m := by
      rcases k5 with e | e
      · exact h6 e
      · rw [h5] at e
        have := Option.some.inj e
        omega
    exact .inr (.inl ⟨k1, ⟨hl, by omega, h3, h4, by rw [k4]; exact h5, fun _ => hq⟩, k2, hq⟩)
  · refine .inr (.inr ⟨k1, ⟨hl, by rw [k2]; exact h2, h3, h4, by rw [k2]; exact h5, by rw [k2]; exact h6⟩, by rw [k2]; exact k3, h3⟩)
theorem dead_sync {w0 V : World} {S : Dsk} {g : Nat} (hV : Live w0 V S g Nil) (hd : S.dead = true) (hops : S.ops < 4398046511104) : Calls Try.prog 29 #[.pointer (some ⟨g, 0, none⟩)] V fun e w' => e = .returned (.int .i64 9) ∧ Live w0 w' S g Nil := by
  have h := live_sync hV hops
  rw [show doSync S = (S, 9) from if_pos hd] at h
  exact h.mono (fun e w' hs => ⟨hs.1, hs.2.1⟩)
theorem dead_append {w0 V : World} {S : Dsk} {g : Nat} (hV : Live w0 V S g Nil) (hd : S.dead = true) (hops : S.ops < 4398046511104) : Calls Try.prog 16 #[.pointer (some ⟨g, 0, none⟩), .slice none 0 0] V fun e w' => e = .returned (.int .i64 9) ∧ Live w0 w' S g Nil := by
  have h := live_append (cap := 0) hV (bytes_empty V) rfl (fun h0 => absurd rfl h0) (Nat.zero_le _) hops
  rw [show doAppend S [] = (S, 9) from if_pos hd] at h
  exact h.mono (fun e w' hs => ⟨hs.1, hs.2.1⟩)
theorem dead_force {w0 V : World} {S : Dsk} {g : Nat} (hV : Live w0 V S g Nil) (hd : S.dead = true) (hops : S.ops < 4398046511104) : Calls Try.prog 17 #[.pointer (some ⟨g, 0, none⟩)] V fun e w' => e = .returned (.int .i64 9) ∧ Live w0 w' S g Nil := by
  have h := live_force hV hops
  rw [show doForce S = (S, 9) from if_pos hd] at h
  exact h.mono (fun e w' hs => ⟨hs.1, hs.2.1⟩)
theorem dead_cut {w0 V : World} {S : Dsk} {g : Nat} (hV : Live w0 V S g Nil) (hd : S.dead = true) (hops : S.ops < 4398046511104) : Calls Try.prog 34 #[.pointer (some ⟨g, 0, none⟩), .int .i64 0, .slice none 0 0] V fun e w' => e = .returned (.int .i64 9) ∧ Live w0 w' S g Nil := by
  have h := live_cut (cap := 0) hV 0 (bytes_empty V) rfl (fun h0 => absurd rfl h0) (Nat.zero_le _) hops
  rw [show doCut S 0 [] = (S, 9) from if_pos hd] at h
  exact h.mono (fun e w' hs => ⟨hs.1, hs.2.1⟩)
theorem dead_trim {w0 V : World} {S : Dsk} {g : Nat} (hV : Live w0 V S g Nil) (hd : S.dead = true) (hops : S.ops < 4398046511104) : Calls Try.prog 35 #[.pointer (some ⟨g, 0, none⟩), .int .i64 0] V fun e w' => e = .returned (.int .i64 9) ∧ Live w0 w' S g Nil := by
  have h := live_trim hV 0 hops
  rw [show doTrim S 0 = (S, 9) from if_pos hd] at h
  exact h.mono (fun e w' hs => ⟨hs.1, hs.2.1⟩)
theorem dead_mark {w0 V : World} {S : Dsk} {g : Nat} (hV : Live w0 V S g Nil) (hd : S.dead = true) (hops : S.ops < 4398046511104) : Calls Try.prog 31 #[.pointer (some ⟨g, 0, none⟩), .slice none 0 0] V fun e w' => e = .returned (.int .i64 9) ∧ Live w0 w' S g Nil := by
  have h := live_mark (cap := 0) hV (bytes_empty V) rfl (fun h0 => absurd rfl h0) (Nat.zero_le _) hops
  rw [show doMark S [] = (S, 9) from if_pos hd] at h
  exact h.mono (fun e w' hs => ⟨hs.1, hs.2.1⟩)
theorem dead_write {w0 V : World} {S : Dsk} {g b : Nat} (hV : Live w0 V S g Nil) (hd : S.dead = true) (hops : S.ops < 4398046511104) (hc : Cells V b 5 (u8c onesL)) : Calls Try.prog 12 #[.pointer (some ⟨g, 0, none⟩), .int .i64 0, .slice (some ⟨b, 0, none⟩) 512 512] V fun e w' => e = .returned (.int .i64 9) ∧ Live w0 w' S g Nil := by
  have h := live_write (cap := 512) hV 0 (cells_bytes hc onesL_byte (by rw [onesL_len]; unfold maxLen; decide)) onesL_len hops
  rw [show doWrite S 0 onesL = (S, 9) from if_pos hd] at h
  exact h.mono (fun e w' hs => ⟨hs.1, hs.2.1⟩)
set_option maxHeartbeats 2000000 in
set_option maxRecDepth 100000 in
theorem fuse_walk {ao : Option Addr} {len cap : Nat} {w : World} (n : Int) (hlen : len ≤ 3518437208883 ∧ ∀ k, k < len → DeedIn w ao k) :
    Calls Try.prog 8 #[.slice ao len cap, .int .i64 n] w fun e w' => e = .returned (.bool true) ∧ Below w.heap.size w w' := by
  obtain ⟨hl1, hd⟩ := hlen
  have HD := Lib.hid hd
  clear hd
  have hand := i64_and15 n
  have hm15 : (n % 16).toNat ≤ 15 := by omega
  generalize (n % 16).toNat = m at hand hm15
  have HNEW : Hid (∀ V, Below w.heap.size w V → Calls Try.prog 11 #[.int .i64 5, .int .i64 200] V fun e w' => ∃ g, e = .returned (.tuple #[.pointer (some ⟨g, 0, none⟩), .int .i64 0]) ∧ Live w w' (fresh 5 200) g Nil) := Lib.hid (fun V hV => (new_does 5 200 (by decide) (by decide) (by decide) V).mono (fun e w' hs => by
    obtain ⟨g, he, hl, _⟩ := live_new (A := Nil) hs (fun k hk => hk.elim) hV (fun _ => by unfold fresh; rfl) (fun k hk => hk.elim)
    exact ⟨g, he, hl⟩))
  go_enter Try.func8, Try.ntmps8
  go_wp2_with (first
    | (go_at_call 11; refine (HNEW.out _ HB1.out).mono ?_; rintro e w2 ⟨g, rfl, hl⟩; have HF2 : Hid (Calls Try.prog 19 #[.pointer (some ⟨g, 0, none⟩), .int .i64 (m : Int)] w2 fun e w' => e = .returned (.tuple #[]) ∧ Fused w w' g m 0 (doFuse (fresh 5 200) m)) := Lib.hid ((live_fuse hl (m : Int) (by omega)).mono (fun e w' hs => ⟨hs.1, hs.2.1, rfl, Nat.zero_le _, hm15, by show (if (m : Int) < 0 then none else some (m : Int).toNat) = _; rw [if_neg (by omega)]; rfl, fun e => by cases e⟩)); clear hl)
    | (go_at_call 19; refine HF2.out.mono ?_; rintro e w3 ⟨rfl, hf⟩; have HF3 := Lib.hid hf; clear hf)
    | (go_at_call 10; refine (awake_any w).mono ?_; rintro e w1 ⟨rfl, hb1⟩; have HB1 := Lib.hid hb1; clear hb1))
  clear HF2 HNEW HB1 hand
  go_loopw [8, 9] (fun dn i wr => ∃ (k q : Nat), k ≤ len ∧ i = .int .i64 k ∧ q ≤ m ∧ dn = .int .i64 q ∧ Hid (∃ S, Fused w wr g m q S)) (fun _ i _ => (len - (intOf i)).toNat)
  case atStart => exact ⟨0, 0, Nat.zero_le _, rfl, Nat.zero_le _, rfl, Lib.hid ⟨_, HF3.out⟩⟩
  case round =>
    obtain ⟨k, q, hk, rfl, hq, rfl, HFS⟩ := hrel
    clear HF3
    by_cases hlt : k < len
    · obtain ⟨S, hS⟩ := HFS.out
      obtain ⟨b, off, dd, aa, ca, cs, cc, rfl, hbw, hc1, hc2, hc3, hby, hbl, hdd, haa⟩ := deed_below (HD.out k hlt) hS.1.below
      obtain ⟨cm, hcm⟩ : ∃ cm, cm = cs.length := ⟨_, rfl⟩
      rw [← hcm] at hc3
      have hcmx : cm ≤ 9223372036854775807 := by have := hby.2.1; unfold maxLen at this; omega
      have HAS : Hid (Calls Try.prog 24 #[.pointer (some ⟨g, 0, none⟩), .int .i64 dd, .int .i64 aa, .slice ca cm cc] wr.drew fun e w' => ∃ r : Int, e = .returned (.int .i64 r) ∧ ∃ S', (r = 0 ∧ Fused w w' g m (q + 1) S' ∧ S'.dead = false ∧ q + 1 ≤ m) ∨ (r = 9 ∧ Fused w w' g m q S' ∧ S'.dead = true ∧ q = m) ∨ ((r = 1 ∨ r = 7) ∧ Fused w w' g m q S' ∧ S'.dead = false ∧ q ≤ m)) := Lib.hid
        ((ask_any (cap := cc) (live_on hS.1 (Below.refl _ wr).drew) dd aa (bytes_drew hby) hcm.symm (fun h0 ad e => (hbl ad e).imp id (fun e => absurd e h0)) hcmx (by have := hS.2.1; have := hS.2.2.2.1; omega)).mono (fun e w' hs => ⟨_, hs.1, _, fused_ask hS dd aa cs hs.2.1⟩))
      obtain ⟨hd1, hd2⟩ := hdd
      obtain ⟨ha1, ha2⟩ := haa
      clear hS hby hbl hcm
      by_cases h0 : dd < 0
      · have d1 : decide (dd < 0) = true := decide_eq_true h0
        go_wp2
        go_roundw
        case rel => exact ⟨k + 1, q, by omega, by go_num, hq, rfl, HFS⟩
        case measure => simp [intOf]; omega
      · have d1 : decide (dd < 0) = false := decide_eq_false h0
        by_cases h6 : 6 < dd
        · have d2 : decide (6 < dd) = true := decide_eq_true h6
          go_wp2
          go_roundw
          case rel => exact ⟨k + 1, q, by omega, by go_num, hq, rfl, HFS⟩
          case measure => simp [intOf]; omega
        · have d2 : decide (6 < dd) = false := decide_eq_false h6
          go_upto_region 11 with fail
          go_still_tail 16, (by kernel_rfl)
          go_wp2_with fail
          refine HAS.out.mono ?_
          rintro e w4 ⟨r, rfl, S', ⟨rfl, hF, hD, hq1⟩ | ⟨rfl, hF, hD, rfl⟩ | ⟨rfl | rfl, hF, hD, hq1⟩⟩ <;> (have HFD := Lib.hid hF; have HDD := Lib.hid hD; clear hF hD)
          · have hw1 : IntKind.i64.wrap ((q : Int) + 1) = ((q + 1 : Nat) : Int) := by rw [IntWalk.i64_in _ (by omega)]; rfl
            have d5 : decide ((m : Int) < ((q + 1 : Nat) : Int)) = false := decide_eq_false (by omega)
            have HOp : Hid (Calls Try.prog 33 #[.pointer (some ⟨g, 0, none⟩)] w4 fun e w' => e = .returned (.int .i64 ((q + 1 : Nat) : Int)) ∧ w4 = w') := Lib.hid (by rw [← HFD.out.2.1]; exact live_ops HFD.out.1)
            have HDe : Hid (Calls Try.prog 20 #[.pointer (some ⟨g, 0, none⟩)] w4 fun e w' => e = .returned (.bool false) ∧ w4 = w') := Lib.hid (by rw [← HDD.out]; exact live_dead HFD.out.1)
            clear HAS HFS hcmx hd1 hd2 ha1 ha2 hc1 hc2 hc3
            go_wp2_with (first
              | (go_at_call 33; refine HOp.out.mono ?_; rintro e w' ⟨rfl, rfl⟩)
              | (go_at_call 20; refine HDe.out.mono ?_; rintro e w' ⟨rfl, rfl⟩))
            go_roundw
            case rel => exact ⟨k + 1, q + 1, by omega, by go_num, by omega, by go_num, Lib.hid ⟨S', HFD.out⟩⟩
            case measure => simp [intOf]; omega
          · have d5 : decide ((q : Int) < (q : Int)) = false := decide_eq_false (by omega)
            have HOp : Hid (Calls Try.prog 33 #[.pointer (some ⟨g, 0, none⟩)] w4 fun e w' => e = .returned (.int .i64 ((q : Nat) : Int)) ∧ w4 = w') := Lib.hid (by rw [← HFD.out.2.1]; exact live_ops HFD.out.1)
            have HDe : Hid (Calls Try.prog 20 #[.pointer (some ⟨g, 0, none⟩)] w4 fun e w' => e = .returned (.bool true) ∧ w4 = w') := Lib.hid (by rw [← HDD.out]; exact live_dead HFD.out.1)
            clear HAS HFS hcmx hd1 hd2 ha1 ha2 hc1 hc2 hc3
            go_wp2_with (first
              | (go_at_call 33; refine HOp.out.mono ?_; rintro e w' ⟨rfl, rfl⟩)
              | (go_at_call 20; refine HDe.out.mono ?_; rintro e w' ⟨rfl, rfl⟩))
            go_roundw
            case rel => exact ⟨k + 1, q, by omega, by go_num, by omega, by go_num, Lib.hid ⟨S', HFD.out⟩⟩
            case measure => simp [intOf]; omega
          · have d5 : decide ((m : Int) < (q : Int)) = false := decide_eq_false (by omega)
            have HOp : Hid (Calls Try.prog 33 #[.pointer (some ⟨g, 0, none⟩)] w4 fun e w' => e = .returned (.int .i64 ((q : Nat) : Int)) ∧ w4 = w') := Lib.hid (by rw [← HFD.out.2.1]; exact live_ops HFD.out.1)
            have HDe : Hid (Calls Try.prog 20 #[.pointer (some ⟨g, 0, none⟩)] w4 fun e w' => e = .returned (.bool false) ∧ w4 = w') := Lib.hid (by rw [← HDD.out]; exact live_dead HFD.out.1)
            clear HAS HFS hcmx hd1 hd2 ha1 ha2 hc1 hc2 hc3
            go_wp2_with (first
              | (go_at_call 33; refine HOp.out.mono ?_; rintro e w' ⟨rfl, rfl⟩)
              | (go_at_call 20; refine HDe.out.mono ?_; rintro e w' ⟨rfl, rfl⟩))
            go_roundw
            case rel => exact ⟨k + 1, q, by omega, by go_num, by omega, by go_num, Lib.hid ⟨S', HFD.out⟩⟩
            case measure => simp [intOf]; omega
          · have d5 : decide ((m : Int) < (q : Int)) = false := decide_eq_false (by omega)
            have HOp : Hid (Calls Try.prog 33 #[.pointer (some ⟨g, 0, none⟩)] w4 fun e w' => e = .returned (.int .i64 ((q : Nat) : Int)) ∧ w4 = w') := Lib.hid (by rw [← HFD.out.2.1]; exact live_ops HFD.out.1)
            have HDe : Hid (Calls Try.prog 20 #[.pointer (some ⟨g, 0, none⟩)] w4 fun e w' => e = .returned (.bool false) ∧ w4 = w') := Lib.hid (by rw [← HDD.out]; exact live_dead HFD.out.1)
            clear HAS HFS hcmx hd1 hd2 ha1 ha2 hc1 hc2 hc3
            go_wp2_with (first
              | (go_at_call 33; refine HOp.out.mono ?_; rintro e w' ⟨rfl, rfl⟩)
              | (go_at_call 20; refine HDe.out.mono ?_; rintro e w' ⟨rfl, rfl⟩))
            go_roundw
            case rel => exact ⟨k + 1, q, by omega, by go_num, by omega, by go_num, Lib.hid ⟨S', HFD.out⟩⟩
            case measure => simp [intOf]; omega
    · have d1 : decide ((k : Int) < (len : Int)) = false := decide_eq_false (by omega)
      obtain ⟨S, hS⟩ := HFS.out
      clear HFS
      by_cases hdead : S.dead = true
      · have hqm : q = m := hS.2.2.2.2.2 hdead
        have HDe : Hid (Calls Try.prog 20 #[.pointer (some ⟨g, 0, none⟩)] wr fun e w' => e = .returned (.bool true) ∧ wr = w') := Lib.hid (by have h := live_dead hS.1; rw [hdead] at h; exact h)
        have HFu : Hid (Calls Try.prog 19 #[.pointer (some ⟨g, 0, none⟩), .int .i64 (-1)] wr fun e w' => e = .returned (.tuple #[]) ∧ ∃ S', Live w w' S' g Nil ∧ S'.dead = true ∧ S'.ops = q) := Lib.hid ((live_fuse hS.1 (-1) (by decide)).mono (fun e w' hs => ⟨hs.1, _, hs.2.1, hdead, hS.2.1⟩))
        clear hS hdead
        go_wp2_with (first
          | (go_at_call 20; refine HDe.out.mono ?_; rintro e w' ⟨rfl, rfl⟩)
          | (go_at_call 19; refine HFu.out.mono ?_; rintro e w5 ⟨rfl, hs⟩; have HS5 := Lib.hid hs; clear hs))
        obtain ⟨S', hL5, hd5, ho5⟩ := HS5.out
        have HL5 := Lib.hid hL5; have HSD := Lib.hid hd5; have HSO : Hid (S'.ops < 4398046511104) := Lib.hid (by omega); have HSQ := Lib.hid ho5
        clear hL5 hd5 ho5 HS5 HFu HDe
        have HOp : Hid (∀ V, Live w V S' g Nil → Calls Try.prog 33 #[.pointer (some ⟨g, 0, none⟩)] V fun e w' => e = .returned (.int .i64 (q : Int)) ∧ V = w') := Lib.hid (fun V hV => by rw [← HSQ.out]; exact live_ops hV)
        have HDe : Hid (∀ V, Live w V S' g Nil → Calls Try.prog 20 #[.pointer (some ⟨g, 0, none⟩)] V fun e w' => e = .returned (.bool true) ∧ V = w') := Lib.hid (fun V hV => by rw [← HSD.out]; exact live_dead hV)
        go_wp2_with (first
        | (go_at_call 15; refine (live_read_dead HL5.out 0 HSD.out).mono ?_; rintro e w' ⟨rfl, rfl⟩)
        | (go_at_call 18; refine (live_log_dead HL5.out HSD.out).mono ?_; rintro e w' ⟨rfl, rfl⟩)
        | (go_at_call 32; refine (live_marked_dead HL5.out HSD.out).mono ?_; rintro e w' ⟨rfl, rfl⟩)
        | (go_at_call 20; refine (HDe.out _ HL5.out).mono ?_; rintro e w' ⟨rfl, rfl⟩)
        | (go_at_call 13; refine (ones_any w5).mono ?_; rintro e w11 ⟨g11, rfl, hc, -, hb⟩; have HCC := Lib.hid hc; have HL11 := Lib.hid (live_on HL5.out hb); clear hc hb)
        | (go_at_call 12; refine (dead_write HL11.out HSD.out HSO.out HCC.out).mono ?_; rintro e w12 ⟨rfl, hl⟩; have HL12 := Lib.hid hl; clear hl)
        | (go_at_call 29; refine (dead_sync HL12.out HSD.out HSO.out).mono ?_; rintro e w13 ⟨rfl, hl⟩; have HL13 := Lib.hid hl; clear hl)
        | (go_at_call 16; refine (dead_append HL13.out HSD.out HSO.out).mono ?_; rintro e w14 ⟨rfl, hl⟩; have HL14 := Lib.hid hl; clear hl)
        | (go_at_call 17; refine (dead_force HL14.out HSD.out HSO.out).mono ?_; rintro e w15 ⟨rfl, hl⟩; have HL15 := Lib.hid hl; clear hl)
        | (go_at_call 34; refine (dead_cut HL15.out HSD.out HSO.out).mono ?_; rintro e w16 ⟨rfl, hl⟩; have HL16 := Lib.hid hl; clear hl)
        | (go_at_call 35; refine (dead_trim HL16.out HSD.out HSO.out).mono ?_; rintro e w17 ⟨rfl, hl⟩; have HL17 := Lib.hid hl; clear hl)
        | (go_at_call 31; refine (dead_mark HL17.out HSD.out HSO.out).mono ?_; rintro e w18 ⟨rfl, hl⟩; have HL18 := Lib.hid hl; clear hl)
        | (go_at_call 33; refine (HOp.out _ HL18.out).mono ?_; rintro e w' ⟨rfl, rfl⟩))
        go_ret
        exact ⟨rfl, HL18.out.below⟩
      · replace hdead : S.dead = false := by simpa using hdead
        have HDe : Hid (Calls Try.prog 20 #[.pointer (some ⟨g, 0, none⟩)] wr fun e w' => e = .returned (.bool false) ∧ wr = w') := Lib.hid (by have h := live_dead hS.1; rw [hdead] at h; exact h)
        have d5 : decide ((q : Int) ≤ (m : Int)) = true := decide_eq_true (by omega)
        have HBL := Lib.hid hS.1.below
        clear hS hdead
        go_wp2_with (go_at_call 20; refine HDe.out.mono ?_; rintro e w' ⟨rfl, rfl⟩)
        go_ret
        exact ⟨rfl, HBL.out⟩
end Go.Proofs.Ytikcanbhdickgaa
