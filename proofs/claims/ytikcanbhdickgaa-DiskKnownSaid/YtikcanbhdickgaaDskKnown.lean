/- Chapter 6's examples: the walk. -/
import Derived.Test.YtikcanbhdickgaaDskApart
import Derived.Test.YtikcanbhdickgaaDskFuse
import Derived.Deep.RegionHeldLaw
namespace Go.Proofs.Ytikcanbhdickgaa
open Go.ChangeShapes Go.WideShapes Go.ChangeAt Go.RowKit

/-- A device and what a crash left of it, both alive. -/
structure Two (w0 w : World) (S : Dsk) (g : Nat) (C : Dsk) (gc : Nat) : Prop where
  ex : ∃ x y, x.g = g ∧ y.g = gc ∧ Dev w S x ∧ Dev w C y ∧ (∀ k, Ex y k ∨ y.I k → ¬ Ex x k) ∧ (∀ k, Ex x k ∨ x.I k → w0.heap.size ≤ k) ∧ ∀ k, Ex y k ∨ y.I k → w0.heap.size ≤ k
  below : Below w0.heap.size w0 w
  fine : S.dead = false → S.half = []
  fine' : C.dead = false → C.half = []
theorem two_fst {w0 w : World} {S C : Dsk} {g gc : Nat} (h : Two w0 w S g C gc) : Live w0 w S g Nil := by
  obtain ⟨⟨x, y, h1, h2, h3, h4, h5, h6, h7⟩, hb, hf, hf'⟩ := h
  exact ⟨⟨x, h1, h3, h6, fun k hk => hk.elim⟩, hb, fun k hk => hk.elim, hf⟩
theorem two_snd {w0 w : World} {S C : Dsk} {g gc : Nat} (h : Two w0 w S g C gc) : Live w0 w C gc Nil := by
  obtain ⟨⟨x, y, h1, h2, h3, h4, h5, h6, h7⟩, hb, hf, hf'⟩ := h
  exact ⟨⟨y, h2, h4, h7, fun k hk => hk.elim⟩, hb, fun k hk => hk.elim, hf'⟩
theorem two_below {w0 w w' : World} {S C : Dsk} {g gc : Nat} (h : Two w0 w S g C gc) (hb : Below w.heap.size w w') : Two w0 w' S g C gc := by
  obtain ⟨⟨x, y, h1, h2, h3, h4, h5, h6, h7⟩, hb0, hf, hf'⟩ := h
  exact ⟨⟨x, y, h1, h2, dev_below h3 hb, dev_below h4 hb, h5, h6, h7⟩, hb0.trans (hb.mono hb0.size), hf, hf'⟩
theorem two_crash {w0 w : World} {S : Dsk} {g : Nat} {A : Nat → Prop} (h : Live w0 w S g A) {a : Option Addr} {n cap : Nat} {zs : List Nat} (hb : BytesAt w a zs) (hl : zs.length = n) (hn : n ≤ maxLen) : Calls Try.prog 14 #[.pointer (some ⟨g, 0, none⟩), .slice a n cap] w
    (fun e w' => ∃ g', e = .returned (.pointer (some ⟨g', 0, none⟩)) ∧ Two w0 w' S g (leftOf zs S) g' ∧ Below w.heap.size w w') := by
  obtain ⟨⟨x, rfl, hD, h3, h4⟩, hB, hlt, hf⟩ := h
  refine (crash_does hD hb hl hn).mono ?_
  rintro e w' ⟨y, he, hd, hbl, hE, hI⟩
  refine ⟨y.g, he, ⟨⟨x, y, rfl, rfl, dev_below hD hbl, hd, fun k hk hx => ?_, h3, fun k hk => ?_⟩, hB.trans (hbl.mono hB.size), hf, fun _ => rfl⟩, hbl⟩
  · rcases hk with hk | hk
    · have := hE k hk; have := dev_size hD k hx; omega
    · rcases hI k hk with h1 | h1
      · exact dev_out hD h1 hx
      · have := dev_size hD k hx; omega
  · rcases hk with hk | hk
    · exact Nat.le_trans hB.size (hE k hk)
    · rcases hI k hk with h1 | h1
      · exact h3 k (.inr h1)
      · exact Nat.le_trans hB.size h1
theorem two_force {w0 w : World} {S C : Dsk} {g gc : Nat} (h : Two w0 w S g C gc) (hd : S.dead = false) (hz : S.fuse ≠ some 0) (ho : S.ops < 4398046511104) : Calls Try.prog 17 #[.pointer (some ⟨g, 0, none⟩)] w
    fun e w' => e = .returned (.int .i64 0) ∧ Two w0 w' (doForce S).1 g C gc := by
  rw [doForce_ok hd hz]
  obtain ⟨⟨x, y, rfl, h2, h3, h4, h5, h6, h7⟩, hb, hf, hf'⟩ := h
  refine (force_does h3 hd hz (by omega)).mono ?_
  rintro e w' ⟨x', rfl, hd', hg, ht, hE, hI⟩
  refine ⟨rfl, ⟨⟨x', y, hg, h2, hd', dev_turned h4 ht (fun k hk => h5 k hk), fun k hk hx => ?_, fun k hk => ?_, h7⟩, Turned.to_below hb ht (fun k hk => h6 k (.inl hk)) hb.size, fun _ => hf hd, hf'⟩⟩
  · rcases hE k hx with h1 | h1
    · exact h5 k hk h1
    · rcases hk with hk | hk
      · have := dev_size h4 k hk; omega
      · have := (h4.out k hk).2.2.2.2.2; omega
  · rcases hk with hk | hk
    · rcases hE k hk with h1 | h1
      · exact h6 k (.inl h1)
      · exact Nat.le_trans hb.size h1
    · rcases hI k hk with h1 | h1
      · exact h6 k (.inr h1)
      · exact Nat.le_trans hb.size h1
def half2 : List Nat := List.replicate 256 1 ++ List.replicate 256 0
def K1 : Dsk := { fresh 4 10 with wait := [(1, onesL)], ops := 1 }
def K2 : Dsk := { fresh 4 10 with wait := [(1, onesL)], ops := 2, log := [7, 8] }
def K3 : Dsk := { fresh 4 10 with wait := [(1, onesL)], ops := 3, log := [7, 8], kept := 2 }
def K4 : Dsk := { fresh 4 10 with wait := [(1, onesL)], ops := 3, log := [7, 8], kept := 2, fuse := some 0 }
def K5 : Dsk := { fresh 4 10 with wait := [(1, onesL)], ops := 3, log := [7, 8], kept := 2, fuse := some 0, dead := true, torn := some (2, onesL) }
theorem kn1 : doWrite (fresh 4 10) 1 onesL = (K1, 0) := by
  rw [show (1 : Int) = ((1 : Nat) : Int) from rfl, doWrite_ok rfl (by simp [fresh]) onesL_len (by simp [fresh])]; rfl
theorem kn2 : doAppend K1 [7, 8] = (K2, 0) := by
  rw [doAppend_ok rfl (by simp [K1, fresh]) (by simp [K1, fresh])]; rfl
theorem kn3 : (doForce K2).1 = K3 := by
  rw [doForce_ok rfl (by simp [K2, fresh])]; rfl
theorem kn4 : doFuse K3 0 = K4 := by unfold doFuse; rw [if_neg (by decide)]; rfl
theorem kn5 : doWrite K4 2 onesL = (K5, 9) := by
  unfold doWrite
  rw [if_neg (by simp [K4, fresh]), if_neg (by rw [onesL_len]; simp [K4, fresh]), if_pos (by simp [K4])]
  rfl
theorem kp1 : pageNow (leftOf [1] K1) 1 = noughts ∧ (leftOf [1] K1).pages.length = 4 := ⟨rfl, rfl⟩
theorem kp2 : pageNow (leftOf [0] K1) 1 = onesL ∧ (leftOf [0] K1).pages.length = 4 := ⟨rfl, rfl⟩
theorem kp3 : (leftOf [1, 0] K2).log = [7] := rfl
theorem kp4 : (leftOf [0] K3).log = [7, 8] := rfl
theorem kp5 : pageNow (leftOf [0, 4] K5) 2 = half2 ∧ (leftOf [0, 4] K5).pages.length = 4 := ⟨by decide +kernel, by decide +kernel⟩
theorem ko : (fresh 4 10).ops < 4398046511104 ∧ K1.ops < 4398046511104 ∧ K2.ops < 4398046511104 ∧ K4.ops < 4398046511104 ∧ K2.dead = false ∧ K2.fuse ≠ some 0 ∧ K5.dead = true := by
  refine ⟨?_, ?_, ?_, ?_, rfl, by simp [K2, fresh], rfl⟩
  · show 0 < 4398046511104; decide
  · show 1 < 4398046511104; decide
  · show 2 < 4398046511104; decide
  · show 3 < 4398046511104; decide
theorem kl : (leftOf [1] K1).dead = false ∧ (leftOf [0] K1).dead = false ∧ (leftOf [1, 0] K2).dead = false ∧ (leftOf [0] K3).dead = false ∧ (leftOf [0, 4] K5).dead = false := ⟨rfl, rfl, rfl, rfl, rfl⟩
theorem half_byte : (∀ c ∈ half2, c < 256) ∧ half2.length = 512 := by
  refine ⟨fun c hc => ?_, by rw [half2, List.length_append, List.length_replicate, List.length_replicate]⟩
  rcases List.mem_append.1 hc with h | h <;> (rw [List.mem_replicate] at h; omega)
theorem half_is : onesL.take 256 ++ List.replicate 256 0 = half2 := by
  rw [half2, onesL, List.take_replicate]; rfl
theorem slc_empty {w : World} {b : Nat} (h : b < w.heap.size) : Slc w (some b) 1 (.slice (some ⟨b, 0, none⟩) 0 0) 0 [] :=
  ⟨by simp, (fun u hu => by cases hu), .inr ⟨_, 0, 0, rfl, rfl, h, Nat.le_refl _, Nat.zero_le _, (fun j u hu => by simp at hu), fun j hj => by omega⟩⟩
theorem to_below' {a b c : World} {E : Nat → Prop} (h : Below a.heap.size a b) (k : Turned E b c) (hE : ∀ k, E k → a.heap.size ≤ k) : Below a.heap.size a c := Turned.to_below h k hE h.size
theorem step_slc' {P : Program} {t e : TypeId} {i : TypeInfo} {z : Value} {sz by' : Nat} (R : Rowy P t e i z sz by') {w : World} {ops : Array Oper} {o : Oper} {a : Act} {K : Act → World → Prop} {Q : Exit → Act → World → Prop} {E : Prop} (hw : Region.wanted o (yielded ops a.tmps) = true) (s x : Operand) (tx : TypeId) (ho : o.op = .call { callee := .builtin .append, args := #[s, x], argTypes := #[t, tx] })
    {bo : Option Nat} {v y : Value} {n m r : Nat} {xs ys : List Value} (hs : a.eval s = v) (hx : a.eval x = y) (h : Slc w bo sz v n xs) (hsrc : _root_.Go.Src P sz tx y m ys w) (hr : n + m = r) (h63 : r ≤ maxLen) (hb : r * by' ≤ 140737488355328)
    (hK : ∀ ao cap bo' w', Slc w' bo' sz (.slice ao r cap) r (xs ++ ys) → Turned (fun k => bo = some k) w w' → (bo' = bo ∨ bo' = some w.heap.size) → K (a.put o.dst (.slice ao r cap)) w') :
    if Region.wanted o (yielded ops a.tmps) = true then Oper.wp P o a w K Q else E := by
  rw [if_pos hw]
  exact wp_slc R s x tx ho hs hx h hsrc hr h63 hb hK
section
variable {P : Program} {t tn e : TypeId} {i : TypeInfo} {kq kn : IntKind} (R : Rowy P t e i (.int .u8 0) 1 1) (htn : P.underlying tn = some (.int kn))
include R htn
theorem step_zeros {w : World} {ops : Array Oper} {o : Oper} {a : Act} {K : Act → World → Prop} {Q : Exit → Act → World → Prop} {E : Prop} (hw : Region.wanted o (yielded ops a.tmps) = true) (s x : Operand) (ho : o.op = .call { callee := .builtin .append, args := #[s, x], argTypes := #[t, tn] })
    {bo : Option Nat} {v : Value} {n k r : Nat} {xs : List Value} (hs : a.eval s = v) (hx : a.eval x = .int kq k) (h : Slc w bo 1 v n xs) (hr : n + k = r) (h0 : 0 < k) (hb : r ≤ 140737488355328)
    (hK : ∀ ao cap bo' w', Slc w' bo' 1 (.slice ao r cap) r (xs ++ u8s (List.replicate k 0)) → Turned (fun j => bo = some j) w w' → (bo' = bo ∨ bo' = some w.heap.size) → K (a.put o.dst (.slice ao r cap)) w') :
    if Region.wanted o (yielded ops a.tmps) = true then Oper.wp P o a w K Q else E := by
  rw [if_pos hw]
  exact wp_zeros R htn s x ho hs hx h hr h0 hb hK
end
attribute [local irreducible] fresh onesL noughts half2 K1 K2 K3 K4 K5 leftOf
set_option maxHeartbeats 4000000 in
set_option maxRecDepth 100000 in
theorem known_walk (w : World) : Calls Try.prog 3 #[] w fun e w' => e = .returned (.bool true) ∧ Below w.heap.size w w' := by
  have HO : Hid (∀ V, Calls Try.prog 13 #[] V (OnesOut V)) := Lib.hid (fun V => ones_any V)
  have HNEW : Hid (∀ V, Below w.heap.size w V → Calls Try.prog 11 #[.int .i64 4, .int .i64 10] V fun e w' => ∃ g, e = .returned (.tuple #[.pointer (some ⟨g, 0, none⟩), .int .i64 0]) ∧ Live w w' (fresh 4 10) g Nil) := Lib.hid (fun V hV => (new_does 4 10 (by decide) (by decide) (by decide) V).mono (fun e w' hs => by
    obtain ⟨g, he, hl, _⟩ := live_new (A := Nil) hs (fun k hk => hk.elim) hV (fun _ => by unfold fresh; rfl) (fun k hk => hk.elim)
    exact ⟨g, he, hl⟩))
  have HW1 : Hid (∀ V g b, Live w V (fresh 4 10) g Nil → Cells V b 5 (u8c onesL) → Calls Try.prog 12 #[.pointer (some ⟨g, 0, none⟩), .int .i64 1, .slice (some ⟨b, 0, none⟩) 512 512] V (Goes w V K1 g Nil 0)) := Lib.hid (fun V g b hV hc => by
    have h := live_write (cap := 512) hV 1 (cells_bytes hc onesL_byte (by rw [onesL_len]; unfold maxLen; decide)) onesL_len ko.1
    rw [kn1] at h
    exact h)
  have HC : ∀ (zs : List Nat) (n : Nat), zs.length = n → n ≤ 2 → (∀ c ∈ zs, c < 256) → ∀ V S g A, Live w V S g A → Calls Try.prog 14 #[.pointer (some ⟨g, 0, none⟩), .slice (some ⟨V.heap.size, 0, none⟩) n n] (V.alloc (.cells (u8c zs) 5)) (fun e w' => ∃ g', e = .returned (.pointer (some ⟨g', 0, none⟩)) ∧ Two w w' S g (leftOf zs S) g' ∧ Below V.heap.size V w') := by
    intro zs n hl hn hz V S g A hV
    have h := two_crash (cap := n) (live_on hV (below_alloc V (.cells (u8c zs) 5))) (const_bytes V zs hz (by unfold maxLen; omega)) hl (by unfold maxLen; omega)
    exact h.mono (fun e w' ⟨g', h1, h2, h3⟩ => ⟨g', h1, h2, (below_alloc V _).trans (h3.mono (below_alloc V _).size)⟩)
  have HC1 : Hid (∀ V g, Live w V K1 g Nil → Calls Try.prog 14 #[.pointer (some ⟨g, 0, none⟩), .slice (some ⟨V.heap.size, 0, none⟩) 1 1] (V.alloc (.cells #[.int .u8 1] 5)) (fun e w' => ∃ g', e = .returned (.pointer (some ⟨g', 0, none⟩)) ∧ Two w w' K1 g (leftOf [1] K1) g' ∧ Below V.heap.size V w')) := Lib.hid (fun V g hV => HC [1] 1 rfl (by decide) (by decide) V K1 g Nil hV)
  have HC2 : Hid (∀ V g, Live w V K1 g Nil → Calls Try.prog 14 #[.pointer (some ⟨g, 0, none⟩), .slice (some ⟨V.heap.size, 0, none⟩) 1 1] (V.alloc (.cells #[.int .u8 0] 5)) (fun e w' => ∃ g', e = .returned (.pointer (some ⟨g', 0, none⟩)) ∧ Two w w' K1 g (leftOf [0] K1) g' ∧ Below V.heap.size V w')) := Lib.hid (fun V g hV => HC [0] 1 rfl (by decide) (by decide) V K1 g Nil hV)
  have HC3 : Hid (∀ V g, Live w V K2 g Nil → Calls Try.prog 14 #[.pointer (some ⟨g, 0, none⟩), .slice (some ⟨V.heap.size, 0, none⟩) 2 2] (V.alloc (.cells #[.int .u8 1, .int .u8 0] 5)) (fun e w' => ∃ g', e = .returned (.pointer (some ⟨g', 0, none⟩)) ∧ Two w w' K2 g (leftOf [1, 0] K2) g' ∧ Below V.heap.size V w')) := Lib.hid (fun V g hV => HC [1, 0] 2 rfl (by decide) (by decide) V K2 g Nil hV)
  have HC4 : Hid (∀ V g, Live w V K3 g Nil → Calls Try.prog 14 #[.pointer (some ⟨g, 0, none⟩), .slice (some ⟨V.heap.size, 0, none⟩) 1 1] (V.alloc (.cells #[.int .u8 0] 5)) (fun e w' => ∃ g', e = .returned (.pointer (some ⟨g', 0, none⟩)) ∧ Two w w' K3 g (leftOf [0] K3) g' ∧ Below V.heap.size V w')) := Lib.hid (fun V g hV => HC [0] 1 rfl (by decide) (by decide) V K3 g Nil hV)
  have HC5 : Hid (∀ V g, Live w V K5 g Nil → Calls Try.prog 14 #[.pointer (some ⟨g, 0, none⟩), .slice (some ⟨V.heap.size, 0, none⟩) 2 2] (V.alloc (.cells #[.int .u8 0, .int .u8 4] 5)) (fun e w' => ∃ g', e = .returned (.pointer (some ⟨g', 0, none⟩)) ∧ Two w w' K5 g (leftOf [0, 4] K5) g' ∧ Below V.heap.size V w')) := Lib.hid (fun V g hV => HC [0, 4] 2 rfl (by decide) (by decide) V K5 g Nil hV)
  have HR1 : Hid (∀ V g', Live w V (leftOf [1] K1) g' Nil → Calls Try.prog 15 #[.pointer (some ⟨g', 0, none⟩), .int .i64 1] V (TellsB V 512 noughts)) := Lib.hid (fun V g' hV => by
    have h := live_read hV 1 kl.1 (by rw [kp1.2]; decide)
    rw [kp1.1] at h
    exact h)
  have HR2 : Hid (∀ V g', Live w V (leftOf [0] K1) g' Nil → Calls Try.prog 15 #[.pointer (some ⟨g', 0, none⟩), .int .i64 1] V (TellsB V 512 onesL)) := Lib.hid (fun V g' hV => by
    have h := live_read hV 1 kl.2.1 (by rw [kp2.2]; decide)
    rw [kp2.1] at h
    exact h)
  have HR5 : Hid (∀ V g', Live w V (leftOf [0, 4] K5) g' Nil → Calls Try.prog 15 #[.pointer (some ⟨g', 0, none⟩), .int .i64 2] V (TellsB V 512 half2)) := Lib.hid (fun V g' hV => by
    have h := live_read hV 2 kl.2.2.2.2 (by rw [kp5.2]; decide)
    rw [kp5.1] at h
    exact h)
  have HAP : Hid (∀ V g, Live w V K1 g Nil → Calls Try.prog 16 #[.pointer (some ⟨g, 0, none⟩), .slice (some ⟨V.heap.size, 0, none⟩) 2 2] (V.alloc (.cells #[.int .u8 7, .int .u8 8] 5)) fun e w' => e = .returned (.int .i64 0) ∧ Live w w' K2 g Nil) := Lib.hid (fun V g hV => by
    have hb : BytesAt (V.alloc (.cells (u8c [7, 8]) 5)) (some ⟨V.heap.size, 0, none⟩) [7, 8] := const_bytes V [7, 8] (by decide) (by unfold maxLen; decide)
    have h := live_append (cap := 2) (live_below hV (below_alloc V (.cells (u8c [7, 8]) 5))) hb rfl (fun _ ad e => by cases e; exact .inr (.inr ⟨Nat.le_refl _, by simp⟩)) (by decide) ko.2.1
    rw [kn2] at h
    exact h.mono (fun e w' hs => ⟨hs.1, live_mono hs.2.1 (fun k hk => hk.elim)⟩))
  have HFO : Hid (∀ V g gc C, Two w V K2 g C gc → Calls Try.prog 17 #[.pointer (some ⟨g, 0, none⟩)] V fun e w' => e = .returned (.int .i64 0) ∧ Two w w' K3 g C gc) := Lib.hid (fun V g gc C hV => by
    have h := two_force hV ko.2.2.2.2.1 ko.2.2.2.2.2.1 ko.2.2.1
    rw [kn3] at h
    exact h)
  have HLX : Hid (∀ V g', Live w V (leftOf [1, 0] K2) g' Nil → Calls Try.prog 18 #[.pointer (some ⟨g', 0, none⟩)] V (TellsB V 1 [7])) := Lib.hid (fun V g' hV => by
    have h := live_log hV kl.2.2.1
    rw [kp3] at h
    exact h)
  have HLY : Hid (∀ V g', Live w V (leftOf [0] K3) g' Nil → Calls Try.prog 18 #[.pointer (some ⟨g', 0, none⟩)] V (TellsB V 2 [7, 8])) := Lib.hid (fun V g' hV => by
    have h := live_log hV kl.2.2.2.1
    rw [kp4] at h
    exact h)
  have HFU : Hid (∀ V g, Live w V K3 g Nil → Calls Try.prog 19 #[.pointer (some ⟨g, 0, none⟩), .int .i64 0] V fun e w' => e = .returned (.tuple #[]) ∧ Live w w' K4 g Nil) := Lib.hid (fun V g hV => by
    have h := live_fuse hV 0 (by decide)
    rw [kn4] at h
    exact h.mono (fun e w' hs => ⟨hs.1, hs.2.1⟩))
  have HW5 : Hid (∀ V g b, Live w V K4 g Nil → Cells V b 5 (u8c onesL) → Calls Try.prog 12 #[.pointer (some ⟨g, 0, none⟩), .int .i64 2, .slice (some ⟨b, 0, none⟩) 512 512] V (Goes w V K5 g Nil 9)) := Lib.hid (fun V g b hV hc => by
    have h := live_write (cap := 512) hV 2 (cells_bytes hc onesL_byte (by rw [onesL_len]; unfold maxLen; decide)) onesL_len ko.2.2.2.1
    rw [kn5] at h
    exact h)
  have HRD : Hid (∀ V g, Live w V K5 g Nil → Calls Try.prog 15 #[.pointer (some ⟨g, 0, none⟩), .int .i64 2] V fun e w' => e = .returned (.tuple #[.slice none 0 0, .int .i64 9]) ∧ V = w') := Lib.hid (fun V g hV => live_read_dead hV 2 ko.2.2.2.2.2.2)
  have HDD : Hid (∀ V g, Live w V K5 g Nil → Calls Try.prog 20 #[.pointer (some ⟨g, 0, none⟩)] V fun e w' => e = .returned (.bool true) ∧ V = w') := Lib.hid (fun V g hV => by rw [← ko.2.2.2.2.2.2]; exact live_dead hV)
  clear HC
  go_enter Try.func3, Try.ntmps3
  go_upto_region 11 with (first
    | (go_at_call 10; refine (awake_any w).mono ?_; rintro e w1 ⟨rfl, hb1⟩; have HB1 := Lib.hid hb1; clear hb1)
    | (go_at_call 11; refine (HNEW.out _ HB1.out).mono ?_; rintro e w2 ⟨g, rfl, hl⟩; have HL2 := Lib.hid hl; clear hl)
    | (go_at_call 13; refine (HO.out w2).mono ?_; rintro e w3 ⟨g3, rfl, hc, -, hb⟩; have HC3c := Lib.hid hc; have HL3 := Lib.hid (live_on HL2.out hb); clear hc hb)
    | (go_at_call 12; refine (HW1.out w3 g g3 HL3.out HC3c.out).mono ?_; rintro e w4 ⟨rfl, hl, -⟩; have HL4 := Lib.hid hl; clear hl)
    | (go_at_call 14; refine (HC2.out w5 g HL5.out).mono ?_; rintro e w6 ⟨g6, rfl, hl, hb⟩; have HL6 := Lib.hid (two_fst hl); have HY6 := Lib.hid (two_snd hl); have HX6 := Lib.hid (live_on HX5.out hb); clear hl hb)
    | (go_at_call 14; refine (HC1.out w4 g HL4.out).mono ?_; rintro e w5 ⟨g5, rfl, hl, hb⟩; have HL5 := Lib.hid (two_fst hl); have HX5 := Lib.hid (two_snd hl); clear hl hb)
    | (go_at_call 15; (with_reducible refine (HR2.out w7 g6 HY7.out).mono ?_); rintro e w8 ht; obtain ⟨b8, o8, c8, rfl, -, hy, -, hb, -, -⟩ := tells_bytes ht onesL_byte; have HP8 := Lib.hid hy; have HG8 : Hid (Below w7.heap.size w7 w8) := Lib.hid hb; have HL8 := Lib.hid (live_on HL7.out hb); clear ht hy hb)
    | (go_at_call 15; (with_reducible refine (HR1.out w6 g5 HX6.out).mono ?_); rintro e w7 ht; obtain ⟨b7, o7, c7, rfl, -, hy, -, hb, -, -⟩ := tells_bytes ht nought_byte; have HP7 := Lib.hid hy; have HL7 := Lib.hid (live_on HL6.out hb); have HY7 := Lib.hid (live_on HY6.out hb); clear ht hy hb))
  have HP7' := Lib.hid (bytes_below HP7.out HG8.out)
  obtain ⟨so, hso⟩ : ∃ so, so = str onesL := ⟨_, rfl⟩
  obtain ⟨sn, hsn⟩ : ∃ sn, sn = str noughts := ⟨_, rfl⟩
  have HSO := Lib.hid hso; have HSN := Lib.hid hsn
  have HK8 : Hid (∀ V, Below w8.heap.size w8 V → (convert 28 9 (.slice (some ⟨b7, o7, none⟩) 512 c7)).run Try.prog V = .ok (.string sn) V ∧ (convert 28 9 (.slice (some ⟨b8, o8, none⟩) 512 c8)).run Try.prog V = .ok (.string so) V) := Lib.hid (fun V hV => by
    have q1 := conv_any (bytes_below HP7'.out hV) nought_len c7
    have q2 := conv_any (bytes_below HP8.out hV) onesL_len c8
    rw [← HSN.out] at q1
    rw [← HSO.out] at q2
    exact ⟨q1, q2⟩)
  have hmk := make_page
  have kz : ∀ V : World, (convert 28 9 (.slice (some ⟨V.heap.size, 0, none⟩) 512 512)).run Try.prog (V.alloc (.cells (u8c noughts) 5)) = .ok (.string sn) (V.alloc (.cells (u8c noughts) 5)) := fun V => by
    rw [hsn]
    exact conv_any (const_bytes V noughts nought_byte (by rw [nought_len]; unfold maxLen; decide)) nought_len 512
  have kzd : ∀ V : World, (convert 28 9 (.slice (some ⟨V.heap.size, 0, none⟩) 512 512)).run Try.prog (V.alloc (.cells (u8c noughts) 5)).drew = .ok (.string sn) (V.alloc (.cells (u8c noughts) 5)).drew := fun V => by
    rw [hsn]
    exact conv_any (bytes_drew (const_bytes V noughts nought_byte (by rw [nought_len]; unfold maxLen; decide))) nought_len 512
  have HBZ : Hid (Below w8.heap.size w8 w8) := Lib.hid (Below.refl _ _)
  obtain ⟨q1, q2⟩ := HK8.out w8 HBZ.out
  have HOB : Hid (∀ V, Below w8.heap.size w8 V → Calls Try.prog 13 #[] V fun e w' => ∃ g, e = .returned (.slice (some ⟨g, 0, none⟩) 512 512) ∧ Below w8.heap.size w8 w' ∧ ∀ V', Below w'.heap.size w' V' → (convert 28 9 (.slice (some ⟨g, 0, none⟩) 512 512)).run Try.prog V' = .ok (.string so) V') := Lib.hid (fun V hV => (ones_any V).mono (fun e w' ⟨g, h1, h2, h3, h4⟩ => ⟨g, h1, hV.trans (h4.mono hV.size), fun V' hV' => by
    rw [HSO.out]
    exact conv_any (bytes_below (cells_bytes h2 onesL_byte (by rw [onesL_len]; unfold maxLen; decide)) hV') onesL_len 512⟩))
  clear hso hsn HC1 HC2 HR1 HR2 HW1 HNEW
  go_cut [67] from 48 to 67 (fun v wx => v = .bool false ∧ Hid (Below w8.heap.size w8 wx))
  case first =>
    go_region_held (fun V => (convert 28 9 (.slice (some ⟨b7, o7, none⟩) 512 c7)).run Try.prog V = .ok (.string sn) V ∧ (convert 28 9 (.slice (some ⟨b8, o8, none⟩) 512 c8)).run Try.prog V = .ok (.string so) V) (exact HK8.out _ (by repeat (first | exact HBZ.out | exact HB9.out | refine Below.drew ?_ | refine below_alloc' ?_ _)))
      (first | ((go_at_call 13; refine (HOB.out _ (by repeat (first | exact HBZ.out | refine Below.drew ?_ | refine below_alloc' ?_ _))).mono ?_; rintro e w9 ⟨g9, rfl, hb, hc⟩; have HB9 := Lib.hid hb; have k9 := hc w9 (Below.refl _ _); have k9d := hc w9.drew (Below.refl _ _).drew; clear hb hc)))
    all_goals
      go_wp2
      go_meet
      exact ⟨rfl, Lib.hid (by repeat (first | exact HB9.out | refine Below.drew ?_ | refine below_alloc' ?_ _))⟩
  case rest =>
    obtain ⟨rfl, HBW⟩ := hcut
    have HLc := Lib.hid (live_on HL8.out HBW.out)
    clear q1 q2 hmk kz kzd HK8 HOB
    go_upto_region 30 with (first
      | (go_at_call 16; refine (HAP.out wc g HLc.out).mono ?_; rintro e w10 ⟨rfl, hl⟩; have HL10 := Lib.hid hl; clear hl)
      | (go_at_call 14; (with_reducible refine (HC5.out w18 g HL18.out).mono ?_); rintro e w19 ⟨g19, rfl, hl, hb⟩; have HL19 := Lib.hid (two_fst hl); have HX19 := Lib.hid (two_snd hl); clear hl hb)
      | (go_at_call 14; (with_reducible refine (HC4.out w12 g (two_fst HT12.out)).mono ?_); rintro e w13 ⟨g13, rfl, hl, hb⟩; have HL13 := Lib.hid (two_fst hl); have HY13 := Lib.hid (two_snd hl); have HX13 := Lib.hid (live_on (two_snd HT12.out) hb); clear hl hb)
      | (go_at_call 14; (with_reducible refine (HC3.out w10 g HL10.out).mono ?_); rintro e w11 ⟨g11, rfl, hl, hb⟩; have HT11 := Lib.hid hl; clear hl hb)
      | (go_at_call 17; refine (HFO.out w11 g g11 _ HT11.out).mono ?_; rintro e w12 ⟨rfl, hl⟩; have HT12 := Lib.hid hl; clear hl)
      | (go_at_call 18; (with_reducible refine (HLY.out w14 g13 HY14.out).mono ?_); rintro e w15 ht; obtain ⟨b15, o15, c15, rfl, -, hy, -, hb, -, -⟩ := tells_bytes ht (by decide); have k15 : (convert 28 9 (.slice (some ⟨b15, o15, none⟩) 2 c15)).run Try.prog w15 = .ok (.string ⟨#[7, 8]⟩) w15 := conv_any hy rfl c15; have k14 : (convert 28 9 (.slice (some ⟨b14, o14, none⟩) 1 c14)).run Try.prog w15 = .ok (.string ⟨#[7]⟩) w15 := conv_any (bytes_below HP14.out hb) rfl c14; have HL15 := Lib.hid (live_on HL14.out hb); clear ht hy hb)
      | (go_at_call 18; (with_reducible refine (HLX.out w13 g11 HX13.out).mono ?_); rintro e w14 ht; obtain ⟨b14, o14, c14, rfl, -, hy, -, hb, -, -⟩ := tells_bytes ht (by decide); have HP14 := Lib.hid hy; have HL14 := Lib.hid (live_on HL13.out hb); have HY14 := Lib.hid (live_on HY13.out hb); clear ht hy hb)
      | (go_at_call 19; refine (HFU.out w15 g HL15.out).mono ?_; rintro e w16 ⟨rfl, hl⟩; have HL16 := Lib.hid hl; clear hl)
      | (go_at_call 13; refine (HO.out w16).mono ?_; rintro e w17 ⟨g17, rfl, hc, -, hb⟩; have HC17 := Lib.hid hc; have HL17 := Lib.hid (live_on HL16.out hb); clear hc hb)
      | (go_at_call 12; refine (HW5.out w17 g g17 HL17.out HC17.out).mono ?_; rintro e w18 ⟨rfl, hl, -⟩; have HL18 := Lib.hid hl; clear hl)
      | (go_at_call 15; (with_reducible refine (HR5.out w19 g19 HX19.out).mono ?_); rintro e w20 ht; obtain ⟨b20, o20, c20, rfl, -, hy, -, hb, -, -⟩ := tells_bytes ht half_byte.1; have HP20 := Lib.hid hy; have HL20 := Lib.hid (live_on HL19.out hb); clear ht hy hb)
      | (go_at_call 15; (with_reducible refine (HRD.out w18 g HL18.out).mono ?_); rintro e w' ⟨rfl, rfl⟩)
      | (go_at_call 20; refine (HDD.out w19 g HL19.out).mono ?_; rintro e w' ⟨rfl, rfl⟩))
    obtain ⟨sh, hsh⟩ : ∃ sh, sh = str half2 := ⟨_, rfl⟩
    have HSH := Lib.hid hsh
    clear hsh
    have HKH : Hid (∀ V, Below w20.heap.size w20 V → (convert 28 9 (.slice (some ⟨b20, o20, none⟩) 512 c20)).run Try.prog V = .ok (.string sh) V) := Lib.hid (fun V hV => by
      rw [HSH.out]
      exact conv_any (bytes_below HP20.out hV) half_byte.2 c20)
    have HBY : Hid (Below w20.heap.size w20 w20) := Lib.hid (Below.refl _ _)
    have qh := HKH.out w20 HBY.out
    have HOB : Hid (∀ V, Below w20.heap.size w20 V → Calls Try.prog 13 #[] V fun e w' => ∃ g, e = .returned (.slice (some ⟨g, 0, none⟩) 512 512) ∧ Below w20.heap.size w20 w' ∧ V.heap.size ≤ w'.heap.size ∧ ∀ V', Below w'.heap.size w' V' → BytesAt V' (some ⟨g, 0, none⟩) (onesL.take 256)) := Lib.hid (fun V hV => (ones_any V).mono (fun e w' ⟨g, h1, h2, h3, h4⟩ => ⟨g, h1, hV.trans (h4.mono hV.size), h4.size, fun V' hV' => by
      have hb := bytes_below (cells_bytes h2 onesL_byte (by rw [onesL_len]; unfold maxLen; decide)) hV'
      rw [← List.take_append_drop 256 onesL] at hb
      exact bytes_prefix hb⟩))
    have HTL : Hid ((onesL.take 256).length = 256) := Lib.hid (by rw [List.length_take, onesL_len]; rfl)
    obtain ⟨i0, R0⟩ := rowU8
    have HR := Lib.hid R0
    clear R0 k14 k15
    go_region_held_law (fun V => (convert 28 9 (.slice (some ⟨b20, o20, none⟩) 512 c20)).run Try.prog V = .ok (.string sh) V) (exact HKH.out _ (by repeat (first | exact HBY.out | exact HB23.out | exact HB22.out | exact HB21.out | refine Below.drew ?_ | refine below_alloc' ?_ _)))
      (first
        | ((try go_simp); (go_at_call 13; refine (HOB.out _ (by repeat (first | exact HBY.out | refine Below.drew ?_ | refine below_alloc' ?_ _))).mono ?_; rintro e w21 ⟨g21, rfl, hb, hsz, hc⟩; have HB21 := Lib.hid hb; have HZ21 := Lib.hid hsz; have HC21 := Lib.hid hc; clear hb hsz hc))
        | ((refine step_zeros HR.out Try.underlying3 (by rfl) (.tmp 160) (.const (.int .i64 256)) rfl (by rfl) (by rfl) HS22.out (rfl : 256 + 256 = 512) (by decide) (by decide) ?_; intro a23 c23 b23 w23 h1 h2 h3; have HB23 : Hid (Below w20.heap.size w20 w23) := Lib.hid (to_below' (by repeat (first | exact HB22.out | refine Below.drew ?_)) h2 (fun k e => HN22.out k e)); have HS23 : Hid (BytesAt w23 a23 half2) := Lib.hid (by (have h := h1; rw [List.nil_append, ← u8s_append, half_is] at h; exact slc_bytes h half_byte.1)); have k23 := conv_any HS23.out half_byte.2 c23; rw [← HSH.out] at k23; clear h1 h2 h3))
        | ((refine step_slc' HR.out (by rfl) (.tmp 157) (.tmp 159) 28 rfl (by rfl) (by rfl) (slc_empty (by first | exact Nat.lt_of_lt_of_le (by simp) HZ21.out | simp)) (bytes_src Try.underlying28 (HC21.out _ (by repeat (first | exact Below.refl _ _ | refine Below.drew ?_ | refine below_alloc' ?_ _))) HTL.out) (Nat.zero_add 256) (by unfold maxLen; decide) (by decide) ?_; intro a22 c22 b22 w22 h1 h2 h3; have HS22 := Lib.hid h1; have HN22 : Hid (∀ k, b22 = some k → w20.heap.size ≤ k) := Lib.hid (fun k e => by (rcases h3 with h | h <;> (rw [h] at e; cases e; first | exact Nat.le_refl _ | exact HB21.out.size | exact Below.size (by repeat (first | exact HB21.out | refine Below.drew ?_ | refine below_alloc' ?_ _))))); have HB22 : Hid (Below w20.heap.size w20 w22) := Lib.hid (to_below' (by repeat (first | exact HB21.out | refine Below.drew ?_ | refine below_alloc' ?_ _)) h2 (fun k e => by cases e; first | exact Nat.le_refl _ | exact HB21.out.size)); clear h1 h2 h3)))
    all_goals
      go_wp2
      go_ret
      refine ⟨rfl, HL20.out.below.trans (Below.mono ?_ HL20.out.below.size)⟩
      repeat (first | exact HB23.out | refine Below.drew ?_)
end Go.Proofs.Ytikcanbhdickgaa
