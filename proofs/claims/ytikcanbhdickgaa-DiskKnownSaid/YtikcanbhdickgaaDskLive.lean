/- A device that lives: what each operation makes of it, in lists; contracts that hide where it lies. -/
import Derived.Test.YtikcanbhdickgaaDskOnes
namespace Go.Proofs.Ytikcanbhdickgaa
open Go.ChangeShapes Go.WideShapes Go.ChangeAt Go.RowKit

def spent (S : Dsk) : Dsk := { S with fuse := S.fuse.map (· - 1), ops := S.ops + 1 }
def doWrite (S : Dsk) (n : Int) (l : List Nat) : Dsk × Int :=
  if S.dead = true then (S, 9) else if n < 0 ∨ (S.pages.length : Int) ≤ n ∨ l.length ≠ 512 then (S, 1) else if S.fuse = some 0 then ({ S with dead := true, torn := some (n.toNat, l) }, 9)
  else ({ S with fuse := S.fuse.map (· - 1), ops := S.ops + 1, wait := S.wait ++ [(n.toNat, l)] }, 0)
def doSync (S : Dsk) : Dsk × Int :=
  if S.dead = true then (S, 9) else if S.fuse = some 0 then ({ S with dead := true }, 9)
  else ({ S with fuse := S.fuse.map (· - 1), ops := S.ops + 1, pages := (List.range S.pages.length).map (pageNow S), wait := [] }, 0)
def doAppend (S : Dsk) (l : List Nat) : Dsk × Int :=
  if S.dead = true then (S, 9) else if S.room < S.log.length + l.length then (S, 7) else if S.fuse = some 0 then ({ S with dead := true, half := l }, 9)
  else ({ S with fuse := S.fuse.map (· - 1), ops := S.ops + 1, log := S.log ++ l }, 0)
def doForce (S : Dsk) : Dsk × Int :=
  if S.dead = true then (S, 9) else if S.fuse = some 0 then ({ S with dead := true }, 9)
  else ({ S with fuse := S.fuse.map (· - 1), ops := S.ops + 1, kept := S.log.length }, 0)
def doCut (S : Dsk) (n : Int) (l : List Nat) : Dsk × Int :=
  if S.dead = true then (S, 9) else if n < 0 ∨ (S.kept : Int) < n ∨ 64 < l.length then (S, 1) else if S.fuse = some 0 then ({ S with dead := true }, 9)
  else ({ S with fuse := S.fuse.map (· - 1), ops := S.ops + 1, log := S.log.drop n.toNat, kept := S.kept - n.toNat, mark := l }, 0)
def doTrim (S : Dsk) (n : Int) : Dsk × Int :=
  if S.dead = true then (S, 9) else if n < 0 ∨ (S.log.length : Int) < n then (S, 1) else if S.fuse = some 0 then ({ S with dead := true }, 9)
  else ({ S with fuse := S.fuse.map (· - 1), ops := S.ops + 1, log := S.log.take n.toNat, kept := n.toNat }, 0)
def doMark (S : Dsk) (l : List Nat) : Dsk × Int :=
  if S.dead = true then (S, 9) else if 64 < l.length then (S, 1) else if S.fuse = some 0 then ({ S with dead := true }, 9)
  else ({ S with fuse := S.fuse.map (· - 1), ops := S.ops + 1, mark := l }, 0)
def doFuse (S : Dsk) (n : Int) : Dsk := { S with fuse := if n < 0 then none else some n.toNat }

theorem doWrite_ok {S : Dsk} {n : Nat} {l : List Nat} (hd : S.dead = false) (hn : n < S.pages.length) (hl : l.length = 512) (hf : S.fuse ≠ some 0) : doWrite S (n : Int) l = ({ S with fuse := S.fuse.map (· - 1), ops := S.ops + 1, wait := S.wait ++ [(n, l)] }, 0) := by
  unfold doWrite
  rw [if_neg (by rw [hd]; decide), if_neg (by omega), if_neg hf, Int.toNat_natCast]
theorem doSync_ok {S : Dsk} (hd : S.dead = false) (hf : S.fuse ≠ some 0) : doSync S = ({ S with fuse := S.fuse.map (· - 1), ops := S.ops + 1, pages := (List.range S.pages.length).map (pageNow S), wait := [] }, 0) := by
  unfold doSync
  rw [if_neg (by rw [hd]; decide), if_neg hf]
theorem doAppend_ok {S : Dsk} {l : List Nat} (hd : S.dead = false) (hn : S.log.length + l.length ≤ S.room) (hf : S.fuse ≠ some 0) : doAppend S l = ({ S with fuse := S.fuse.map (· - 1), ops := S.ops + 1, log := S.log ++ l }, 0) := by
  unfold doAppend
  rw [if_neg (by rw [hd]; decide), if_neg (by omega), if_neg hf]
theorem doForce_ok {S : Dsk} (hd : S.dead = false) (hf : S.fuse ≠ some 0) : doForce S = ({ S with fuse := S.fuse.map (· - 1), ops := S.ops + 1, kept := S.log.length }, 0) := by
  unfold doForce
  rw [if_neg (by rw [hd]; decide), if_neg hf]
theorem doMark_ok {S : Dsk} {l : List Nat} (hd : S.dead = false) (hl : l.length ≤ 64) (hf : S.fuse ≠ some 0) : doMark S l = ({ S with fuse := S.fuse.map (· - 1), ops := S.ops + 1, mark := l }, 0) := by
  unfold doMark
  rw [if_neg (by rw [hd]; decide), if_neg (by omega), if_neg hf]

/-- A device at g that holds S, made since w0; the blocks of A are none of its own. -/
structure Live (w0 w : World) (S : Dsk) (g : Nat) (A : Nat → Prop) : Prop where
  ex : ∃ x, x.g = g ∧ Dev w S x ∧ (∀ k, Ex x k ∨ x.I k → w0.heap.size ≤ k) ∧ ∀ k, A k → ¬ Ex x k ∧ ¬ x.I k
  below : Below w0.heap.size w0 w
  lt : ∀ k, A k → k < w.heap.size
  fine : S.dead = false → S.half = []
/-- An operation's answer. -/
def Goes (w0 w : World) (S' : Dsk) (g : Nat) (A : Nat → Prop) (r : Int) (e : Ending) (w' : World) : Prop := e = .returned (.int .i64 r) ∧ Live w0 w' S' g A ∧ ∀ k, A k → w'.heap[k]? = w.heap[k]?
theorem live_mono {w0 w : World} {S : Dsk} {g : Nat} {A A' : Nat → Prop} (h : Live w0 w S g A) (hA : ∀ k, A' k → A k) : Live w0 w S g A' := by
  obtain ⟨⟨x, h1, h2, h3, h4⟩, h5, h6, h7⟩ := h
  exact ⟨⟨x, h1, h2, h3, fun k hk => h4 k (hA k hk)⟩, h5, fun k hk => h6 k (hA k hk), h7⟩
/-- New memory, nothing else: the new blocks are apart. -/
theorem live_below {w0 w w' : World} {S : Dsk} {g : Nat} {A : Nat → Prop} (h : Live w0 w S g A) (hb : Below w.heap.size w w') : Live w0 w' S g (fun k => A k ∨ (w.heap.size ≤ k ∧ k < w'.heap.size)) := by
  obtain ⟨⟨x, h1, h2, h3, h4⟩, h5, h6, h7⟩ := h
  refine ⟨⟨x, h1, dev_below h2 hb, h3, fun k hk => ?_⟩, h5.trans (hb.mono h5.size), fun k hk => ?_, h7⟩
  · rcases hk with hk | ⟨hk, _⟩
    · exact h4 k hk
    · exact ⟨fun e => by have := dev_size h2 k e; omega, fun e => by have := (h2.out k e).2.2.2.2.2; omega⟩
  · rcases hk with hk | ⟨_, hk⟩
    · exact Nat.lt_of_lt_of_le (h6 k hk) hb.size
    · exact hk
theorem live_on {w0 w w' : World} {S : Dsk} {g : Nat} {A : Nat → Prop} (h : Live w0 w S g A) (hb : Below w.heap.size w w') : Live w0 w' S g A := live_mono (live_below h hb) (fun _ hk => .inl hk)
/-- What is done to other blocks. -/
theorem live_turned {w0 w w' : World} {S : Dsk} {g : Nat} {A E : Nat → Prop} (h : Live w0 w S g A) (ht : Turned E w w') (hE : ∀ k, E k → A k ∧ w0.heap.size ≤ k) : Live w0 w' S g A := by
  obtain ⟨⟨x, h1, h2, h3, h4⟩, h5, h6, h7⟩ := h
  refine ⟨⟨x, h1, dev_turned h2 ht (fun k hk he => ?_), h3, h4⟩, Turned.to_below h5 ht (fun k hk => (hE k hk).2) h5.size, fun k hk => Nat.lt_of_lt_of_le (h6 k hk) ht.size, h7⟩
  rcases hk with hk | hk
  · exact (h4 k (hE k he).1).1 hk
  · exact (h4 k (hE k he).1).2 hk
theorem live_new {w0 w w' : World} {S : Dsk} {J : Nat → Prop} {r : Value → Value} {e : Ending} (h : NewDev w J S r e w') (hJ : ∀ k, J k → w0.heap.size ≤ k) (hb : Below w0.heap.size w0 w) (hf : S.dead = false → S.half = []) {A : Nat → Prop} (hA : ∀ k, A k → k < w.heap.size ∧ ¬ J k) :
    ∃ g, e = .returned (r (.pointer (some ⟨g, 0, none⟩))) ∧ Live w0 w' S g A ∧ Below w.heap.size w w' ∧ w.heap.size ≤ g := by
  obtain ⟨x, he, hd, hbl, hE, hI⟩ := h
  refine ⟨x.g, he, ⟨⟨x, rfl, hd, fun k hk => ?_, fun k hk => ⟨fun e => ?_, fun e => ?_⟩⟩, hb.trans (hbl.mono hb.size), fun k hk => Nat.lt_of_lt_of_le (hA k hk).1 hbl.size, hf⟩, hbl, hE _ (.inl rfl)⟩
  · rcases hk with hk | hk
    · exact Nat.le_trans hb.size (hE k hk)
    · rcases hI k hk with h1 | h1
      · exact hJ k h1
      · exact Nat.le_trans hb.size h1
  · have := hE k e; have := (hA k hk).1; omega
  · rcases hI k e with h1 | h1
    · exact (hA k hk).2 h1
    · have := (hA k hk).1; omega

section
variable {w0 w : World} {S : Dsk} {A : Nat → Prop}
theorem goes_did {x : Gh} (_ : Dev w S x) (ho : ∀ k, Ex x k ∨ x.I k → w0.heap.size ≤ k) (hA : ∀ k, A k → ¬ Ex x k ∧ ¬ x.I k) (hb : Below w0.heap.size w0 w) (hlt : ∀ k, A k → k < w.heap.size) {S' : Dsk} {r : Int} {e : Ending} {w' : World}
    (hf : S'.dead = false → S'.half = []) (h : Did w x S' (.int .i64 r) e w') : Goes w0 w S' x.g A r e w' := by
  obtain ⟨x', rfl, hd', hg, ht, hE, hI⟩ := h
  refine ⟨rfl, ⟨⟨x', hg, hd', fun k hk => ?_, fun k hk => ⟨fun e => ?_, fun e => ?_⟩⟩, Turned.to_below hb ht (fun k hk => ho k (.inl hk)) hb.size, fun k hk => Nat.lt_of_lt_of_le (hlt k hk) ht.size, hf⟩, fun k hk => ht.block k (hlt k hk) (hA k hk).1⟩
  · rcases hk with hk | hk
    · rcases hE k hk with h1 | h1
      · exact ho k (.inl h1)
      · exact Nat.le_trans hb.size h1
    · rcases hI k hk with h1 | h1
      · exact ho k (.inr h1)
      · exact Nat.le_trans hb.size h1
  · rcases hE k e with h1 | h1
    · exact (hA k hk).1 h1
    · have := hlt k hk; omega
  · rcases hI k e with h1 | h1
    · exact (hA k hk).2 h1
    · have := hlt k hk; omega
theorem goes_same {g : Nat} (h : Live w0 w S g A) {r : Int} {e : Ending} {w' : World} (hs : e = .returned (.int .i64 r) ∧ w = w') : Goes w0 w S g A r e w' := by
  obtain ⟨rfl, rfl⟩ := hs
  exact ⟨rfl, h, fun _ _ => rfl⟩
theorem goes_below {g : Nat} (h : Live w0 w S g A) {r : Int} {e : Ending} {w' : World} (hs : e = .returned (.int .i64 r) ∧ Below w.heap.size w w') : Goes w0 w S g A r e w' := by
  obtain ⟨rfl, hb⟩ := hs
  exact ⟨rfl, live_on h hb, fun k hk => hb.block k (h.lt k hk)⟩
/-- A slice of bytes of the law's own, or that came in. -/
def Mine (w0 : World) (A : Nat → Prop) (a : Option Addr) (l : List Nat) : Prop := l ≠ [] → ∀ ad, a = some ad → ad.block < w0.heap.size ∨ A ad.block
theorem apt_mine {x : Gh} {a : Option Addr} {l : List Nat} (ho : ∀ k, Ex x k ∨ x.I k → w0.heap.size ≤ k) (hA : ∀ k, A k → ¬ Ex x k ∧ ¬ x.I k) (hm : Mine w0 A a l) : Apt x a l := fun h0 ad e he => by
  rcases hm h0 ad e with h1 | h1
  · have := ho _ (.inl he); omega
  · exact (hA _ h1).1 he
variable {g : Nat} (h : Live w0 w S g A)
include h
theorem live_write (k : Int) {a : Option Addr} {n cap : Nat} {l : List Nat} (hb : BytesAt w a l) (hl : l.length = n) (ho : S.ops < 4398046511104) :
    Calls Try.prog 12 #[.pointer (some ⟨g, 0, none⟩), .int .i64 k, .slice a n cap] w (Goes w0 w (doWrite S k l).1 g A (doWrite S k l).2) := by
  have h0 := h
  obtain ⟨⟨x, rfl, hD, h3, h4⟩, hB, hlt, hf⟩ := h
  unfold doWrite
  by_cases hd : S.dead = true
  · rw [if_pos hd]; exact (write_dead hD k a n cap hd).mono (fun _ _ hs => goes_same h0 hs)
  · rw [if_neg hd]
    replace hd : S.dead = false := by simpa using hd
    by_cases harg : k < 0 ∨ (S.pages.length : Int) ≤ k ∨ l.length ≠ 512
    · rw [if_pos harg]; rw [hl] at harg; exact (write_arg hD k a cap hd harg).mono (fun _ _ hs => goes_same h0 hs)
    · rw [if_neg harg]
      have hl5 : l.length = 512 := by omega
      obtain ⟨ad, rfl⟩ : ∃ ad, a = some ad := by
        cases a with
        | none => have := bytes_none hb; subst this; simp at hl5
        | some ad => exact ⟨ad, rfl⟩
      obtain ⟨k', rfl⟩ : ∃ k' : Nat, k = (k' : Int) := ⟨k.toNat, by omega⟩
      have hk : k' < S.pages.length := by omega
      rw [← hl, hl5, Int.toNat_natCast]
      by_cases hz : S.fuse = some 0
      · rw [if_pos hz]; exact (write_dies hD k' hb hl5 hd hk hz).mono (fun _ _ hs => goes_did hD h3 h4 hB hlt (fun e => by cases e) hs)
      · rw [if_neg hz]; exact (write_does hD k' hb hl5 hd hk hz (by omega) (by have := hD.num.2.2.2.2.2; omega)).mono (fun _ _ hs => goes_did hD h3 h4 hB hlt (fun _ => hf hd) hs)
theorem live_sync (ho : S.ops < 4398046511104) :
    Calls Try.prog 29 #[.pointer (some ⟨g, 0, none⟩)] w (Goes w0 w (doSync S).1 g A (doSync S).2) := by
  have h0 := h
  obtain ⟨⟨x, rfl, hD, h3, h4⟩, hB, hlt, hf⟩ := h
  unfold doSync
  by_cases hd : S.dead = true
  · rw [if_pos hd]; exact (sync_dead hD hd).mono (fun _ _ hs => goes_same h0 hs)
  · rw [if_neg hd]
    replace hd : S.dead = false := by simpa using hd
    by_cases hz : S.fuse = some 0
    · rw [if_pos hz]; exact (sync_dies hD hd hz).mono (fun _ _ hs => goes_did hD h3 h4 hB hlt (fun e => by cases e) hs)
    · rw [if_neg hz]; exact (sync_does hD hd hz (by omega)).mono (fun _ _ hs => goes_did hD h3 h4 hB hlt (fun _ => hf hd) hs)
theorem live_force (ho : S.ops < 4398046511104) :
    Calls Try.prog 17 #[.pointer (some ⟨g, 0, none⟩)] w (Goes w0 w (doForce S).1 g A (doForce S).2) := by
  have h0 := h
  obtain ⟨⟨x, rfl, hD, h3, h4⟩, hB, hlt, hf⟩ := h
  unfold doForce
  by_cases hd : S.dead = true
  · rw [if_pos hd]; exact (force_dead hD hd).mono (fun _ _ hs => goes_same h0 hs)
  · rw [if_neg hd]
    replace hd : S.dead = false := by simpa using hd
    by_cases hz : S.fuse = some 0
    · rw [if_pos hz]; exact (force_dies hD hd hz).mono (fun _ _ hs => goes_did hD h3 h4 hB hlt (fun e => by cases e) hs)
    · rw [if_neg hz]; exact (force_does hD hd hz (by omega)).mono (fun _ _ hs => goes_did hD h3 h4 hB hlt (fun _ => hf hd) hs)
theorem live_append {a : Option Addr} {n cap : Nat} {l : List Nat} (hb : BytesAt w a l) (hl : l.length = n) (hm : Mine w0 A a l) (hn : n ≤ 9223372036854775807) (ho : S.ops < 4398046511104) :
    Calls Try.prog 16 #[.pointer (some ⟨g, 0, none⟩), .slice a n cap] w (Goes w0 w (doAppend S l).1 g A (doAppend S l).2) := by
  have h0 := h
  obtain ⟨⟨x, rfl, hD, h3, h4⟩, hB, hlt, hf⟩ := h
  unfold doAppend
  by_cases hd : S.dead = true
  · rw [if_pos hd]; exact (append_dead hD a n cap hd).mono (fun _ _ hs => goes_same h0 hs)
  · rw [if_neg hd, hl]
    replace hd : S.dead = false := by simpa using hd
    by_cases hr : S.room < S.log.length + n
    · rw [if_pos hr]; exact (append_full hD a cap hd hr hn).mono (fun _ _ hs => goes_below h0 hs)
    · rw [if_neg hr]
      by_cases hz : S.fuse = some 0
      · rw [if_pos hz]; exact (append_dies hD hb hl (apt_mine h3 h4 hm) hd (by omega) hz).mono (fun _ _ hs => goes_did hD h3 h4 hB hlt (fun e => by cases e) hs)
      · rw [if_neg hz]; exact (append_does hD hb hl (apt_mine h3 h4 hm) hd (by rw [hf hd]; simp only [List.length_nil]; omega) hz (by omega)).mono (fun _ _ hs => goes_did hD h3 h4 hB hlt (fun _ => hf hd) hs)
theorem live_cut (k : Int) {a : Option Addr} {n cap : Nat} {l : List Nat} (hb : BytesAt w a l) (hl : l.length = n) (hm : Mine w0 A a l) (hn : n ≤ 9223372036854775807) (ho : S.ops < 4398046511104) :
    Calls Try.prog 34 #[.pointer (some ⟨g, 0, none⟩), .int .i64 k, .slice a n cap] w (Goes w0 w (doCut S k l).1 g A (doCut S k l).2) := by
  have h0 := h
  obtain ⟨⟨x, rfl, hD, h3, h4⟩, hB, hlt, hf⟩ := h
  unfold doCut
  by_cases hd : S.dead = true
  · rw [if_pos hd]; exact (cut_dead hD k a n cap hd).mono (fun _ _ hs => goes_same h0 hs)
  · rw [if_neg hd, hl]
    replace hd : S.dead = false := by simpa using hd
    by_cases harg : k < 0 ∨ (S.kept : Int) < k ∨ 64 < n
    · rw [if_pos harg]; exact (cut_arg hD k a cap hd harg hn).mono (fun _ _ hs => goes_same h0 hs)
    · rw [if_neg harg]
      obtain ⟨k', rfl⟩ : ∃ k' : Nat, k = (k' : Int) := ⟨k.toNat, by omega⟩
      rw [Int.toNat_natCast]
      by_cases hz : S.fuse = some 0
      · rw [if_pos hz]; exact (cut_dies hD k' a cap hd (by omega) (by omega) hz).mono (fun _ _ hs => goes_did hD h3 h4 hB hlt (fun e => by cases e) hs)
      · rw [if_neg hz]; exact (cut_does hD k' hb hl (apt_mine h3 h4 hm) hd (by omega) (by omega) hz (by omega)).mono (fun _ _ hs => goes_did hD h3 h4 hB hlt (fun _ => hf hd) hs)
theorem live_trim (k : Int) (ho : S.ops < 4398046511104) :
    Calls Try.prog 35 #[.pointer (some ⟨g, 0, none⟩), .int .i64 k] w (Goes w0 w (doTrim S k).1 g A (doTrim S k).2) := by
  have h0 := h
  obtain ⟨⟨x, rfl, hD, h3, h4⟩, hB, hlt, hf⟩ := h
  unfold doTrim
  by_cases hd : S.dead = true
  · rw [if_pos hd]; exact (trim_dead hD k hd).mono (fun _ _ hs => goes_same h0 hs)
  · rw [if_neg hd]
    replace hd : S.dead = false := by simpa using hd
    by_cases harg : k < 0 ∨ (S.log.length : Int) < k
    · rw [if_pos harg]; exact (trim_arg hD k hd harg).mono (fun _ _ hs => goes_same h0 hs)
    · rw [if_neg harg]
      obtain ⟨k', rfl⟩ : ∃ k' : Nat, k = (k' : Int) := ⟨k.toNat, by omega⟩
      rw [Int.toNat_natCast]
      by_cases hz : S.fuse = some 0
      · rw [if_pos hz]; exact (trim_dies hD k' hd (by omega) hz).mono (fun _ _ hs => goes_did hD h3 h4 hB hlt (fun e => by cases e) hs)
      · rw [if_neg hz]; exact (trim_does hD k' hd (by omega) hz (by omega)).mono (fun _ _ hs => goes_did hD h3 h4 hB hlt (fun _ => hf hd) hs)
theorem live_mark {a : Option Addr} {n cap : Nat} {l : List Nat} (hb : BytesAt w a l) (hl : l.length = n) (hm : Mine w0 A a l) (hn : n ≤ 9223372036854775807) (ho : S.ops < 4398046511104) :
    Calls Try.prog 31 #[.pointer (some ⟨g, 0, none⟩), .slice a n cap] w (Goes w0 w (doMark S l).1 g A (doMark S l).2) := by
  have h0 := h
  obtain ⟨⟨x, rfl, hD, h3, h4⟩, hB, hlt, hf⟩ := h
  unfold doMark
  by_cases hd : S.dead = true
  · rw [if_pos hd]; exact (mark_dead hD a n cap hd).mono (fun _ _ hs => goes_same h0 hs)
  · rw [if_neg hd, hl]
    replace hd : S.dead = false := by simpa using hd
    by_cases harg : 64 < n
    · rw [if_pos harg]; exact (mark_arg hD a cap hd harg hn).mono (fun _ _ hs => goes_same h0 hs)
    · rw [if_neg harg]
      by_cases hz : S.fuse = some 0
      · rw [if_pos hz]; exact (mark_dies hD a cap hd (by omega) hz).mono (fun _ _ hs => goes_did hD h3 h4 hB hlt (fun e => by cases e) hs)
      · rw [if_neg hz]; exact (mark_does hD hb hl (apt_mine h3 h4 hm) hd (by omega) hz (by omega)).mono (fun _ _ hs => goes_did hD h3 h4 hB hlt (fun _ => hf hd) hs)
theorem live_fuse (n : Int) (hn : -9223372036854775808 ≤ n ∧ n ≤ 9223372036854775807) :
    Calls Try.prog 19 #[.pointer (some ⟨g, 0, none⟩), .int .i64 n] w fun e w' => e = .returned (.tuple #[]) ∧ Live w0 w' (doFuse S n) g A ∧ ∀ k, A k → w'.heap[k]? = w.heap[k]? := by
  obtain ⟨⟨x, rfl, hD, h3, h4⟩, hB, hlt, hf⟩ := h
  refine (fuse_any hD n hn).mono ?_
  rintro e w' ⟨x', rfl, hd', hg, ht, hE, hI⟩
  refine ⟨rfl, ⟨⟨x', hg, hd', fun k hk => ?_, fun k hk => ⟨fun e => ?_, fun e => ?_⟩⟩, Turned.to_below hB ht (fun k hk => h3 k (.inl hk)) hB.size, fun k hk => Nat.lt_of_lt_of_le (hlt k hk) ht.size, hf⟩, fun k hk => ht.block k (hlt k hk) (h4 k hk).1⟩
  · rcases hk with hk | hk
    · rcases hE k hk with h1 | h1
      · exact h3 k (.inl h1)
      · exact Nat.le_trans hB.size h1
    · rcases hI k hk with h1 | h1
      · exact h3 k (.inr h1)
      · exact Nat.le_trans hB.size h1
  · rcases hE k e with h1 | h1
    · exact (h4 k hk).1 h1
    · have := hlt k hk; omega
  · rcases hI k e with h1 | h1
    · exact (h4 k hk).2 h1
    · have := hlt k hk; omega
theorem live_read (n : Nat) (hd : S.dead = false) (hn : n < S.pages.length) : Calls Try.prog 15 #[.pointer (some ⟨g, 0, none⟩), .int .i64 (n : Int)] w (TellsB w 512 (pageNow S n)) := by
  obtain ⟨⟨x, rfl, hD, h3, h4⟩, hB, hlt, hf⟩ := h
  exact read_does hD n hd hn
theorem live_log (hd : S.dead = false) : Calls Try.prog 18 #[.pointer (some ⟨g, 0, none⟩)] w (TellsB w S.log.length S.log) := by
  obtain ⟨⟨x, rfl, hD, h3, h4⟩, hB, hlt, hf⟩ := h
  exact log_does hD hd
theorem live_marked (hd : S.dead = false) : Calls Try.prog 32 #[.pointer (some ⟨g, 0, none⟩)] w (TellsB w S.mark.length S.mark) := by
  obtain ⟨⟨x, rfl, hD, h3, h4⟩, hB, hlt, hf⟩ := h
  exact marked_does hD hd
theorem live_dead : Calls Try.prog 20 #[.pointer (some ⟨g, 0, none⟩)] w fun e w' => e = .returned (.bool S.dead) ∧ w = w' := by
  obtain ⟨⟨x, rfl, hD, h3, h4⟩, hB, hlt, hf⟩ := h
  exact dead_any hD
theorem live_pages : Calls Try.prog 21 #[.pointer (some ⟨g, 0, none⟩)] w fun e w' => e = .returned (.int .i64 (S.pages.length : Int)) ∧ w = w' := by
  obtain ⟨⟨x, rfl, hD, h3, h4⟩, hB, hlt, hf⟩ := h
  exact pages_any hD
theorem live_room : Calls Try.prog 22 #[.pointer (some ⟨g, 0, none⟩)] w fun e w' => e = .returned (.int .i64 (S.room : Int)) ∧ w = w' := by
  obtain ⟨⟨x, rfl, hD, h3, h4⟩, hB, hlt, hf⟩ := h
  exact room_any hD
theorem live_certain : Calls Try.prog 30 #[.pointer (some ⟨g, 0, none⟩)] w fun e w' => e = .returned (.int .i64 (S.kept : Int)) ∧ w = w' := by
  obtain ⟨⟨x, rfl, hD, h3, h4⟩, hB, hlt, hf⟩ := h
  exact certain_any hD
theorem live_ops : Calls Try.prog 33 #[.pointer (some ⟨g, 0, none⟩)] w fun e w' => e = .returned (.int .i64 (S.ops : Int)) ∧ w = w' := by
  obtain ⟨⟨x, rfl, hD, h3, h4⟩, hB, hlt, hf⟩ := h
  exact ops_any hD
theorem live_crash {a : Option Addr} {n cap : Nat} {zs : List Nat} (hb : BytesAt w a zs) (hl : zs.length = n) (hn : n ≤ maxLen) : Calls Try.prog 14 #[.pointer (some ⟨g, 0, none⟩), .slice a n cap] w
    (fun e w' => ∃ g', e = .returned (.pointer (some ⟨g', 0, none⟩)) ∧ Live w0 w' (leftOf zs S) g' A ∧ Below w.heap.size w w' ∧ w.heap.size ≤ g') := by
  obtain ⟨⟨x, rfl, hD, h3, h4⟩, hB, hlt, hf⟩ := h
  refine (crash_does hD hb hl hn).mono ?_
  intro e w' hs
  exact live_new hs (fun k hk => h3 k (.inr hk)) hB (fun _ => rfl) (fun k hk => ⟨hlt k hk, (h4 k hk).2⟩)
end
/-- What was told reads as bytes, in a block that is new. -/
theorem tells_bytes {w w' : World} {n : Nat} {l : List Nat} {e : Ending} (h : TellsB w n l e w') (hz : ∀ c ∈ l, c < 256) : ∃ b off cap, e = .returned (.tuple #[.slice (some ⟨b, off, none⟩) n cap, .int .i64 0]) ∧ Slc w' (some b) 1 (.slice (some ⟨b, off, none⟩) n cap) n (u8s l) ∧ BytesAt w' (some ⟨b, off, none⟩) l ∧ l.length = n ∧ Below w.heap.size w w' ∧ w.heap.size ≤ b ∧ b < w'.heap.size := by
  obtain ⟨ao, cap, bo, rfl, hs, hb, hbo, hnew⟩ := h
  obtain ⟨b, rfl⟩ := Option.isSome_iff_exists.1 hbo
  have hbytes := slc_bytes hs hz
  have hlt := slc_lt hs b rfl
  have hs' := hs
  obtain ⟨h1, h2, ⟨h3, _⟩ | ⟨b', off, cap', e1, e2, _⟩⟩ := hs
  · cases h3
  · cases e1
    cases e2
    exact ⟨b, off, cap, rfl, hs', hbytes, by have := h1; simpa [u8s] using this, hb, hnew b rfl, hlt⟩
end Go.Proofs.Ytikcanbhdickgaa
