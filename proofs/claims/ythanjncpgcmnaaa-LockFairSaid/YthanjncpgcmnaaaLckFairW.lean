/- LockFair: the walk. -/
import Derived.Test.YthanjncpgcmnaaaLckFairB
namespace Go.Proofs.Ythanjncpgcmnaaa
open Go.ChangeShapes Go.WideShapes Go.ChangeAt Go.RowKit

theorem u8_and3 (n : Nat) : bits .and .u8 (n : Int) 3 = ((n % 4 : Nat) : Int) := by
  have h3 : (BitVec.ofInt 8 3).toNat = 2 ^ 2 - 1 := by decide
  have key : (BitVec.ofInt 8 (n : Int) &&& BitVec.ofInt 8 3).toNat = ((n : Int) % ((2 ^ 8 : Nat) : Int)).toNat % 2 ^ 2 := by
    rw [BitVec.toNat_and, BitVec.toNat_ofInt, h3, Nat.and_two_pow_sub_one_eq_mod]
  show IntKind.u8.wrap ((BitVec.ofInt 8 (n : Int) &&& BitVec.ofInt 8 3).toNat : Nat) = _
  rw [key, IntWalk.u8_in _ (by omega)]
  omega
/-- Who asked so far. -/
def asked (l : List Nat) (j : Nat) : List (Nat × Nat) := (List.range j).map fun i => (2 + i, 1 + l.getD i 0 % 4)
def ids (j : Nat) : List Nat := (List.range j).map fun i => 2 + i
theorem asked_ids (l : List Nat) (j : Nat) : (asked l j).map (·.1) = ids j := by rw [asked, ids, List.map_map]; rfl
theorem asked_succ (l : List Nat) (j : Nat) : asked l (j + 1) = asked l j ++ [(2 + j, 1 + l.getD j 0 % 4)] := by rw [asked, List.range_succ, List.map_append]; rfl
theorem ids_succ (j : Nat) : ids (j + 1) = ids j ++ [2 + j] := by rw [ids, List.range_succ, List.map_append]; rfl
theorem ids_len (j : Nat) : (ids j).length = j := by rw [ids, List.length_map, List.length_range]
theorem not_ids {j : Nat} : 2 + j ∉ ids j := fun h => by
  obtain ⟨i, h1, h2⟩ := List.mem_map.1 h
  have := List.mem_range.1 h1; omega
/-- One more asks, and waits. -/
theorem ask_fair {w0 w : World} {g : Nat} {S : St} {N : Nat} {A : Nat → Prop} (L : Live w0 w g S N A) {l : List Nat} {j m : Nat} (F : Fair S [1] (asked l j)) (hx : S.hold nA 1 = 4) (hm : 1 ≤ m ∧ m ≤ 4) (hN : N + 20 < 1099511627776) (hj : j < 1000) :
    Calls Try.prog 13 #[.pointer (some ⟨g, 0, none⟩), .int .u64 ((2 + j : Nat) : Int), .string { data := #[97] }, .int .i64 (m : Int)] w (Goes w0 w g (lined S (2 + j) nA m) (N + 5) A (.int .i64 10)) := by
  have hw : (S.waits (2 + j)).2 = 0 := F.free _ (by rw [asked_ids]; exact not_ids)
  have hh : S.hold nA (2 + j) = 0 := Classical.byContradiction fun h => by
    have := (F.hold _).1 h
    rw [List.mem_singleton] at this; omega
  have htop : 2 + j < top := by unfold top; omega
  by_cases hq : S.queue nA = []
  · refine live_does L (fun x T => ask_new T (2 + j) nA m hN htop (by omega) nA_size (isM_mode hm) hw hh hm hq (fun hl => ?_))
    have := hl 1 (by omega) (by rw [hx]; decide)
    rw [hx] at this
    rcases mode_cases hm with rfl | rfl | rfl | rfl <;> revert this <;> decide
  · exact live_does L (fun x T => ask_line T (2 + j) nA m hN htop (by omega) nA_size (isM_mode hm) hw hh hm hq)
theorem hold_lined {S : St} {o m : Nat} : (lined S o nA m).hold = S.hold := rfl
theorem fair_more {S : St} {l : List Nat} {j : Nat} (F : Fair S [1] (asked l j)) : Fair (lined S (2 + j) nA (1 + l.getD j 0 % 4)) [1] (asked l (j + 1)) := by
  rw [asked_succ]
  exact fair_lined F (by rw [List.mem_singleton]; omega) (by rw [asked_ids]; exact not_ids) (by omega)
/-- While they ask. -/
structure Asks (w0 w : World) (g : Nat) (l : List Nat) (j : Nat) (S : St) (r : Nat → RowN) (v : Value) : Prop where
  run : Run w0 w g S (5 + 5 * j) r
  fair : Fair S [1] (asked l j)
  hold : S.hold nA 1 = 4
  val : (r 4).2.1 = v
  list : (r 4).2.2 = ids j
  rest : ∀ i, i ≠ 4 → r i = nilR
theorem asks_step {w0 w w4 w5 : World} {g : Nat} {l : List Nat} {j : Nat} {S : St} {r : Nat → RowN} {v : Value} (h : Asks w0 w g l j S r v) {x : Value} {e : Ending} (hg : Goes w0 w g (lined S (2 + j) nA (1 + l.getD j 0 % 4)) (5 + 5 * j + 5) (fun k => ∃ i, (r i).1 = some k) x e w4)
    {cs : Array Value} {t : TypeId} {bo5 : Option Nat} {v5 : Value} (h1 : Slc w5 bo5 1 v5 (j + 1) (u64s (ids j) ++ u64s [2 + j])) (h2 : Turned (fun k => (r 4).1 = some k) (w4.alloc (.cells cs t)) w5) (h3 : bo5 = (r 4).1 ∨ bo5 = some (w4.alloc (.cells cs t)).heap.size) :
    Asks w0 w5 g l (j + 1) (lined S (2 + j) nA (1 + l.getD j 0 % 4)) (upd r 4 (bo5, v5, ids (j + 1))) v5 where
  run := by
    rw [show 5 + 5 * (j + 1) = 5 + 5 * j + 5 from by omega]
    refine run_set (run_below (run_goes h.run hg) (below_alloc w4 _)) 4 h2 (fun k e => e) ?_ (fun b e => ?_)
    · rw [ids_len, ids_succ, show u64s (ids j ++ [2 + j]) = u64s (ids j) ++ u64s [2 + j] from List.map_append]; exact h1
    · rcases h3 with h3 | h3
      · exact .inl (h3 ▸ e)
      · rw [h3] at e; cases e; exact .inr (Nat.le_refl _)
  fair := fair_more h.fair
  hold := h.hold
  val := by rw [upd_same]
  list := by rw [upd_same]
  rest := fun i hi => by rw [upd_other _ _ hi]; exact h.rest i hi
theorem asks_done {w0 w : World} {g : Nat} {l : List Nat} {j : Nat} {S : St} {r : Nat → RowN} {v : Value} (h : Asks w0 w g l j S r v) : Done S nA := by
  cases j with
  | zero => exact .inl h.fair.queue
  | succ j =>
    refine .inr ⟨2 + 0, 1 + l.getD 0 0 % 4, (asked l (j + 1)).tail, ?_, fun hl => ?_⟩
    · rw [h.fair.queue, asked, List.range_succ_eq_map]; rfl
    · have := hl 1 (by omega) (by rw [h.hold]; decide)
      rw [h.hold] at this
      obtain ⟨k, hk⟩ : ∃ k, k = l.getD 0 0 % 4 := ⟨_, rfl⟩
      rw [← hk] at this
      have hk4 : k < 4 := by omega
      rcases mode_cases (m := 1 + k) (by omega) with e | e | e | e <;> rw [e] at this <;> revert this <;> decide
theorem run_app {w0 w w' : World} {g : Nat} {S : St} {N : Nat} {r : Nat → RowN} (h : Run w0 w g S N r) (i : Nat) {n m : Nat} {l0 ys : List Nat} {b0 bo : Option Nat} {v : Value} (hl : (r i).2.2 = l0) (hb : (r i).1 = b0) (hn : n = l0.length) (hm : m = ys.length) (h1 : Slc w' bo 1 v (n + m) (u64s l0 ++ u64s ys)) (h2 : Turned (fun k => b0 = some k) w w') (h3 : bo = b0 ∨ bo = some w.heap.size) :
    Run w0 w' g S N (upd r i (bo, v, l0 ++ ys)) := by
  subst hn hm hl hb
  refine run_set h i h2 (fun k e => e) ?_ (fun b e => ?_)
  · rw [List.length_append, show u64s ((r i).2.2 ++ ys) = u64s (r i).2.2 ++ u64s ys from List.map_append]; exact h1
  · rcases h3 with h3 | h3
    · exact .inl (h3 ▸ e)
    · rw [h3] at e; cases e; exact .inr (Nat.le_refl _)
theorem ids_small {K o : Nat} (h : o ∈ ids K) (hK : K ≤ 40) : o < 100 := by
  obtain ⟨i, h1, h2⟩ := List.mem_map.1 h
  have := List.mem_range.1 h1; omega
/-- While they give up. -/
structure Fre (w0 w : World) (g N K : Nat) (S : St) (r : Nat → RowN) (hs : List Nat) (q : List (Nat × Nat)) (v4 : Value) : Prop where
  run : Run w0 w g S N r
  fair : Fair S hs q
  done : Done S nA
  want : (r 4).2.2 = ids K
  got : (r 6).2.2 ++ q.map (·.1) = ids K
  small : ∀ o ∈ hs, o < 100
  val : (r 4).2.1 = v4
structure Mid2 (w0 w : World) (g N K : Nat) (S : St) (r : Nat → RowN) (hs outs : List Nat) (q : List (Nat × Nat)) (v4 : Value) : Prop where
  run : Run w0 w g S N r
  fair : Fair S (hs ++ outs) q
  done : Done S nA
  want : (r 4).2.2 = ids K
  got : (r 6).2.2 ++ outs ++ q.map (·.1) = ids K
  small : ∀ o ∈ hs ++ outs, o < 100
  val : (r 4).2.1 = v4
  ten : (r 10).2.2 = outs
theorem fre_len {w0 w : World} {g N K : Nat} {S : St} {r : Nat → RowN} {hs : List Nat} {q : List (Nat × Nat)} {v4 : Value} (h : Fre w0 w g N K S r hs q v4) : (r 6).2.2.length + q.length = K := by
  have := congrArg List.length h.got
  rw [List.length_append, List.length_map, ids_len] at this
  exact this
theorem fre_free {w0 w : World} {g N K : Nat} {S : St} {r : Nat → RowN} {id : Nat} {hs : List Nat} {q : List (Nat × Nat)} {v4 : Value} (h : Fre w0 w g N K S r (id :: hs) q v4) (hN : N < 1099511627776) (hK : K ≤ 40) :
    Calls Try.prog 16 #[.pointer (some ⟨g, 0, none⟩), .int .u64 (id : Int)] w fun e w' => ∃ S' q' outs v bo, e = .returned v ∧ Mid2 w0 w' g N K S' (upd r 10 (bo, v, outs)) hs outs q' v4 := by
  have hl := fre_len h
  have hid := h.small id (by simp)
  refine (run_free h.run 10 hN h.fair (by omega) (by unfold top; omega)).mono ?_
  rintro e w' ⟨S', q', outs, v, bo, rfl, F', e1, hd, hr⟩
  refine ⟨S', q', outs, v, bo, rfl, hr, F', hd, ?_, ?_, fun o ho => ?_, ?_, ?_⟩
  · rw [upd_other _ _ (by decide)]; exact h.want
  · rw [upd_other _ _ (by decide), List.append_assoc, ← e1]; exact h.got
  · rcases List.mem_append.1 ho with ho | ho
    · exact h.small o (by simp [ho])
    · refine ids_small (K := K) ?_ hK
      rw [← h.got, e1]
      simp [ho]
  · rw [upd_other _ _ (by decide)]; exact h.val
  · rw [upd_same]
theorem fre_step {w0 w2 w4 : World} {g N K : Nat} {S : St} {r : Nat → RowN} {hs outs : List Nat} {q : List (Nat × Nat)} {v4 : Value} (h : Mid2 w0 w2 g N K S r hs outs q v4) {b3 b5 : Option Nat} {v3 v5 : Value}
    (h4 : Run w0 w4 g S N (upd (upd r 6 (b3, v3, (r 6).2.2 ++ outs)) 8 (b5, v5, (r 8).2.2 ++ outs))) : Fre w0 w4 g N K S (upd (upd r 6 (b3, v3, (r 6).2.2 ++ outs)) 8 (b5, v5, (r 8).2.2 ++ outs)) (hs ++ outs) q v4 :=
  ⟨h4, h.fair, h.done, by rw [upd_other _ _ (by decide), upd_other _ _ (by decide)]; exact h.want, by rw [upd_other _ _ (by decide), upd_same]; exact h.got, h.small, by rw [upd_other _ _ (by decide), upd_other _ _ (by decide)]; exact h.val⟩
theorem fre_move {w0 w : World} {g N K : Nat} {S : St} {r : Nat → RowN} {hs : List Nat} {q : List (Nat × Nat)} {v4 : Value} (h : Fre w0 w g N K S r hs q v4) : Fre w0 w g N K S (upd (upd r 7 (r 8)) 8 nilR) hs q v4 :=
  ⟨run_move h.run (by decide), h.fair, h.done, by rw [upd_other _ _ (by decide), upd_other _ _ (by decide)]; exact h.want, by rw [upd_other _ _ (by decide), upd_other _ _ (by decide)]; exact h.got, h.small, by rw [upd_other _ _ (by decide), upd_other _ _ (by decide)]; exact h.val⟩
theorem fre_start {w0 w : World} {g : Nat} {l : List Nat} {j : Nat} {S : St} {r : Nat → RowN} {v : Value} (h : Asks w0 w g l j S r v) :
    Fre w0 (w.alloc (.cells #[.int .u64 1] 27)) g (5 + 5 * j) j S (upd r 7 (some w.heap.size, .slice (some ⟨w.heap.size, 0, none⟩) 1 1, [1])) [1] (asked l j) v := by
  have hc := cells_new w 27 #[.int .u64 1]
  refine ⟨run_set h.run 7 (E := fun _ => False) ((Turned.refl _ w).alloc _) (fun k e => e.elim) (slc_one hc rfl) (fun b e => by cases e; exact .inr (Nat.le_refl _)), h.fair, asks_done h, ?_, ?_, fun o ho => by simp at ho; omega, ?_⟩
  · rw [upd_other _ _ (by decide)]; exact h.list
  · rw [upd_other _ _ (by decide), h.rest 6 (by decide), asked_ids]; rfl
  · rw [upd_other _ _ (by decide)]; exact h.val
theorem fre_round {w0 w2 w4 : World} {g N K : Nat} {S : St} {r : Nat → RowN} {tl gl ml outs : List Nat} {q : List (Nat × Nat)} {v4 : Value} (h : Mid2 w0 w2 g N K S r (tl ++ ml) outs q v4) (e6 : (r 6).2.2 = gl) (e8 : (r 8).2.2 = ml) {b3 b5 : Option Nat} {v3 v5 : Value}
    (h4 : Run w0 w4 g S N (upd (upd r 6 (b3, v3, gl ++ outs)) 8 (b5, v5, ml ++ outs))) {R7 : RowN} (e7 : r 7 = R7) {G : Nat} (hG : gl.length = G + ml.length) :
    ∃ r4, Fre w0 w4 g N K S r4 (tl ++ (r4 8).2.2) q v4 ∧ r4 7 = R7 ∧ (r4 6).2.1 = v3 ∧ (r4 8).2.1 = v5 ∧ (r4 6).2.2.length = G + (r4 8).2.2.length := by
  subst e8 e6
  refine ⟨upd (upd r 6 (b3, v3, (r 6).2.2 ++ outs)) 8 (b5, v5, (r 8).2.2 ++ outs), ?_, ?_, ?_, ?_, ?_⟩
  · have := fre_step h h4
    rw [List.append_assoc] at this
    rw [upd_same]; exact this
  · rw [upd_other _ _ (by decide), upd_other _ _ (by decide)]; exact e7
  · rw [upd_other _ _ (by decide), upd_same]
  · rw [upd_same]
  · rw [upd_other _ _ (by decide), upd_same, upd_same]
    simp only [List.length_append]
    omega
theorem mid_len {w0 w : World} {g N K : Nat} {S : St} {r : Nat → RowN} {hs outs : List Nat} {q : List (Nat × Nat)} {v4 : Value} (h : Mid2 w0 w g N K S r hs outs q v4) : (r 6).2.2.length + outs.length ≤ K := by
  have := congrArg List.length h.got
  rw [List.length_append, List.length_append, List.length_map, ids_len] at this
  omega
def lenOf : Value → Nat
  | .slice _ n _ => n
  | _ => 0
theorem lenOf_slc {w : World} {bo : Option Nat} {n : Nat} {v : Value} {xs : List Value} (h : Slc w bo 1 v n xs) : lenOf v = n := by
  obtain ⟨a, c, rfl, _⟩ := slc_form h
  rfl
set_option maxRecDepth 100000 in
set_option maxHeartbeats 4000000 in
theorem fair_walk (a : Option Addr) (cap : Nat) (l : List Nat) (w : World) (hi : In w a cap l) : Calls Try.prog 8 #[.slice a l.length cap] w fun e w' => e = .returned (.bool true) ∧ Below w.heap.size w w' := by
  have HA := Lib.hid awake_any
  have HI := Lib.hid hi
  have hlen : l.length ≤ 140737488351232 := hi.2.2
  obtain ⟨iu, RU⟩ := rowU64
  have HRU := Lib.hid RU
  obtain ⟨n, hn⟩ : ∃ n, n = l.length := ⟨_, rfl⟩
  rw [← hn] at hlen ⊢
  have HN := Lib.hid hn
  clear hi RU hn
  go_enter Try.func8, Try.ntmps8
  have H1 : Hid (∀ g w1, Live w w1 g S0 0 (fun _ => False) → Calls Try.prog 13 #[.pointer (some ⟨g, 0, none⟩), .int .u64 1, .string { data := #[97] }, .int .i64 4] w1 (Goes w w1 g (granted S0 1 nA 4) 5 (fun _ => False) (.int .i64 0))) := Lib.hid (fun g w1 h => live_does h (fun x H => ask_first H 1 nA 4 (by decide) (by decide) (by decide) nA_size (by decide) rfl rfl rfl (by decide) (fun a _ h0 => absurd rfl h0)))
  go_wp2_with (first
    | (go_at_call 12; refine (HA.out _).mono ?_; rintro e w1 ⟨rfl, hb⟩; have B1 := Lib.hid hb; clear hb)
    | (go_at_call 11; refine (live_new w _ B1.out (fun _ => False) (fun _ h => h.elim)).mono ?_; rintro e w2 ⟨g, rfl, h2, -, -⟩; have L0 := Lib.hid h2; clear h2 B1)
    | (go_at_call 13; refine (H1.out _ _ L0.out).mono ?_; rintro e w3 ⟨rfl, h3, -⟩; have HS := Lib.hid (Asks.mk (l := l) (j := 0) (v := .slice none 0 0) (run_start h3) fair_start (by decide) rfl rfl (fun _ _ => rfl)); clear h3 L0))
  go_loopw [4, 5] (fun v i wr => ∃ (j : Nat) (S : St) (r : Nat → RowN), j ≤ n ∧ j ≤ 40 ∧ i = .int .i64 (j : Int) ∧ Hid (Asks w wr g l j S r v)) (fun _ i _ => n - (intOf i).toNat)
  case atStart => exact ⟨0, _, _, Nat.zero_le _, Nat.zero_le _, rfl, HS⟩
  case round =>
    obtain ⟨j, S, r, hj, hj4, rfl, hs⟩ := hrel
    by_cases hlt : j < n ∧ j < 40
    · obtain ⟨hlt, hlt4⟩ := hlt
      have hjl : j < l.length := by rw [← HN.out]; exact hlt
      obtain ⟨b, off, rfl, hc⟩ := (bytes_below HI.out.1 hs.out.run.live.below).2.2 j hjl
      obtain ⟨m, hm⟩ : ∃ m, m = 1 + l[j] % 4 := ⟨_, rfl⟩
      have hgd : l.getD j 0 = l[j] := by rw [List.getD_eq_getElem?_getD, List.getElem?_eq_getElem hjl]; rfl
      have hm2 : m = 1 + l.getD j 0 % 4 := by rw [hgd]; exact hm
      have hm4 : 1 ≤ m ∧ m ≤ 4 := by omega
      have hand := u8_and3 l[j]
      obtain ⟨k, hk⟩ : ∃ k, k = l[j] % 4 := ⟨_, rfl⟩
      rw [← hk] at hand hm
      have hk4 : k < 4 := by omega
      have em : (1 : Int) + (k : Int) = (m : Int) := by omega
      obtain ⟨o, ho⟩ : ∃ o, o = 2 + j := ⟨_, rfl⟩
      have eo : (2 : Int) + (j : Int) = (o : Int) := by omega
      have HK := Lib.hid (ask_fair hs.out.run.live hs.out.fair hs.out.hold hm4 (by omega) (by omega))
      have HST := Lib.hid (@asks_step w wr · · g l j S r _ hs.out)
      rw [← ho, ← hm2] at HST
      rw [← ho] at HK
      generalize l[j] = z at hc hand
      clear hgd hm2 hm hk ho hjl
      go_wp2_with (first
        | (go_at_call 13; refine HK.out.mono ?_; rintro e w4 hg; obtain rfl := hg.1; have HG := Lib.hid hg; have hsl := (run_goes hs.out.run hg).slc 4; rw [hs.out.val, hs.out.list, ids_len] at hsl; have HSL := Lib.hid hsl; clear hg hsl)
        | (refine wpList_slc HRU.out rfl (.tmp 40) (.tmp 44) 29 rfl rfl rfl (slc_below HSL.out (below_alloc w4 (.cells #[.int .u64 (o : Int)] 27))) (u64_src ((cell_of_row _ _ 0 _ _ _ (cells_new w4 27 #[.int .u64 (o : Int)])).trans rfl)) rfl (by unfold maxLen; omega) (by omega) ?_; intro ao5 cap5 bo5 w5 g1 g2 g3; have HS5 := Lib.hid (HST.out _ _ HG.out g1 g2 g3); clear g1 g2 g3))
      go_roundw
      case rel => exact ⟨j + 1, _, _, by omega, by omega, by go_num, HS5⟩
      case measure => simp [intOf]; omega
    · have HW := Lib.hid (⟨_, _, hs.out⟩ : ∃ S r, Asks w wr g l j S r _)
      have HJ : j ≤ 40 := hj4
      clear hj4 HI HS H1
      by_cases hlt1 : j < n
      all_goals
        first | (have hlt4 : ¬ j < 40 := fun h => hlt ⟨hlt1, h⟩; clear hlt) | clear hlt
        go_wp2
        obtain ⟨S, r, hs⟩ := HW.out
        have HF0 := Lib.hid (fre_start hs)
        have HR6 : Hid (r 6 = nilR) := Lib.hid (hs.rest 6 (by decide))
        have HR8 : Hid (r 8 = nilR) := Lib.hid (hs.rest 8 (by decide))
        clear hs
        go_loopw [6, 7] (fun v6 v7 wq => ∃ (S : St) (r : Nat → RowN) (q : List (Nat × Nat)), Hid (Fre w wq g (5 + 5 * j) j S r (r 7).2.2 q u4) ∧ (r 6).2.1 = v6 ∧ (r 7).2.1 = v7 ∧ r 8 = nilR) (fun v6 v7 _ => (j - lenOf v6) + lenOf v7)
        case atStart => exact ⟨S, _, _, HF0, by rw [upd_other _ _ (by decide), HR6.out]; rfl, by rw [upd_same], by rw [upd_other _ _ (by decide), HR8.out]⟩
        case round =>
          obtain ⟨S, r, q, hf, h6, h7, h8⟩ := hrel
          have hs7 := hf.out.run.slc 7
          have hs6 := hf.out.run.slc 6
          rw [h7] at hs7
          rw [h6] at hs6
          have hm6 := lenOf_slc hs6
          have hm7 := lenOf_slc hs7
          obtain ⟨nx, hnx⟩ : ∃ nx, nx = (r 7).2.2 := ⟨_, rfl⟩
          rw [← hnx] at hs7 hm7
          obtain ⟨n7, hn7⟩ : ∃ n7, n7 = nx.length := ⟨_, rfl⟩
          rw [← hn7] at hs7 hm7
          obtain ⟨a7, c7, hv7, p1, p2, -⟩ := slc_form hs7
          have HM := Lib.hid (⟨hm6, hm7⟩ : lenOf u6 = (r 6).2.2.length ∧ lenOf u7 = n7)
          rw [hv7] at h7
          subst hv7
          unfold maxLen at p2
          have hf' := hf.out
          rw [← hnx] at hf'
          have HF := Lib.hid hf'
          have HNX := Lib.hid hnx; have HN7 := Lib.hid hn7; have H6 := Lib.hid h6; have H7 := Lib.hid h7; have H8 := Lib.hid h8
          clear hs7 hs6 hm6 hm7 hnx hn7 h6 h7 h8 hf hf'
          by_cases h0 : 0 < n7
          · have d0 : decide ((0 : Int) < (n7 : Int)) = true := by simp; omega
            go_wp2
            have HF1 : Hid (Fre w wr g (5 + 5 * j) j S r (nx.drop 0 ++ (r 8).2.2) q u4) := Lib.hid (by rw [H8.out]; simpa [nilR] using HF.out)
            go_loopw [6, 8, 9] (fun v6 v8 i wq => ∃ (j2 : Nat) (S : St) (r1 : Nat → RowN) (q : List (Nat × Nat)), j2 ≤ n7 ∧ i = .int .i64 (j2 : Int) ∧ Hid (Fre w wq g (5 + 5 * j) j S r1 (nx.drop j2 ++ (r1 8).2.2) q u4) ∧ Hid (r1 7 = r 7) ∧ Hid ((r1 6).2.1 = v6) ∧ Hid ((r1 8).2.1 = v8) ∧ Hid ((r1 6).2.2.length = (r 6).2.2.length + (r1 8).2.2.length)) (fun _ _ i _ => n7 - (intOf i).toNat)
            case atStart => exact ⟨0, S, r, q, Nat.zero_le _, rfl, HF1, Lib.hid rfl, H6, Lib.hid (by rw [H8.out]; rfl), Lib.hid (by rw [H8.out]; rfl)⟩
            case round =>
              obtain ⟨j2, S1, r1, q1, hj2, rfl, hf1, h71, h61, h81, hG⟩ := hrel
              by_cases hlt : j2 < n7
              · have hnj : j2 < nx.length := by rw [← HN7.out]; exact hlt
                have hs7 := hf1.out.run.slc 7
                rw [h71.out, H7.out, ← HNX.out, ← HN7.out] at hs7
                obtain ⟨b7, off7, rfl, e7⟩ := slc_at hs7 (j := j2) (u := .int .u64 (nx[j2] : Int)) (by rw [u64s, List.getElem?_map, List.getElem?_eq_getElem hnj]; rfl) hlt
                have hf2 := hf1.out
                rw [List.drop_eq_getElem_cons hnj, List.cons_append] at hf2
                generalize nx[j2] = id at e7 hf2
                have HFR := Lib.hid (fre_free hf2 (by omega) HJ)
                clear hs7 hf2 hnj
                go_wp2_with (first
                  | (go_at_call 16; refine HFR.out.mono ?_; rintro e w2 ⟨S2, q2, outs, v, bo, rfl, hm⟩; obtain ⟨r2, hr2⟩ : ∃ r2, r2 = upd r1 10 (bo, v, outs) := ⟨_, rfl⟩; have e6 : r2 6 = r1 6 := (by rw [hr2]; exact upd_other _ _ (by decide)); have e8 : r2 8 = r1 8 := (by rw [hr2]; exact upd_other _ _ (by decide)); have e77 : r2 7 = r1 7 := (by rw [hr2]; exact upd_other _ _ (by decide)); have e10 : r2 10 = (bo, v, outs) := (by rw [hr2, upd_same]); rw [← hr2] at hm; have hml := mid_len hm; have s6 := hm.run.slc 6; rw [e6, h61.out] at s6; have s10 : Slc w2 bo 1 v outs.length (u64s outs) := (by have h := hm.run.slc 10; rw [e10] at h; exact h); rw [e6] at hml; have hml := Nat.le_trans hml HJ; have HS6 := Lib.hid s6; have HS10 := Lib.hid s10; have HMM := Lib.hid hm; have E6 := Lib.hid e6; have E8 := Lib.hid e8; have E7 := Lib.hid e77; have E10 := Lib.hid e10; clear s6 s10 hm e6 e8 e77 e10 hr2)
                  | (refine wpList_slc HRU.out rfl (.tmp 62) (.tmp 63) 29 rfl rfl rfl HS6.out (slc_src Try.underlying29 HS10.out) rfl (by unfold maxLen; omega) (by omega) ?_; intro ao3 cap3 bo3 w3 g1 g2 g3; have hr3 := run_app HMM.out.run 6 (l0 := (r1 6).2.2) (ys := outs) (by rw [E6.out]) (by rw [E6.out]) rfl rfl g1 g2 g3; have s8 := hr3.slc 8; rw [upd_other _ _ (by decide), E8.out, h81.out] at s8; have s10 : Slc w3 bo 1 v outs.length (u64s outs) := (by have h := hr3.slc 10; rw [upd_other _ _ (by decide), E10.out] at h; exact h); have HS8 := Lib.hid s8; have HS11 := Lib.hid s10; have HR3 := Lib.hid hr3; clear s8 s10 hr3 g1 g2 g3)
                  | (refine wpList_slc HRU.out rfl (.tmp 65) (.tmp 66) 29 rfl rfl rfl HS8.out (slc_src Try.underlying29 HS11.out) rfl (by have := hG.out; unfold maxLen; omega) (by have := hG.out; omega) ?_; intro ao4 cap4 bo4 w4 g1 g2 g3; have hr4 := run_app HR3.out 8 (l0 := (r1 8).2.2) (ys := outs) (by rw [upd_other _ _ (by decide), E8.out]) (by rw [upd_other _ _ (by decide), E8.out]) rfl rfl g1 g2 g3; have HR4 := Lib.hid (fre_round HMM.out (by rw [E6.out]) (by rw [E8.out]) hr4 (E7.out.trans h71.out) hG.out); clear hr4 g1 g2 g3))
                go_roundw
                case rel =>
                  obtain ⟨r4, z1, z2, z3, z4, z5⟩ := HR4.out
                  exact ⟨j2 + 1, S2, r4, q2, by omega, by go_num, Lib.hid z1, Lib.hid z2, Lib.hid z3, Lib.hid z4, Lib.hid z5⟩
                case measure => simp [intOf]; omega
              · have hjn : j2 = n7 := by omega
                subst hjn
                go_wp2
                go_roundw
                case rel =>
                  refine ⟨S1, upd (upd r1 7 (r1 8)) 8 nilR, q1, Lib.hid ?_, ?_, ?_, ?_⟩
                  · have hz := fre_move hf1.out
                    rw [List.drop_of_length_le (by rw [HN7.out]; exact Nat.le_refl _), List.nil_append] at hz
                    rw [upd_other _ _ (by decide), upd_same]; exact hz
                  · rw [upd_other _ _ (by decide), upd_other _ _ (by decide)]; exact h61.out
                  · rw [upd_other _ _ (by decide), upd_same]; exact h81.out
                  · rw [upd_same]
                case measure =>
                  have k6 := hf1.out.run.slc 6
                  have k8 := hf1.out.run.slc 8
                  rw [h61.out] at k6
                  rw [h81.out] at k8
                  have m1 := HM.out.1; have m2 := HM.out.2
                  have m3 := lenOf_slc k6; have m4 := lenOf_slc k8
                  have m5 := fre_len hf1.out
                  have m6 := hG.out
                  omega
          · obtain rfl : n7 = 0 := by omega
            have hz := HF.out
            obtain rfl : nx = [] := List.eq_nil_of_length_eq_zero HN7.out.symm
            have hq := fair_end hz.fair hz.done
            have hgot := hz.got
            rw [hq, List.map_nil, List.append_nil] at hgot
            have s6 := hz.run.slc 6
            rw [H6.out, hgot, ids_len] at s6
            have s4 := hz.run.slc 4
            rw [hz.val, hz.want, ids_len] at s4
            have HNU := Lib.hid (numbers_same s6 s4 (ids_len _))
            have HBW := Lib.hid hz.run.live.below
            clear hz hq hgot s6 s4
            go_wp2_with (go_at_call 14; refine HNU.out.mono ?_; rintro e w9 ⟨rfl, hb9⟩; have HB9 := Lib.hid (HBW.out.trans (hb9.mono HBW.out.size)); clear hb9)
            go_ret
            exact ⟨rfl, HB9.out⟩
end Go.Proofs.Ythanjncpgcmnaaa
