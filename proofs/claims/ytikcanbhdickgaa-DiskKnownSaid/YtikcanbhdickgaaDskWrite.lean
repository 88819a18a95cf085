/- A page is written: what becomes of a device. -/
import Derived.Test.YtikcanbhdickgaaDskRead
namespace Go.Proofs.Ytikcanbhdickgaa
open Go.ChangeShapes Go.WideShapes Go.ChangeAt Go.RowKit

theorem own_isMap {w : World} {b n : Nat} {D : DataW Value} (h : w.ownsMap Try.prog 3 asIs b n D) : Go.Maps.IsMap D := by
  obtain ⟨es, clock, _, _, _, rfl⟩ := h
  exact ⟨_, rfl⟩
theorem natKey_ne {m n : Nat} (h : m ≠ n) : (Lit.int .i64 (m : Int)) ≠ .int .i64 (n : Int) := fun e => h (by injection e with _ e; omega)
/-- One write more is in the map. -/
theorem dlast_put {w w' : World} {mb cnt np : Nat} {D : DataW Value} {wl : List (Nat × Nat × List Nat)} (h : DLast w mb cnt D np wl) {n pb : Nat} {l : List Nat} (hn : n < np) (ho : w'.ownsMap Try.prog 3 asIs mb (cnt + 1) (D.put (.int .i64 (n : Int)) (.held (ptr (some pb))))) :
    DLast w' mb (cnt + 1) (D.put (.int .i64 (n : Int)) (.held (ptr (some pb)))) np (wl ++ [(n, pb, l)]) := by
  have hk : WideAt.IsKeyLit (.int .i64 (n : Int)) := by first | exact trivial | (simp [WideAt.IsKeyLit]) | decide
  refine ⟨ho, fun m => ?_, fun kl hkl => ?_, by rw [List.length_append]; have := h.few; simp; omega⟩
  · rw [lastB_snoc]
    by_cases e : n = m
    · subst e
      rw [if_pos rfl, Go.Maps.atKey_put_same (own_isMap h.own) hk]
    · rw [if_neg e, Go.Maps.atKey_put_other (natKey_ne (fun e' => e e'.symm))]
      exact h.at' m
  · by_cases e : kl = .int .i64 (n : Int)
    · subst e
      exact ⟨n, hn, rfl, by rw [lastB_snoc, if_pos rfl]; rfl⟩
    · rw [Go.Maps.has_put_other e] at hkl
      obtain ⟨m, h1, rfl, h3⟩ := h.has kl hkl
      refine ⟨m, h1, rfl, ?_⟩
      rw [lastB_snoc]
      split
      · rfl
      · exact h3
theorem wcells_snoc (wl : List (Nat × Nat × List Nat)) (n pb : Nat) (l : List Nat) : wcells (wl ++ [(n, pb, l)]) = wcells wl ++ [.int .i64 (n : Int), ptr (some pb)] := by simp [wcells]
section
variable {w w' : World} {S : Dsk} {x : Gh}
theorem dev_write (h : Dev w S x) (ht : Turned (fun k => k = x.g ∨ k = x.mb ∨ x.wb = some k) w w') {n pb : Nat} {l : List Nat} {bo : Option Nat} {wv' : Value} {D' : DataW Value} (hn : n < x.P.length) (hlf : Leaf w' pb l) (hpb : ¬ Ex x pb) (hps : pb < w.heap.size)
    (hc : Cells w' x.g 68 #[x.sv, .map (some x.mb), wv', tornV x.T, x.lv, .int .i64 (S.room : Int), .int .i64 (S.kept : Int), x.hv, x.kv, .bool S.fuse.isSome, .int .i64 x.left, .int .i64 (S.ops : Int), .bool S.dead])
    (hL : DLast w' x.mb (x.cnt + 1) D' x.P.length (x.wl ++ [(n, pb, l)])) (hs : Slc w' bo 2 wv' (x.wl.length + 1) (wcells (x.wl ++ [(n, pb, l)]))) (hbo : bo = x.wb ∨ ∀ b, bo = some b → w.heap.size ≤ b) (hops : S.wait.length + 1 ≤ S.ops) :
    Dev w' { S with wait := S.wait ++ [(n, l)] } { x with wb := bo, wv := wv', wl := x.wl ++ [(n, pb, l)], D := D', cnt := x.cnt + 1, I := fun k => x.I k ∨ k = pb } := by
  obtain ⟨a1, a2, a3, a4, a5, a6, a7, a8, a9, a10⟩ := h.apart
  have hsz := dev_size h
  have hI : ∀ k, x.I k → w'.heap[k]? = w.heap[k]? := fun k hk => ht.block k (h.out k hk).2.2.2.2.2 (fun e => by
    obtain ⟨o1, o2, _, o4, _⟩ := h.out k hk
    rcases e with e | e | e
    · exact o1 e
    · exact o2 e
    · exact o4 e)
  have hS : ∀ b, x.sb = some b → w'.heap[b]? = w.heap[b]? := fun b e => ht.block b (hsz b (.inr (.inr (.inl e)))) (fun e' => by
    rcases e' with e' | e' | e'
    · exact a2 (by rw [e, e'])
    · exact a3 (by rw [e, e'])
    · rcases a8 with a | a
      · rw [a] at e; cases e
      · exact a (by rw [e, e']))
  have hLg : ∀ b, x.lb = some b → w'.heap[b]? = w.heap[b]? := fun b e => ht.block b (hsz b (.inr (.inr (.inr (.inr e))))) (fun e' => by
    rcases e' with e' | e' | e'
    · exact a6 (by rw [e, e'])
    · exact a7 (by rw [e, e'])
    · rcases a10 with a | a
      · rw [a] at e'; cases e'
      · exact a (by rw [e, e']))
  have hno : ∀ k, k < w.heap.size → x.wb ≠ some k → bo ≠ some k := fun k hk hne e => by
    rcases hbo with e' | e'
    · exact hne (by rw [← e', e])
    · have := e' k e; omega
  have hSu := dsure_kept h.sure ht.size hS hI
  have hT := dtorn_kept h.torn hI
  have hnI : ∀ k, x.I k ∨ k = pb → ¬ Ex x k := fun k hk => by
    rcases hk with hk | rfl
    · exact dev_out h hk
    · exact hpb
  exact {
    cells := hc
    sure := ⟨hSu.slc, fun p hp => by
      rcases hSu.leaf p hp with h1 | ⟨b, h1, h2, h3⟩
      · exact .inl h1
      · exact .inr ⟨b, h1, h2, .inl h3⟩, hSu.is, hSu.few⟩
    last := hL
    wait := ⟨by rw [List.length_append]; exact hs, fun y hy => by
      rcases List.mem_append.1 hy with hy | hy
      · obtain ⟨h1, h2, h3⟩ := h.wait.leaf y hy
        exact ⟨h1, leaf_kept h2 (hI _ h3), .inl h3⟩
      · obtain rfl := List.mem_singleton.1 hy
        exact ⟨hn, hlf, .inr rfl⟩, by rw [List.map_append, h.wait.is]; rfl⟩
    torn := ⟨fun t ht => by obtain ⟨h1, h2, h3, h4, h5⟩ := hT.at' t ht; exact ⟨h1, .inl h2, h3, .inl h4, h5⟩, hT.is⟩
    log := dbyte_kept h.log ht.size hLg
    half := dbyte_kept h.half ht.size (fun b e => hI b (h.keptI.1 b e))
    mark := dbyte_kept h.mark ht.size (fun b e => hI b (h.keptI.2 b e))
    keptI := ⟨fun b e => .inl (h.keptI.1 b e), fun b e => .inl (h.keptI.2 b e)⟩
    num := ⟨h.num.1, h.num.2.1, h.num.2.2.1, h.num.2.2.2.1, h.num.2.2.2.2.1, by rw [List.length_append]; exact hops⟩
    left := h.left
    apart := ⟨a1, a2, a3, hno _ (hsz _ (.inl rfl)) a4, hno _ (hsz _ (.inr (.inl rfl))) a5, a6, a7, by
      cases hsb : x.sb with
      | none => exact .inl rfl
      | some b => exact .inr (fun e => hno b (hsz b (.inr (.inr (.inl hsb)))) (fun e' => by
          rcases a8 with a | a
          · rw [a] at hsb; cases hsb
          · exact a (by rw [hsb, e'])) e.symm), a9, by
      cases hbo' : bo with
      | none => exact .inl rfl
      | some b => exact .inr (fun e => hno b (hsz b (.inr (.inr (.inr (.inr e.symm))))) (fun e' => by
          rcases a10 with a | a
          · rw [a] at e'; cases e'
          · exact a (e'.trans e)) hbo')⟩
    out := fun k hk => by
      have h6 : k < w.heap.size := by
        rcases hk with hk | rfl
        · exact (h.out k hk).2.2.2.2.2
        · exact hps
      have hne := hnI k hk
      exact ⟨fun e => hne (.inl e), fun e => hne (.inr (.inl e)), fun e => hne (.inr (.inr (.inl e))), hno k h6 (fun e => hne (.inr (.inr (.inr (.inl e))))), fun e => hne (.inr (.inr (.inr (.inr e)))), Nat.lt_of_lt_of_le h6 ht.size⟩ }
theorem dev_torn (h : Dev w S x) (ht : Turned (fun k => k = x.g) w w') {tb n pb : Nat} {l : List Nat} (hn : n < x.P.length) (hlf : Leaf w' pb l) (hpb : ¬ Ex x pb) (hps : pb < w.heap.size)
    (hw : Cells w' tb 72 #[.int .i64 (n : Int), ptr (some pb)]) (htb : ¬ Ex x tb) (hts : tb < w.heap.size)
    (hc : Cells w' x.g 68 #[x.sv, .map (some x.mb), x.wv, .pointer (some ⟨tb, 0, none⟩), x.lv, .int .i64 (S.room : Int), .int .i64 (S.kept : Int), x.hv, x.kv, .bool S.fuse.isSome, .int .i64 x.left, .int .i64 (S.ops : Int), .bool S.dead]) :
    Dev w' { S with torn := some (n, l) } { x with T := some (tb, n, pb, l), I := fun k => x.I k ∨ k = pb ∨ k = tb } := by
  obtain ⟨a1, a2, a3, a4, a5, a6, a7, a8, a9, a10⟩ := h.apart
  have hI : ∀ k, x.I k → w'.heap[k]? = w.heap[k]? := fun k hk => ht.block k (h.out k hk).2.2.2.2.2 (fun e => (h.out k hk).1 e)
  have hne : ∀ {bo : Option Nat}, bo ≠ some x.g → (∀ b, bo = some b → b < w.heap.size) → ∀ b, bo = some b → w'.heap[b]? = w.heap[b]? := fun hn hs b e => ht.block b (hs b e) (fun e' => hn (by rw [e, e']))
  have hS := dsure_kept h.sure ht.size (hne a2 (slc_lt h.sure.slc)) hI
  have hW := dwait_kept h.wait ht.size (hne a4 (slc_lt h.wait.slc)) hI
  exact {
    cells := hc
    sure := ⟨hS.slc, fun p hp => by
      rcases hS.leaf p hp with h1 | ⟨b, h1, h2, h3⟩
      · exact .inl h1
      · exact .inr ⟨b, h1, h2, .inl h3⟩, hS.is, hS.few⟩
    last := dlast_kept h.last (ht.block _ h.last.own.lt (fun e => a1 e.symm))
    wait := ⟨hW.slc, fun y hy => by obtain ⟨h1, h2, h3⟩ := hW.leaf y hy; exact ⟨h1, h2, .inl h3⟩, hW.is⟩
    torn := ⟨fun t e => by cases e; exact ⟨hw, .inr (.inr rfl), hlf, .inr (.inl rfl), hn⟩, rfl⟩
    log := dbyte_kept h.log ht.size (hne a6 (slc_lt h.log.slc))
    half := dbyte_kept h.half ht.size (fun b e => hI b (h.keptI.1 b e))
    mark := dbyte_kept h.mark ht.size (fun b e => hI b (h.keptI.2 b e))
    keptI := ⟨fun b e => .inl (h.keptI.1 b e), fun b e => .inl (h.keptI.2 b e)⟩
    num := h.num
    left := h.left
    apart := h.apart
    out := fun k hk => by
      have hk' : ¬ Ex x k ∧ k < w.heap.size := by
        rcases hk with hk | rfl | rfl
        · exact ⟨dev_out h hk, (h.out k hk).2.2.2.2.2⟩
        · exact ⟨hpb, hps⟩
        · exact ⟨htb, hts⟩
      exact ⟨fun e => hk'.1 (.inl e), fun e => hk'.1 (.inr (.inl e)), fun e => hk'.1 (.inr (.inr (.inl e))), fun e => hk'.1 (.inr (.inr (.inr (.inl e)))), fun e => hk'.1 (.inr (.inr (.inr (.inr e)))), Nat.lt_of_lt_of_le hk'.2 ht.size⟩ }
end
end Go.Proofs.Ytikcanbhdickgaa
