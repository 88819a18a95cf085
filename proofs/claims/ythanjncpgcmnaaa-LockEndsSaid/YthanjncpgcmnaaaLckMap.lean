/- Maps whose contents are told by a function of the key: plain words and laws. -/
import Derived.Test.YthanjncpgcmnaaaDskSlc
import Derived.Maps.Own
import Derived.Maps.OwnOps
import Derived.Maps.OwnSet
import Derived.Maps.Views
import Derived.Maps.RangeWalk
import Derived.StringKeys
namespace Go.Proofs.Ythanjncpgcmnaaa
open Go.ChangeShapes Go.WideShapes Go.ChangeAt Go.RowKit

def ptr (o : Option Nat) : Value := .pointer (o.map fun b => ⟨b, 0, none⟩)
/-- How an element of a map of pointers reads: as itself. -/
def asIs : Value → Option (DataW Value × List MemPlace)
  | .pointer o => some (.held (.pointer o), [])
  | _ => none
theorem keysS : Go.Maps.Keyed Try.prog 9 := Go.Maps.string_keyed Try.underlying9
theorem keysU : Go.Maps.Keyed Try.prog 27 := Go.Maps.int_keyed Try.underlying27
/-- What a key reads as. -/
def kS (nm : ByteArray) : Lit := .string nm.data.toList
def kU (o : Nat) : Lit := .int .u64 (o : Int)
theorem kS_inj {a b : ByteArray} (h : kS a = kS b) : a = b := by
  simp only [kS, Lit.string.injEq] at h
  cases a; cases b
  simp only [ByteArray.mk.injEq]
  exact Array.toList_inj.1 h
theorem kU_inj {a b : Nat} (h : kU a = kU b) : a = b := by
  simp only [kU, Lit.int.injEq, true_and] at h
  omega
theorem kS_key (nm : ByteArray) : WideAt.IsKeyLit (kS nm) := trivial
theorem kU_key (o : Nat) : WideAt.IsKeyLit (kU o) := trivial
theorem hkS {nm : ByteArray} (h : nm.size ≤ maxLen) : keyOf Try.prog 9 (.string nm) = some (kS nm) := Go.WideMaps.keyOf_string_mk Try.underlying9 h
theorem wfU {o : Nat} (h : o < 18446744073709551616) : (Lit.int .u64 (o : Int)).wf = true := WalkArith.wf_u64 (by omega)
theorem hkU {o : Nat} (h : o < 18446744073709551616) : keyOf Try.prog 27 (.int .u64 (o : Int)) = some (kU o) := Go.Maps.keyOf_int_mk Try.underlying27 (wfU h)
/-- Block b is a map that holds f of each key. -/
structure MapAt {α : Type} (w : World) (K : TypeId) (R : Value → Option (DataW Value × List MemPlace)) (b n : Nat) (key : α → Lit) (ok : α → Prop) (f : α → Option (DataW Value)) : Prop where
  ex : ∃ D, w.ownsMap Try.prog K R b n D ∧ ∀ a, ok a → ∀ z, D.atKey (key a) z = (f a).getD z
section
variable {α : Type} {w : World} {K : TypeId} {R : Value → Option (DataW Value × List MemPlace)} {b n : Nat} {key : α → Lit} {ok : α → Prop} {f : α → Option (DataW Value)}
theorem MapAt.lt (h : MapAt w K R b n key ok f) : b < w.heap.size := by obtain ⟨D, h, _⟩ := h.ex; exact h.lt
theorem MapAt.kept {w' : World} (h : MapAt w K R b n key ok f) (hk : w'.heap[b]? = w.heap[b]?) : MapAt w' K R b n key ok f := by
  obtain ⟨D, ⟨es, clock, hb, hf⟩, h2⟩ := h.ex
  exact ⟨D, ⟨es, clock, hk.trans hb, hf⟩, h2⟩
theorem MapAt.mono (h : MapAt w K R b n key ok f) {n' : Nat} (hn : n ≤ n') : MapAt w K R b n' key ok f := by
  obtain ⟨D, h1, h2⟩ := h.ex
  exact ⟨D, h1.mono hn, h2⟩
theorem MapAt.congr (h : MapAt w K R b n key ok f) {f' : α → Option (DataW Value)} (he : ∀ a, ok a → f' a = f a) : MapAt w K R b n key ok f' := by
  obtain ⟨D, h1, h2⟩ := h.ex
  exact ⟨D, h1, fun a ha z => by rw [he a ha]; exact h2 a ha z⟩
theorem mapAt_made (w : World) : MapAt (w.alloc (.map #[] 0)) K R w.heap.size 0 key ok (fun _ => none) :=
  ⟨⟨_, World.ownsMap_made w _ _ _, fun _ _ _ => rfl⟩⟩
theorem MapAt.look (h : MapAt w K R b n key ok f) (KK : Go.Maps.Keyed Try.prog K) {t e : TypeId} (ht : Try.prog.underlying t = some (.map K e)) {z : Value} (hz : (zeroValue e).run Try.prog w = .ok z w) {zd : DataW Value} {zp : List MemPlace} (hzd : R z = some (zd, zp))
    {kv : Value} {a : α} (ha : ok a) (hkey : keyOf Try.prog K kv = some (key a)) : ∃ v ps, (Instr.lookup t (.map (some b)) kv false).run Try.prog w = .ok v w ∧ R v = some ((f a).getD zd, ps) := by
  obtain ⟨D, h1, h2⟩ := h.ex
  obtain ⟨v, ps, hr, hv⟩ := h1.lookup KK ht hz hzd hkey
  exact ⟨v, ps, hr, by rw [← h2 a ha]; exact hv⟩
theorem MapAt.look_ok (h : MapAt w K R b n key ok f) (KK : Go.Maps.Keyed Try.prog K) {t e : TypeId} (ht : Try.prog.underlying t = some (.map K e)) {z : Value} (hz : (zeroValue e).run Try.prog w = .ok z w) {zd : DataW Value} {zp : List MemPlace} (hzd : R z = some (zd, zp))
    {kv : Value} {a : α} (ha : ok a) (hkey : keyOf Try.prog K kv = some (key a)) : ∃ v ps, (Instr.lookup t (.map (some b)) kv true).run Try.prog w = .ok (.tuple #[v, .bool (f a).isSome]) w ∧ R v = some ((f a).getD zd, ps) := by
  obtain ⟨D, h1, h2⟩ := h.ex
  obtain ⟨v, ps, hr, hv⟩ := h1.look_ok KK ht hz hzd hkey
  have hh : Maps.has D (key a) = (f a).isSome := by
    cases hfa : f a with
    | none => exact Maps.has_false_of_atKey (fun z => by rw [h2 a ha, hfa]; rfl)
    | some d => exact Maps.has_true_of_atKey (y := d) (fun z => by rw [h2 a ha, hfa]; rfl)
  exact ⟨v, ps, by rw [← hh]; exact hr, by rw [← h2 a ha]; exact hv⟩
theorem MapAt.put (h : MapAt w K R b n key ok f) (KK : Go.Maps.Keyed Try.prog K) {t e : TypeId} (ht : Try.prog.underlying t = some (.map K e)) (hn : n < maxLen) {kv v : Value} {a : α} {d : DataW Value} {ps : List MemPlace}
    (hkey : keyOf Try.prog K kv = some (key a)) (hv : R v = some (d, ps)) (hinj : ∀ a', key a' = key a → a' = a) (hlit : WideAt.IsKeyLit (key a)) {f' : α → Option (DataW Value)} (hf1 : f' a = some d) (hf2 : ∀ a', a' ≠ a → f' a' = f a') :
    ∃ w', (Instr.mapUpdate t (.map (some b)) kv v).run Try.prog w = .ok () w' ∧ MapAt w' K R b (n + 1) key ok f' ∧ Turned (fun k => k = b) w w' := by
  obtain ⟨D, h1, h2⟩ := h.ex
  obtain ⟨w', hr, ho, hg⟩ := h1.update KK ht hn hkey hv
  refine ⟨w', hr, ⟨_, ho, fun a' ha' z => ?_⟩, ⟨hg.os, hg.tape, hg.output, hg.size, fun k hk hn => hg.block k hk (fun e => hn (by cases e; rfl))⟩⟩
  by_cases e : a' = a
  · subst e
    rw [hf1, Maps.atKey_put_same h1.isMap hlit]; rfl
  · rw [hf2 a' e, Maps.atKey_put_other (fun e' => e (hinj a' e'))]
    exact h2 a' ha' z
theorem MapAt.del (h : MapAt w K R b n key ok f) (KK : Go.Maps.Keyed Try.prog K) {t e : TypeId} (ht : Try.prog.underlying t = some (.map K e)) {kv : Value} {a : α}
    (hkey : keyOf Try.prog K kv = some (key a)) (hinj : ∀ a', key a' = key a → a' = a) (ty : TypeId) {f' : α → Option (DataW Value)} (hf1 : f' a = none) (hf2 : ∀ a', a' ≠ a → f' a' = f a') :
    ∃ w', (Builtin.delete_ #[t, K] ty #[.map (some b), kv]).run Try.prog w = .ok (.tuple #[]) w' ∧ MapAt w' K R b n key ok f' ∧ Turned (fun k => k = b) w w' := by
  obtain ⟨D, h1, h2⟩ := h.ex
  obtain ⟨w', hr, ho, ht'⟩ := h1.drop KK ht hkey ty
  have hg := ht'.grown
  refine ⟨w', hr, ⟨_, ho, fun a' ha' z => ?_⟩, ⟨hg.os, hg.tape, hg.output, hg.size, fun k hk hn => hg.block k hk (fun e => hn (by cases e; rfl))⟩⟩
  by_cases e : a' = a
  · subst e
    rw [hf1, Maps.atKey_del_same]; rfl
  · rw [hf2 a' e, Maps.atKey_del_other (fun e' => e (hinj a' e'))]
    exact h2 a' ha' z
end
end Go.Proofs.Ythanjncpgcmnaaa
