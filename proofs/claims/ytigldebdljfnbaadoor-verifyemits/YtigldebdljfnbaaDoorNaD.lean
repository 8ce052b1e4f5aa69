import Derived.Test.YtigldebdljfnbaaDoorMjB
import Derived.Deep.AppendLies
import Derived.Test.YtigldebdljfnbaaDoorNaC
import Derived.Test.YtigldebdljfnbaaDoorNaF
namespace Go.Proofs.YtigldebdljfnbaaDoor
open Go.RowKit

def CSP (ok : Nat → Prop) (w : World) : Co → Value → Prop
  | ⟨k, n, m, ps⟩, v => C64 k ∧ C64 n ∧ C64 m ∧ ∃ ad cap, v = .slice ad ps.length cap ∧ ps.length ≤ cap ∧ cap ≤ 9223372036854775807 ∧
      (ps.length = 0 ∨ ∃ b off, ad = some ⟨b, off, none⟩ ∧ b < w.heap.size ∧ ok b ∧ ∀ i (h : i < ps.length), ∃ u, Four w b (off + i * 4) ps[i] u ∧
        (have : SizeOf.sizeOf ps[i] < SizeOf.sizeOf ps := List.sizeOf_lt_of_mem (List.getElem_mem h); CSP ok w ps[i] u))
def CAP (ok : Nat → Prop) (w : World) (v : Value) (ps : List Co) : Prop := ∃ ad cap, v = .slice ad ps.length cap ∧ ps.length ≤ cap ∧ cap ≤ 9223372036854775807 ∧
      (ps.length = 0 ∨ ∃ b off, ad = some ⟨b, off, none⟩ ∧ b < w.heap.size ∧ ok b ∧ ∀ i (h : i < ps.length), ∃ u, Four w b (off + i * 4) ps[i] u ∧ CSP ok w ps[i] u)
theorem csp_iff {ok : Nat → Prop} {w : World} {t : Co} {v : Value} : CSP ok w t v ↔ CFit t ∧ CAP ok w v t.parts := by
  cases t
  rw [CSP]
  exact ⟨fun ⟨a, b, c, f⟩ => ⟨⟨a, b, c⟩, f⟩, fun ⟨⟨a, b, c⟩, f⟩ => ⟨a, b, c, f⟩⟩
theorem CSP.parts {ok : Nat → Prop} {w : World} {t : Co} {v : Value} (h : CSP ok w t v) : CAP ok w v t.parts := (csp_iff.1 h).2
theorem CSP.ofSits {w : World} (t : Co) : ∀ v, CSits w t v → CSP (fun _ => True) w t v := by
  induction t using Co.ind with
  | h t ih =>
    intro v h
    obtain ⟨hf, ad, cap, hv, hl, hc, hp⟩ := csits_iff.1 h
    refine csp_iff.2 ⟨hf, ad, cap, hv, hl, hc, ?_⟩
    rcases hp with hp | ⟨b, off, ha, hb, hp⟩
    · exact .inl hp
    · refine .inr ⟨b, off, ha, hb, trivial, fun i hi => ?_⟩
      obtain ⟨u, h6, hu⟩ := hp i hi
      exact ⟨u, h6, ih _ (List.getElem_mem hi) u hu⟩
theorem CSP.keep {ok ok' : Nat → Prop} {w w' : World} (hs : w.heap.size ≤ w'.heap.size) (hk : ∀ b, b < w.heap.size → ok b → ok' b ∧ ∀ j, w'.cell? ⟨b, j, none⟩ = w.cell? ⟨b, j, none⟩) (t : Co) : ∀ v, CSP ok w t v → CSP ok' w' t v := by
  induction t using Co.ind with
  | h t ih =>
    intro v h
    obtain ⟨hf, ad, cap, hv, hl, hc, hp⟩ := csp_iff.1 h
    refine csp_iff.2 ⟨hf, ad, cap, hv, hl, hc, ?_⟩
    rcases hp with hp | ⟨b, off, ha, hb, ho, hp⟩
    · exact .inl hp
    · refine .inr ⟨b, off, ha, by omega, (hk b hb ho).1, fun i hi => ?_⟩
      obtain ⟨u, h6, hu⟩ := hp i hi
      exact ⟨u, h6.keep (fun j => (hk b hb ho).2 j), ih _ (List.getElem_mem hi) u hu⟩
theorem CSP.next {ok : Nat → Prop} {w w' : World} {t : Co} {v : Value} (h : CSP ok w t v) (hb : Below w.heap.size w w') : CSP ok w' t v :=
  CSP.keep hb.size (fun b hb1 ho => ⟨ho, fun j => hb.cell (p := ⟨b, j, none⟩) hb1⟩) t v h
theorem CSP.weak {ok ok' : Nat → Prop} {w : World} {t : Co} {v : Value} (h : CSP ok w t v) (hk : ∀ b, b < w.heap.size → ok b → ok' b) : CSP ok' w t v :=
  CSP.keep (Nat.le_refl _) (fun b hb1 ho => ⟨hk b hb1 ho, fun _ => rfl⟩) t v h
theorem CAP.open {ok : Nat → Prop} {w : World} {v : Value} {ps : List Co} (h : CAP ok w v ps) (hn : 0 < ps.length) : ∃ b off cap, v = .slice (some ⟨b, off, none⟩) ps.length cap ∧ ps.length ≤ cap ∧ cap ≤ 9223372036854775807 ∧ b < w.heap.size ∧ ok b ∧
    ∀ i (h : i < ps.length), ∃ u, Four w b (off + i * 4) ps[i] u ∧ CSP ok w ps[i] u := by
  obtain ⟨ad, cap, hv, hl, hc, hp⟩ := h
  rcases hp with hp | ⟨b, off, rfl, hlt, ho, hp⟩
  · omega
  · exact ⟨b, off, cap, hv, hl, hc, hlt, ho, hp⟩
theorem CAP.shape {ok : Nat → Prop} {w : World} {v : Value} {ps : List Co} (h : CAP ok w v ps) : ∃ ad cap, v = .slice ad ps.length cap ∧ ps.length ≤ cap ∧ cap ≤ 9223372036854775807 := by
  obtain ⟨ad, cap, hv, hl, hc, _⟩ := h
  exact ⟨ad, cap, hv, hl, hc⟩



end Go.Proofs.YtigldebdljfnbaaDoor
