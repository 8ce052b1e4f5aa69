/- Terms in a row that grows: append. -/
import Derived.Test.YtecdfnpbcabdnaaGreatDoorPxB
import Derived.Test.YtecdfnpbcabdnaaGreatDoorScX
import Derived.Maps.AppendAt
import Derived.Deep.RegionLaw
namespace Go.Proofs.YtecdfnpbcabdnaaGreatDoor
open Go.RowKit Go.Lib

theorem ownQ_turn {S : List Nat} {w w' : World} {B size : Nat} {e : TypeId} {v : Value} {n : Nat} {xs : List Value} (h : w.ownsRow B e size v n xs) (t : Turn S w w') (hS : ∀ k ∈ S, k < B) : w'.ownsRow B e size v n xs := by
  have hl := h.lt
  obtain ⟨h1, h2⟩ := h
  refine ⟨h1, ?_⟩
  rcases h2 with h2 | ⟨g, cap, cur, rfl, h3, h4, h5, h6, h7, h8⟩
  · exact .inl h2
  · exact .inr ⟨g, cap, cur, rfl, h3, (t.block g (Array.getElem?_eq_some_iff.1 h4).1 (fun hm => by have := hS g hm; have := (hl g rfl).1; omega)).trans h4, h5, h6, h7, h8⟩
def flQ (ts : List (Tm × Value)) : List Value := (ts.map fun p => tmL p.1 p.2).flatten
theorem flQ_cons (p : Tm × Value) (ts : List (Tm × Value)) : flQ (p :: ts) = tmL p.1 p.2 ++ flQ ts := rfl
theorem flQ_append (a b : List (Tm × Value)) : flQ (a ++ b) = flQ a ++ flQ b := by simp [flQ]
theorem flQ_len (ts : List (Tm × Value)) : (flQ ts).length = ts.length * 6 := by
  induction ts with
  | nil => rfl
  | cons p r ih => rw [flQ_cons, List.length_append, ih, List.length_cons]; simp; omega
theorem flQ_get : ∀ (ts : List (Tm × Value)) (i q : Nat), q < 6 → (hi : i < ts.length) → (flQ ts)[i * 6 + q]? = (tmL ts[i].1 ts[i].2)[q]?
  | [], i, q, _, hi => by simp at hi
  | p :: r, 0, q, hq, hi => by
    rw [flQ_cons, Nat.zero_mul, Nat.zero_add, List.getElem?_append_left (by simpa using hq)]
    rfl
  | p :: r, i + 1, q, hq, hi => by
    rw [flQ_cons, List.getElem?_append_right (by simp; omega)]
    rw [show (i + 1) * 6 + q - (tmL p.1 p.2).length = i * 6 + q by simp; omega]
    exact flQ_get r i q hq (by simpa using hi)
theorem flQ_one (ts : List (Tm × Value)) (h : ∀ p, p ∈ ts → p.2.oneCell' = true) : ∀ u ∈ flQ ts, u.oneCell' = true := by
  intro u hu
  unfold flQ at hu
  obtain ⟨l, hl, hm⟩ := List.mem_flatten.1 hu
  obtain ⟨p, hp, rfl⟩ := List.mem_map.1 hl
  simp only [List.mem_cons, List.not_mem_nil, or_false] at hm
  rcases hm with rfl | rfl | rfl | rfl | rfl | rfl
  · rfl
  · rfl
  · rfl
  · rfl
  · rfl
  · exact h p hp
/-- The terms ts lie in the row v, that is its own: their parts lie elsewhere, all of it from B on. -/
structure PaO (B z : Nat) (W : World) (v : Value) (ts : List (Tm × Value)) : Prop where
  own : W.ownsRow B 33 6 v ts.length (flQ ts)
  sit : ∀ p, p ∈ ts → SitQ (fun b => B ≤ b ∧ v.ownBlock ≠ some b) z W p.1 p.2
theorem PaO.turn {S : List Nat} {B z : Nat} {w w' : World} {v : Value} {ts : List (Tm × Value)} (h : PaO B z w v ts) (k : Turn S w w') (hS : ∀ i ∈ S, i < B) : PaO B z w' v ts :=
  ⟨ownQ_turn h.own k hS, fun p hp => SitQ.keep k.size (fun b hb hq => ⟨hq, fun _ => turn_cell k hb (fun hm => by have := hS b hm; omega)⟩) _ _ (h.sit p hp)⟩
theorem PaO.nil (B z : Nat) (w : World) : PaO B z w (.slice none 0 0) [] := ⟨⟨rfl, .inl ⟨rfl, rfl⟩⟩, fun _ hp => by cases hp⟩
theorem PaO.val {B z : Nat} {w : World} {v : Value} {ts : List (Tm × Value)} (h : PaO B z w v ts) : ∃ a n, v = .slice a ts.length n := own_val h.own
/-- What lies in such a row are a term's parts. -/
theorem PaO.sits {B z : Nat} {w : World} {v : Value} {ts : List (Tm × Value)} {t : Tm} (h : PaO B z w v ts) (hf : Fit z t) (hp : t.parts = ts.map Prod.fst) : SitB B z w t v := by
  rw [SitB, sitq_iff, hp]
  refine ⟨hf, ?_⟩
  obtain ⟨h1, h2⟩ := h.own
  rcases h2 with ⟨rfl, h3⟩ | ⟨g, cap, cur, rfl, h3, h4, h5, h6, h7, h8⟩
  · refine ⟨none, 0, ?_, ?_, by decide, .inl ?_⟩
    · rw [List.length_map, h3]
    · rw [List.length_map, h3]; exact Nat.le_refl _
    · rw [List.length_map, h3]
  · have hg := (Array.getElem?_eq_some_iff.1 h4).1
    refine ⟨some ⟨g, 0, none⟩, cap, by rw [List.length_map], by rw [List.length_map]; exact h5, by unfold maxLen at h6; omega, .inr ⟨g, 0, rfl, hg, h3, fun i hi => ?_⟩⟩
    have hi' : i < ts.length := by simpa using hi
    have hc : ∀ q (hq : q < 6) u, (tmL ts[i].1 ts[i].2)[q]? = some u → w.cell? ⟨g, 0 + i * 6 + q, none⟩ = some u := fun q hq u hu => by
      have h9 : (flQ ts)[i * 6 + q]? = some u := (flQ_get ts i q hq hi').trans hu
      rw [← h8, List.getElem?_take] at h9
      split at h9
      · rw [Array.getElem?_toList] at h9
        unfold World.cell?
        simp only [h4]
        simpa using h9
      · cases h9
    refine ⟨ts[i].2, ?_, ?_⟩
    · rw [List.getElem_map]
      exact ⟨hc 0 (by omega) _ rfl, hc 1 (by omega) _ rfl, hc 2 (by omega) _ rfl, hc 3 (by omega) _ rfl, hc 4 (by omega) _ rfl, hc 5 (by omega) _ rfl⟩
    · rw [List.getElem_map]
      exact (h.sit _ (List.getElem_mem hi')).weak (fun b _ hq => hq.1)
theorem info_tm : (Tryz.prog.info? 33).map (fun i => (i.zero, i.size, i.bytes)) = some (some (.agg #[.int .i64 0, .string ⟨#[]⟩, .int .i64 0, .int .i64 0, .int .i64 0, .slice none 0 0]), 6, 72) := by kernel_rfl
/-- A row of terms grows by others. -/
theorem PaO.grows {B z : Nat} {w w' : World} {v v' : Value} {ts qs : List (Tm × Value)} (h : PaO B z w v ts) (hq : ∀ p, p ∈ qs → SitQ (fun b => B ≤ b ∧ v.ownBlock ≠ some b) z w p.1 p.2) (ob : Obj)
    (ho : w'.ownsRow B 33 6 v' (ts.length + qs.length) (flQ ts ++ flQ qs)) (hg : (w.alloc ob).grownBy w' v.ownBlock) (hb : v'.ownBlock = v.ownBlock ∨ v'.ownBlock = some (w.alloc ob).heap.size) : PaO B z w' v' (ts ++ qs) := by
  refine ⟨by rw [flQ_append, List.length_append]; exact ho, fun p hp => ?_⟩
  have hs : SitQ (fun b => B ≤ b ∧ v.ownBlock ≠ some b) z w p.1 p.2 := by
    rcases List.mem_append.1 hp with h1 | h1
    · exact h.sit p h1
    · exact hq p h1
  have hsz := hg.size
  simp only [World.size_alloc] at hsz hb
  have k1 : ∀ b, b < w.heap.size → v.ownBlock ≠ some b → v'.ownBlock ≠ some b := fun b h1 h2 => by
    rcases hb with h3 | h3
    · rw [h3]; exact h2
    · rw [h3]; intro he; cases he; omega
  have k2 : ∀ b, b < w.heap.size → v.ownBlock ≠ some b → ∀ j, w'.cell? ⟨b, j, none⟩ = w.cell? ⟨b, j, none⟩ := fun b h1 h2 j => by
    have h3 := hg.block b (by simp; omega) (fun he => h2 he.symm)
    have h4 := World.cell?_of_block (a := ⟨b, j, none⟩) h3
    rw [h4]
    exact World.cell?_alloc_lt _ _ _ h1
  exact SitQ.keep (by omega) (fun b h1 h2 => ⟨⟨h2.1, k1 b h1 h2.2⟩, k2 b h1 h2.2⟩) _ _ hs
theorem step_append_tm {ops : Array Oper} {o : Oper} {a : Act} {w : World} {K : Act → World → Prop} {Q : Exit → Act → World → Prop} {E : Prop} {z : Nat} (w0 : World) (B : Nat) (hgd : o.guard = none) (s x : Operand)
    (hop : o.op = Op.call { callee := Callee.builtin Builtin.append, args := #[s, x], argTypes := #[31, 31] }) (v : Value) (ts qs : List (Tm × Value)) (hw : w = w0.alloc (.cells (flQ qs).toArray 33)) (hs : a.eval s = v) (h : PaO B z w0 v ts)
    (hq : ∀ p, p ∈ qs → SitQ (fun b => B ≤ b ∧ v.ownBlock ≠ some b) z w0 p.1 p.2) (hl : ts.length + qs.length ≤ 1000000) (hB : B ≤ w0.heap.size)
    (hx : a.eval x = .slice (some ⟨w0.heap.size, 0, none⟩) qs.length qs.length)
    (hK : ∀ a' c' w', PaO B z w' (.slice a' (ts.length + qs.length) c') (ts ++ qs) → Below B w0 w' → K (a.put o.dst (.slice a' (ts.length + qs.length) c')) w') :
    if Region.wanted o (yielded ops a.tmps) = true then Oper.wp Tryz.prog o a w K Q else E := by
  have hwd : Region.wanted o (yielded ops a.tmps) = true := by simp [Region.wanted, hgd]
  rw [if_pos hwd]
  subst hw
  obtain ⟨i0, hi, hz0, hz1, hz2⟩ := info_parts info_tm
  obtain ⟨v', w', hrun, ho, hg, _, hb⟩ := run_append_own_at (P := Tryz.prog) (w0.alloc (.cells (flQ qs).toArray 33)) B 31 o.type 33 i0 _ 6 72 Tryz.underlying31 hi hz0 hz1 hz2 rfl (by decide) v ts.length (flQ ts) (h.own.alloc _) ⟨w0.heap.size, 0, none⟩ qs.length qs.length (flQ qs) (flQ_len qs)
    (fun j u hj => by
      have hadd : (⟨w0.heap.size, 0, none⟩ : Addr).add j = ⟨w0.heap.size, j, none⟩ := by unfold Addr.add; split <;> simp_all
      rw [hadd]
      exact (Box.new w0 (flQ qs) 33).cell j u hj)
    (flQ_one qs (fun p hp => (hq p hp).oneCell)) (by unfold maxLen; omega) (by omega) (by simp; omega)
  obtain ⟨a', c', rfl⟩ := own_val ho
  unfold Oper.wp
  simp [execOp, hop, resolve, invoke, builtin, hs, hx, hrun, Result.andThen]
  exact hK a' c' w' (h.grows hq _ ho hg hb) (below_own (Below.refl _ _) hB _ (Nat.le_refl _) h.own hg)
/-- A call inside a region, that answers or gives up. -/
theorem step_out {α : Type} {ops : Array Oper} {op : Oper} {a : Act} {w : World} {K : Act → World → Prop} {Q : Exit → Act → World → Prop} {Ee : Prop} {V : α → Value → World → Prop} {z rb tb lb : Nat} {c : Int} {o : Nat} {r : Rs α} (hgd : op.guard = none) {f : FuncId} {args : Array Value}
    (C : Calls Tryz.prog f args w (Out V z w rb tb lb c o r)) (he : (execOp a.eval op).run Tryz.prog w = .ok (.enter f args) w)
    (hErr : ∀ fl w', r = .error fl → Turn [rb] w w' → Q (.panic [fltE fl]) a w')
    (hK : ∀ y v w', r = .ok y → Turn [rb] w w' → V y.1 v w' → Rea z w' rb tb lb c y.2 o → K (a.put op.dst v) w') :
    if Region.wanted op (yielded ops a.tmps) = true then Oper.wp Tryz.prog op a w K Q else Ee := by
  have hwd : Region.wanted op (yielded ops a.tmps) = true := by simp [Region.wanted, hgd]
  rw [if_pos hwd]
  unfold Oper.wp
  rw [he, Oper.upon_enter]
  refine C.mono fun e w' h => ?_
  rcases hr : r with fl | y
  · obtain ⟨rfl, ht⟩ := Out.of_err hr h
    exact hErr fl w' hr ht
  · obtain ⟨ht, v, rfl, hv, hr'⟩ := Out.of_ok hr h
    exact hK y v w' hr ht hv hr'
/-- A call inside a region that makes memory alone. -/
theorem step_bel {ops : Array Oper} {op : Oper} {a : Act} {w : World} {K : Act → World → Prop} {Q : Exit → Act → World → Prop} {Ee : Prop} (hgd : op.guard = none) {f : FuncId} {args : Array Value} {x : Value}
    (C : Calls Tryz.prog f args w fun e w' => e = .returned x ∧ Below w.heap.size w w') (he : (execOp a.eval op).run Tryz.prog w = .ok (.enter f args) w)
    (hK : ∀ w', Below w.heap.size w w' → K (a.put op.dst x) w') :
    if Region.wanted op (yielded ops a.tmps) = true then Oper.wp Tryz.prog op a w K Q else Ee := by
  have hwd : Region.wanted op (yielded ops a.tmps) = true := by simp [Region.wanted, hgd]
  rw [if_pos hwd]
  unfold Oper.wp
  rw [he, Oper.upon_enter]
  refine C.mono fun e w' h => ?_
  obtain ⟨rfl, hb⟩ := h
  exact hK w' hb
end Go.Proofs.YtecdfnpbcabdnaaGreatDoor
