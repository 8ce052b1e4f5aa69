import Derived.Test.YtigldebdljfnbaaDoorNaF
import Derived.Test.YtigldebdljfnbaaDoorMoM
import Derived.Test.YtigldebdljfnbaaDoorMgB
import Derived.Test.YtigldebdljfnbaaDoorMgK
import Derived.Deep.DeepAppendWide
import Derived.Deep.RegionHeld3
import Derived.Deep.RegionLaw
import Derived.Test.YtigldebdljfnbaaDoorMgP
namespace Go.Proofs.YtigldebdljfnbaaDoor
open Go.RowKit

def flI (l : List Ins) : List Value := (l.map fun x => [Value.int .i64 x.1, .int .i64 x.2]).flatten
theorem flI_app (a b : List Ins) : flI (a ++ b) = flI a ++ flI b := by simp [flI]
theorem flI_len (l : List Ins) : (flI l).length = l.length * 2 := by
  induction l with
  | nil => rfl
  | cons a r ih => simp [flI] at ih ⊢; omega
theorem flI_at : ∀ (l : List Ins) (i : Nat) (x : Ins), l[i]? = some x → (flI l)[i * 2]? = some (.int .i64 x.1) ∧ (flI l)[i * 2 + 1]? = some (.int .i64 x.2)
  | a :: r, 0, x, h => by cases h; exact ⟨rfl, rfl⟩
  | a :: r, i + 1, x, h => by
    obtain ⟨h1, h2⟩ := flI_at r i x h
    have e : flI (a :: r) = .int .i64 a.1 :: .int .i64 a.2 :: flI r := rfl
    rw [e, show (i + 1) * 2 = i * 2 + 1 + 1 by omega, show i * 2 + 1 + 1 + 1 = (i * 2 + 1) + 1 + 1 by omega]
    exact ⟨h1, h2⟩
abbrev flK (K : List Int) : List Value := K.map fun x => .int .i64 x
structure Bd (w : World) (bb : Nat) (C : List Ins) (K : List Int) (vc vk : Value) : Prop where
  box : Box w bb [vc, vk]
  code : w.ownsRow (bb + 1) 49 2 vc C.length (flI C)
  cons : w.ownsRow (bb + 1) 2 1 vk K.length (flK K)
def blk (v : Value) : List Nat := v.ownBlock.toList
def foot (bb : Nat) (vc vk : Value) : List Nat := bb :: (blk vc ++ blk vk)
theorem blk_mem {v : Value} {i : Nat} : i ∈ blk v ↔ v.ownBlock = some i := by simp [blk, Option.mem_toList]
theorem foot_mem {bb : Nat} {vc vk : Value} {i : Nat} : i ∈ foot bb vc vk ↔ i = bb ∨ vc.ownBlock = some i ∨ vk.ownBlock = some i := by
  unfold foot
  rw [List.mem_cons, List.mem_append, blk_mem, blk_mem]
theorem own_of_keep {w w' : World} {B : Nat} {e : TypeId} {size n : Nat} {v : Value} {xs : List Value} (h : w.ownsRow B e size v n xs) (hk : ∀ b, v.ownBlock = some b → w'.heap[b]? = w.heap[b]?) : w'.ownsRow B e size v n xs := by
  obtain ⟨h1, ⟨h2, h3⟩ | ⟨g, cap, cur, h2, h3, h4, h5⟩⟩ := h
  · exact ⟨h1, .inl ⟨h2, h3⟩⟩
  · exact ⟨h1, .inr ⟨g, cap, cur, h2, h3, (hk g (by rw [h2]; rfl)).trans h4, h5⟩⟩
theorem Bd.turn {w w' : World} {S : List Nat} {bb : Nat} {C : List Ins} {K : List Int} {vc vk : Value} (h : Bd w bb C K vc vk) (t : Turn S w w') (hS : ∀ i, i ∈ foot bb vc vk → i ∉ S) : Bd w' bb C K vc vk :=
  ⟨h.box.turn t (hS bb (foot_mem.2 (.inl rfl))), own_of_keep h.code (fun b hb => t.block b (h.code.lt b hb).2 (hS b (foot_mem.2 (.inr (.inl hb))))), own_of_keep h.cons (fun b hb => t.block b (h.cons.lt b hb).2 (hS b (foot_mem.2 (.inr (.inr hb)))))⟩
def Went (bb : Nat) (F : List Nat) (w : World) (C : List Ins) (K : List Int) (w' : World) : Prop := ∃ vc vk, Bd w' bb C K vc vk ∧ Turn F w w' ∧ ∀ i, i ∈ foot bb vc vk → i ∈ F ∨ w.heap.size ≤ i

theorem info_in : (Tryd.prog.info? 49).map (fun i => (i.zero, i.size, i.bytes)) = some (some (.agg #[.int .i64 0, .int .i64 0]), 2, 16) := by kernel_rfl
theorem info_in' : ∃ i, Tryd.prog.info? 49 = some i ∧ i.zero = some (.agg #[.int .i64 0, .int .i64 0]) ∧ i.size = 2 ∧ i.bytes = 16 := by
  have h := info_in
  cases e : Tryd.prog.info? 49 with
  | none => rw [e] at h; cases h
  | some i =>
    rw [e] at h
    simp only [Option.map_some, Option.some.injEq, Prod.mk.injEq] at h
    exact ⟨i, rfl, h.1, h.2.1, h.2.2⟩
theorem own_type {w : World} {B : Nat} {e : TypeId} {k n : Nat} {v : Value} {xs : List Value} (h : w.ownsRow B e k v n xs) {r : Nat} (hr : v.ownBlock = some r) : B ≤ r ∧ ∃ cur, w.heap[r]? = some (Obj.cells cur e (0, 0)) := by
  obtain ⟨h1, ⟨h2, h3⟩ | ⟨g, cap, cur, h2, h3, h4, h5⟩⟩ := h
  · rw [h2] at hr; cases hr
  · rw [h2] at hr
    cases hr
    exact ⟨h3, cur, h4⟩
theorem laid {w w3 : World} {bb : Nat} {C L : List Ins} {K : List Int} {ca : Option Addr} {cc g1 c1 : Nat} {vk : Value} (h : Bd w bb C K (.slice ca C.length cc) vk) (ho : w3.ownsRow (bb + 1) 49 2 (.slice (some ⟨g1, 0, none⟩) (C.length + L.length) c1) (C.length + L.length) (flI C ++ flI L)) (hg : w.grownBy w3 (Value.slice ca C.length cc).ownBlock) (hl : (Value.slice ca C.length cc).ownBlock = some g1 ∨ g1 = w.heap.size) :
    Box w3 bb [.slice ca C.length cc, vk] ∧ Went bb (foot bb (.slice ca C.length cc) vk) w (C ++ L) K (w3.setCell ⟨bb, 0, none⟩ (.slice (some ⟨g1, 0, none⟩) (C.length + L.length) c1)) := by
  have hnb : ∀ i, (Value.slice ca C.length cc).ownBlock = some i → bb + 1 ≤ i := fun i hi => (h.code.lt i hi).1
  have T1 : Turn (blk (.slice ca C.length cc)) w w3 := ⟨hg.os, hg.tape, hg.output, hg.size, fun k hk hn => hg.block k hk (fun e => hn (blk_mem.2 e.symm))⟩
  have b3 : Box w3 bb [.slice ca C.length cc, vk] := h.box.turn T1 (fun hm => by have := hnb bb (blk_mem.1 hm); omega)
  have T2 := cturn_set w3 bb 0 (.slice (some ⟨g1, 0, none⟩) (C.length + L.length) c1)
  have b4 := b3.set 0 (by simp) (.slice (some ⟨g1, 0, none⟩) (C.length + L.length) c1)
  have hg1 : bb + 1 ≤ g1 := (ho.lt g1 rfl).1
  have k3 : w3.ownsRow (bb + 1) 2 1 vk K.length (flK K) := own_of_keep h.cons (fun b hb => hg.block b (h.cons.lt b hb).2 (fun e => by
    obtain ⟨_, cur, h1⟩ := own_type h.code e.symm
    obtain ⟨_, cur', h2⟩ := own_type h.cons hb
    rw [h1] at h2
    cases h2))
  have T : Turn (foot bb (.slice ca C.length cc) vk) w (w3.setCell ⟨bb, 0, none⟩ (.slice (some ⟨g1, 0, none⟩) (C.length + L.length) c1)) := ⟨T2.os.trans T1.os, T2.tape.trans T1.tape, T2.output.trans T1.output, Nat.le_trans T1.size T2.size, fun k hk hn => (T2.block k (Nat.lt_of_lt_of_le hk T1.size) (fun hm => hn (foot_mem.2 (.inl (List.mem_singleton.1 hm))))).trans (T1.block k hk (fun hm => hn (foot_mem.2 (.inr (.inl (blk_mem.1 hm))))))⟩
  refine ⟨b3, .slice (some ⟨g1, 0, none⟩) (C.length + L.length) c1, vk, ⟨b4, ?_, own_of_keep k3 (fun b hb => T2.block b (k3.lt b hb).2 (by have := (k3.lt b hb).1; simp; omega))⟩, T, ?_⟩
  · rw [flI_app, List.length_append]
    exact own_of_keep ho (fun b hb => T2.block b (ho.lt b hb).2 (by have := (ho.lt b hb).1; simp; omega))
  · intro i hi
    rcases foot_mem.1 hi with rfl | hi | hi
    · exact .inl (foot_mem.2 (.inl rfl))
    · have e : g1 = i := Option.some.inj hi
      subst e
      rcases hl with hl | hl
      · exact .inl (foot_mem.2 (.inr (.inl hl)))
      · exact .inr (by omega)
    · exact .inl (foot_mem.2 (.inr (.inr hi)))



theorem info_i6 : (Tryd.prog.info? 2).map (fun i => (i.zero, i.size, i.bytes)) = some (some (.int .i64 0), 1, 8) := by kernel_rfl
theorem info_i6' : ∃ i, Tryd.prog.info? 2 = some i ∧ i.zero = some (.int .i64 0) ∧ i.size = 1 ∧ i.bytes = 8 := by
  have h := info_i6
  cases e : Tryd.prog.info? 2 with
  | none => rw [e] at h; cases h
  | some i =>
    rw [e] at h
    simp only [Option.map_some, Option.some.injEq, Prod.mk.injEq] at h
    exact ⟨i, rfl, h.1, h.2.1, h.2.2⟩

theorem findP_some {n m : Int} : ∀ {K : List Int} {k : Nat}, K[k]? = some n → K[k + 1]? = some m → (∀ j, j < k → ¬ (K[j]? = some n ∧ K[j + 1]? = some m)) → findP K n m = some k
  | [], _, h, _, _ => by cases h
  | [a], 0, _, h, _ => by cases h
  | [a], k + 1, h, _, _ => by cases h
  | a :: b :: r, 0, h, h', _ => by
    cases h; cases h'
    rw [findP, if_pos ⟨rfl, rfl⟩]
  | a :: b :: r, k + 1, h, h', hn => by
    have h0 : ¬ (a = n ∧ b = m) := fun e => hn 0 (by omega) ⟨by rw [e.1]; rfl, by rw [e.2]; rfl⟩
    rw [findP, if_neg h0, findP_some (K := b :: r) (k := k) h h' (fun j hj => hn (j + 1) (by omega))]
    rfl
theorem findP_none {n m : Int} : ∀ {K : List Int}, (∀ j, j + 1 < K.length → ¬ (K[j]? = some n ∧ K[j + 1]? = some m)) → findP K n m = none
  | [], _ => rfl
  | [a], _ => rfl
  | a :: b :: r, hn => by
    have h0 : ¬ (a = n ∧ b = m) := fun e => hn 0 (by simp) ⟨by rw [e.1]; rfl, by rw [e.2]; rfl⟩
    rw [findP, if_neg h0, findP_none (K := b :: r) (fun j hj => hn (j + 1) (by simp at hj ⊢; omega))]
    rfl
theorem one_new (w : World) (n : Int) : ∀ j u, [Value.int .i64 n][j]? = some u → (w.alloc (.cells #[.int .i64 n] 2)).cell? ((⟨w.heap.size, 0, none⟩ : Addr).add j) = some u := fun j u hu => by
  have hadd : (⟨w.heap.size, 0, none⟩ : Addr).add j = ⟨w.heap.size, j, none⟩ := by unfold Addr.add; split <;> simp_all
  rw [hadd]
  exact (Box.new w [.int .i64 n] 2).cell j u hu
theorem below_new (w : World) (n : Int) : Below w.heap.size w (w.alloc (.cells #[.int .i64 n] 2)) := (Below.refl _ _).alloc (Nat.le_refl _) _
end Go.Proofs.YtigldebdljfnbaaDoor
