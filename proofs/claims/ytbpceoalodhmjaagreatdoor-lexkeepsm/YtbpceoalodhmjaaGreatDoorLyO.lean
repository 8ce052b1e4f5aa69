/- LexKeeps: rows of tokens that are written into and grow, beside another. -/
import Derived.Test.YtbpceoalodhmjaaGreatDoorLyM
namespace Go.Proofs.YtbpceoalodhmjaaGreatDoor
open Go.RowKit Go.Lib

theorem lexF_len (s : ByteArray) : ∀ (f i : Nat) (L : List Tk), L.length ≤ 16384 → (lexF s f i L).1.length ≤ 16385
  | 0, _, L, h => by
    simp only [lexF]
    omega
  | f + 1, i, L, h => by
    simp only [lexF]
    split
    · split
      · exact Nat.zero_le _
      · rename_i h2
        cases ht : tok s (skp s i) with
        | error e => exact Nat.zero_le _
        | ok te => exact lexF_len s f _ _ (by rw [List.length_append]; simp; omega)
    · rw [List.length_append]
      simp
      omega
theorem cutS_len (s : ByteArray) : (cutS s).1.length ≤ 16385 := by
  unfold cutS
  split
  · exact Nat.zero_le _
  · split
    · exact lexF_len s _ _ _ (by simp)
    · exact Nat.zero_le _
/-- A cell of a row is written. -/
theorem own_set {w : World} {B size : Nat} {e : TypeId} {g n cap : Nat} {xs : List Value} (h : w.ownsRow B e size (.slice (some ⟨g, 0, none⟩) n cap) n xs) (k : Nat) (u : Value) :
    (w.setCell ⟨g, k, none⟩ u).ownsRow B e size (.slice (some ⟨g, 0, none⟩) n cap) n (xs.set k u) := by
  obtain ⟨h1, ⟨h2, _⟩ | ⟨g', cap', cur, h2, h3, h4, h5, h6, h7, h8⟩⟩ := h
  · cases h2
  · cases h2
    refine ⟨by simpa using h1, .inr ⟨g, cap, cur.setIfInBounds k u, rfl, h3, ?_, h5, h6, by simpa using h7, ?_⟩⟩
    · obtain ⟨hlt, hk⟩ := Array.getElem?_eq_some_iff.1 h4
      show (w.heap.modify g _)[g]? = _
      rw [Array.getElem?_eq_getElem (by rw [Array.size_modify]; exact hlt), Array.getElem_modify_self, hk]
      rfl
    · rw [Array.toList_setIfInBounds, List.take_set, h8]
/-- A row stays while another grows. -/
theorem own_grown {w w' : World} {B size : Nat} {e : TypeId} {v : Value} {n : Nat} {xs : List Value} {row : Option Nat} (h : w.ownsRow B e size v n xs) (hg : w.grownBy w' row) (hn : ∀ k, v.ownBlock = some k → some k ≠ row) : w'.ownsRow B e size v n xs := by
  have hl := h.lt
  obtain ⟨h1, h2⟩ := h
  refine ⟨h1, ?_⟩
  rcases h2 with h2 | ⟨g, cap, cur, rfl, h3, h4, h5, h6, h7, h8⟩
  · exact .inl h2
  · exact .inr ⟨g, cap, cur, rfl, h3, (hg.block g (hl g rfl).2 (hn g rfl)).trans h4, h5, h6, h7, h8⟩
/-- append onto a row: it stays where it is, or lies at the heap's end. -/
theorem wpList_append_blk {P : Program} (w : World) {ops : Array Oper} {rest : List Oper} {o : Oper} {a : Act} {Q : Exit → Act → World → Prop} (hgd : o.guard = none) (s x : Operand) (t : TypeId)
    (ho : o.op = .call { callee := .builtin .append, args := #[s, x], argTypes := #[t, t] })
    (base : Nat) (e : TypeId) (i : TypeInfo) (z : Value) (size bytes : Nat) (ht : P.underlying t = some (.slice e)) (hi : P.info? e = some i) (hz : i.zero = some z)
    (hsize : i.size = size) (hby : i.bytes = bytes) (hzs : z.cells.size = size) (hsz : 0 < size)
    (v : Value) (n : Nat) (xs : List Value) (hs : a.eval s = v) (hown : w.ownsRow base e size v n xs)
    (ad : Addr) (m c : Nat) (news : List Value) (hx : a.eval x = .slice (some ad) m c) (hl : news.length = m * size) (hm : 0 < m) (hnews : ∀ j u, news[j]? = some u → w.cell? (ad.add j) = some u) (h1 : ∀ u ∈ news, u.oneCell' = true)
    (h63 : n + m ≤ maxLen) (hbytes : (n + m) * bytes ≤ 140737488355328) (hbase : base ≤ w.heap.size)
    (h : ∀ v' w', w'.ownsRow base e size v' (n + m) (xs ++ news) → w.grownBy w' v.ownBlock → (v'.ownBlock = v.ownBlock ∨ v'.ownBlock = some w.heap.size) → wpList P ops Q rest (a.put o.dst v') w') : wpList P ops Q (o :: rest) a w := by
  refine wpList_plain hgd fun K hK => ?_
  obtain ⟨v', w', hr, h2, h3, _⟩ := run_append_own (P := P) w base t o.type e i z size bytes ht hi hz hsize hby hzs hsz v n xs hown ad m c news hl hnews h1 h63 hbytes hbase
  have hb : v'.ownBlock = v.ownBlock ∨ v'.ownBlock = some w.heap.size := by
    subst hsize
    subst hby
    have hsmall : n + m ≤ 9223372036854775807 := by simp only [maxLen] at h63; omega
    rcases hown.2 with ⟨rfl, rfl⟩ | ⟨g, cap, cur, rfl, _, hg, _, _, hcs, _⟩
    · have hr2 := run_append_nil (P := P) w t o.type e i z ht hi hz ad m c news hl hnews (by omega) (by omega) (by have hb := hbytes; simp only [Nat.zero_add] at hb; omega)
      rw [hr2] at hr
      cases hr
      exact .inr rfl
    · by_cases hroom : n + m ≤ cap
      · have hfit : n * i.size + news.length ≤ cur.size := by rw [hl, hcs, ← Nat.add_mul]; exact Nat.mul_le_mul_right _ hroom
        have hr2 := run_append_room (P := P) w t o.type e i ht hi g n cap cur hg ad m c news hl hnews h1 hroom hfit
        rw [hr2] at hr
        cases hr
        exact .inl rfl
      · have holds : ∀ j u, xs[j]? = some u → w.cell? ((⟨g, 0, none⟩ : Addr).add j) = some u := hown.cells (g := g) rfl
        have hr2 := run_append_grow (P := P) w t o.type e i z ht hi hz ⟨g, 0, none⟩ n cap xs hown.1 holds ad m c news hl hnews (by omega) (by omega) (growslice_fits (by omega) hbytes)
        rw [hr2] at hr
        cases hr
        exact .inr rfl
  unfold Oper.wp execOp
  simp only [ho, resolve, invoke, builtin, Sem.run_bind, Sem.run_pure, Result.andThen_ok, List.map_toArray, List.map_cons, List.map_nil, hs, hx, hr]
  exact hK _ _ (h v' w' h2 h3 hb)
/-- What an answer of Cut is, held from B on. -/
def Held (res : List Tk × Nat × Int) (w : World) (B : Nat) (v : Value) : Prop := if res.2.2 = 0 then Toks w B v res.1 else v = .slice none 0 0
theorem Held.set {res : List Tk × Nat × Int} {w : World} {B : Nat} {v : Value} (h : Held res w B v) {g k : Nat} (hg : g < B) (u : Value) : Held res (w.setCell ⟨g, k, none⟩ u) B v := by
  unfold Held at h ⊢
  split at h
  · rename_i h0
    rw [if_pos h0]
    exact ownsRow_setCell_below h hg u
  · rename_i h0
    rw [if_neg h0]
    exact h
theorem Held.next {res : List Tk × Nat × Int} {w w' : World} {B : Nat} {v : Value} (h : Held res w B v) (k : Below w.heap.size w w') : Held res w' B v := by
  unfold Held at h ⊢
  split at h
  · rename_i h0
    rw [if_pos h0]
    exact own_on h k
  · rename_i h0
    rw [if_neg h0]
    exact h
theorem Held.grown {res : List Tk × Nat × Int} {w w' : World} {B : Nat} {v : Value} {row : Option Nat} (h : Held res w B v) (hg : w.grownBy w' row) (hn : ∀ k, v.ownBlock = some k → some k ≠ row) : Held res w' B v := by
  unfold Held at h ⊢
  split at h
  · rename_i h0
    rw [if_pos h0]
    exact own_grown h hg hn
  · rename_i h0
    rw [if_neg h0]
    exact h
theorem Held.lt {res : List Tk × Nat × Int} {w : World} {B : Nat} {v : Value} (h : Held res w B v) : ∀ k, v.ownBlock = some k → B ≤ k ∧ k < w.heap.size := by
  unfold Held at h
  split at h
  · exact World.ownsRow.lt h
  · subst h
    intro k hk
    cases hk
theorem Held.row {res : List Tk × Nat × Int} {w : World} {B : Nat} {v : Value} (h : Held res w B v) (hl : res.1.length ≤ 16385) : ∃ n xs, n ≤ 16385 ∧ w.ownsRow B 33 4 v n xs := by
  unfold Held at h
  split at h
  · exact ⟨_, _, hl, h⟩
  · subst h
    exact ⟨0, [], by omega, World.ownsRow_nil _ _ _ _⟩
end Go.Proofs.YtbpceoalodhmjaaGreatDoor
