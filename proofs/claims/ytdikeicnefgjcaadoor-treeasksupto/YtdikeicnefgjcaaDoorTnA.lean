/- Names: plain; the visitor, which keeps a set and a list. -/
import Derived.Test.YtdikeicnefgjcaaDoorTnW
import Derived.Test.YtdikeicnefgjcaaDoorTrW
import Derived.Maps.OwnSet
import Derived.Maps.AppendAt
import Derived.Deep.RegionLaw
namespace Go.Proofs.YtdikeicnefgjcaaDoor
open Go.RowKit Go.Maps

def hasN (acc : List ByteArray) (s : ByteArray) : Bool := acc.any fun x => decide (x.toList = s.toList)
def addN (acc : List ByteArray) (t : Tm) : List ByteArray := if t.kind = 2 then (if hasN acc t.text = true then acc else acc ++ [t.text]) else acc
def namV (acc : List ByteArray) (t : Tm) : List ByteArray × Bool := (addN acc t, true)
def keyN (s : ByteArray) : Lit := .string s.data.toList
def SdN (acc : List ByteArray) : DataW Unit := setOf (.agg []) (acc.map keyN)
theorem has_SdN (acc : List ByteArray) (s : ByteArray) : Maps.has (SdN acc) (keyN s) = hasN acc s := by
  unfold SdN
  rw [has_setOf _ _ _ (fun y hy => by obtain ⟨_, _, rfl⟩ := List.mem_map.1 hy; trivial), List.any_map]
  unfold hasN
  congr 1
  funext x
  show (x.data.toList == s.data.toList) = decide (x.toList = s.toList)
  rw [Lib.toList_data, Lib.toList_data]
  exact Bool.eq_iff_iff.2 (by simp)
theorem SdN_snoc (acc : List ByteArray) (s : ByteArray) : SdN (acc ++ [s]) = (SdN acc).put (keyN s) (.agg []) := by
  unfold SdN
  rw [List.map_append, List.map_singleton, setOf_snoc]
theorem info_str : (Tryd.prog.info? 9).map (fun i => (i.zero, i.size, i.bytes)) = some (some (.string ⟨#[]⟩), 1, 16) := by kernel_rfl
theorem keyedN : Keyed Tryd.prog 9 := string_keyed Tryd.underlying9
theorem zeroUnit (w : World) : (zeroValue 62).run Tryd.prog w = .ok (.agg #[]) w := by kernel_rfl
theorem map_turn {S : List Nat} {w w' : World} {b n : Nat} {D : DataW Unit} (h : w.ownsMap Tryd.prog 9 unitElem b n D) (t : Turn S w w') (hn : b ∉ S) : w'.ownsMap Tryd.prog 9 unitElem b n D := by
  have hlt := h.lt
  obtain ⟨es, clock, hb, r⟩ := h
  exact ⟨es, clock, (t.block b hlt hn).trans hb, r⟩
theorem row_turn {S : List Nat} {w w' : World} {B n s : Nat} {e : TypeId} {v : Value} {xs : List Value} (h : w.ownsRow B e s v n xs) (t : Turn S w w') (hn : ∀ k, v.ownBlock = some k → k ∉ S) : w'.ownsRow B e s v n xs := by
  refine ⟨h.1, ?_⟩
  rcases h.2 with hq | ⟨g, cap, cur, rfl, hb, hgg, rest⟩
  · exact .inl hq
  · exact .inr ⟨g, cap, cur, rfl, hb, (t.block g (Array.getElem?_eq_some_iff.1 hgg).1 (hn g rfl)).trans hgg, rest⟩
theorem row_val {w : World} {B n s : Nat} {e : TypeId} {v : Value} {xs : List Value} (h : w.ownsRow B e s v n xs) : ∃ a c, v = .slice a n c := by
  rcases h.2 with ⟨rfl, rfl⟩ | ⟨g, cap, cur, rfl, _⟩
  · exact ⟨none, 0, rfl⟩
  · exact ⟨_, _, rfl⟩
def strs (l : List ByteArray) : List Value := l.map Value.string
/-- append onto a row: it stays where it is, or lies at the heap's end. -/
theorem run_append_blk (w : World) (base : Nat) (t tt : TypeId) (e : TypeId) (i : TypeInfo) (z : Value) (size bytes : Nat) (ht : Tryd.prog.underlying t = some (.slice e)) (hi : Tryd.prog.info? e = some i) (hz : i.zero = some z)
    (hsize : i.size = size) (hby : i.bytes = bytes) (hzs : z.cells.size = size) (hsz : 0 < size) (v : Value) (n : Nat) (xs : List Value) (hown : w.ownsRow base e size v n xs)
    (ad : Addr) (m c : Nat) (news : List Value) (hl : news.length = m * size) (hm : 0 < m) (hnews : ∀ j u, news[j]? = some u → w.cell? (ad.add j) = some u) (h1 : ∀ u ∈ news, u.oneCell' = true)
    (h63 : n + m ≤ maxLen) (hbytes : (n + m) * bytes ≤ 140737488355328) (hbase : base ≤ w.heap.size) :
    ∃ v' w', (Builtin.append_ #[t, t] tt #[v, .slice (some ad) m c]).run Tryd.prog w = .ok v' w' ∧ w'.ownsRow base e size v' (n + m) (xs ++ news) ∧ w.grownBy w' v.ownBlock ∧ (v'.ownBlock = v.ownBlock ∨ v'.ownBlock = some w.heap.size) := by
  obtain ⟨v', w', hr, h2, h3, _⟩ := run_append_own (P := Tryd.prog) w base t tt e i z size bytes ht hi hz hsize hby hzs hsz v n xs hown ad m c news hl hnews h1 h63 hbytes hbase
  refine ⟨v', w', hr, h2, h3, ?_⟩
  subst hsize
  subst hby
  have hsmall : n + m ≤ 9223372036854775807 := by simp only [maxLen] at h63; omega
  rcases hown.2 with ⟨rfl, rfl⟩ | ⟨g, cap, cur, rfl, _, hg, _, _, hcs, _⟩
  · have hr2 := run_append_nil (P := Tryd.prog) w t tt e i z ht hi hz ad m c news hl hnews (by omega) (by omega) (by have hb := hbytes; simp only [Nat.zero_add] at hb; omega)
    rw [hr2] at hr
    cases hr
    exact .inr rfl
  · by_cases hroom : n + m ≤ cap
    · have hfit : n * i.size + news.length ≤ cur.size := by rw [hl, hcs, ← Nat.add_mul]; exact Nat.mul_le_mul_right _ hroom
      have hr2 := run_append_room (P := Tryd.prog) w t tt e i ht hi g n cap cur hg ad m c news hl hnews h1 hroom hfit
      rw [hr2] at hr
      cases hr
      exact .inl rfl
    · have holds : ∀ j u, xs[j]? = some u → w.cell? ((⟨g, 0, none⟩ : Addr).add j) = some u := hown.cells (g := g) rfl
      have hr2 := run_append_grow (P := Tryd.prog) w t tt e i z ht hi hz ⟨g, 0, none⟩ n cap xs hown.1 holds ad m c news hl hnews (by omega) (by omega) (growslice_fits (by omega) hbytes)
      rw [hr2] at hr
      cases hr
      exact .inr rfl
/-- A list of strings of the call's own, grown by one. -/
theorem step_append_str {ops : Array Oper} {o : Oper} {a : Act} {w : World} {K : Act → World → Prop} {Q : Exit → Act → World → Prop} {E : Prop} (w0 : World) (B : Nat) (hgd : o.guard = none) (s x : Operand)
    (hop : o.op = Op.call { callee := Callee.builtin Builtin.append, args := #[s, x], argTypes := #[36, 36] }) (v : Value) (L : List ByteArray) (y : ByteArray) (hw : w = w0.alloc (.cells #[.string y] 9)) (hs : a.eval s = v) (h : w0.ownsRow B 9 1 v L.length (strs L)) (hl : L.length + 1 ≤ 16384) (hB : B ≤ w0.heap.size)
    (hx : a.eval x = .slice (some ⟨w0.heap.size, 0, none⟩) 1 1)
    (hK : ∀ a' c' w', w'.ownsRow B 9 1 (.slice a' (L.length + 1) c') (L.length + 1) (strs (L ++ [y])) → (w0.alloc (.cells #[.string y] 9)).grownBy w' v.ownBlock → ((Value.slice a' (L.length + 1) c').ownBlock = v.ownBlock ∨ (Value.slice a' (L.length + 1) c').ownBlock = some (w0.heap.size + 1)) → K (a.put o.dst (.slice a' (L.length + 1) c')) w') :
    if Region.wanted o (yielded ops a.tmps) = true then Oper.wp Tryd.prog o a w K Q else E := by
  have hwd : Region.wanted o (yielded ops a.tmps) = true := by simp [Region.wanted, hgd]
  rw [if_pos hwd]
  subst hw
  obtain ⟨i0, hi, hz0, hz1, hz2⟩ := info_parts info_str
  obtain ⟨v', w', hrun, ho, hg, hbl⟩ := run_append_blk (w0.alloc (.cells #[.string y] 9)) B 36 o.type 9 i0 (.string ⟨#[]⟩) 1 16 Tryd.underlying36 hi hz0 hz1 hz2 rfl (by decide) v L.length (strs L) (h.kept (World.grownBy_alloc _ _ none) (by by_cases e : v.ownBlock = none; exact .inl e; exact .inr e)) ⟨w0.heap.size, 0, none⟩ 1 1 [.string y] rfl (by decide) (cell_one_new _ _ _) (by intro u hu; simp at hu; rcases hu with rfl; rfl) (by unfold maxLen; omega) (by omega) (by simp; omega)
  obtain ⟨a', c', rfl⟩ := row_val ho
  unfold Oper.wp
  simp [execOp, hop, resolve, invoke, builtin, hs, hx, hrun, Result.andThen]
  refine hK a' c' w' ?_ hg (by simpa using hbl)
  unfold strs at ho ⊢
  rw [List.map_append, List.map_singleton]
  exact ho
/-- The set, the list, and where they lie. -/
structure NamS (W : World) (B gm gl mb : Nat) (acc : List ByteArray) (lv : Value) (w : World) : Prop where
  bgm : Box w gm [.map (some mb)]
  bgl : Box w gl [lv]
  map : w.ownsMap Tryd.prog 9 unitElem mb acc.length (SdN acc)
  row : w.ownsRow B 9 1 lv acc.length (strs acc)
  lo : W.heap.size ≤ gm ∧ W.heap.size ≤ gl ∧ W.heap.size ≤ mb ∧ W.heap.size ≤ B
  hi : gm < B ∧ gl < B ∧ mb < B ∧ B ≤ w.heap.size
  ne : gm ≠ gl ∧ gm ≠ mb ∧ gl ≠ mb
theorem row_ge {w : World} {B n s : Nat} {e : TypeId} {v : Value} {xs : List Value} (h : w.ownsRow B e s v n xs) {k : Nat} (hk : v.ownBlock = some k) : B ≤ k ∧ k < w.heap.size := h.lt k hk
def NamR (W : World) (B gm gl mb : Nat) (acc : List ByteArray) (F : List Nat) (w : World) : Prop := ∃ lv, F = gl :: mb :: lv.ownBlock.toList ∧ NamS W B gm gl mb acc lv w
theorem NamS.next {W : World} {B gm gl mb : Nat} {acc : List ByteArray} {lv : Value} {w w' : World} (h : NamS W B gm gl mb acc lv w) (hb : Below w.heap.size w w') : NamS W B gm gl mb acc lv w' :=
  ⟨h.bgm.next hb, h.bgl.next hb, map_turn (S := []) h.map (Turn.of_below hb) (by simp), row_turn (S := []) h.row (Turn.of_below hb) (by simp), h.lo, ⟨h.hi.1, h.hi.2.1, h.hi.2.2.1, Nat.le_trans h.hi.2.2.2 hb.size⟩, h.ne⟩
end Go.Proofs.YtdikeicnefgjcaaDoor
