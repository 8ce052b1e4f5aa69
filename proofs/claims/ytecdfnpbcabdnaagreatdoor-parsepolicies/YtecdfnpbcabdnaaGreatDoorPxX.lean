/- Package parse: policy. -/
import Derived.Test.YtecdfnpbcabdnaaGreatDoorPxW
import Derived.Great.BuildSlice
namespace Go.Proofs.YtecdfnpbcabdnaaGreatDoor
open Go.RowKit Go.Lib

abbrev zs2 : List Value := [.string ⟨#[]⟩, .slice none 0 0]
/-- What an item's terms hold lies in memory, in blocks of which Q is so. -/
structure ItQ (Q : Nat → Prop) (z : Nat) (w : World) (i : It) (vx vy : Value) : Prop where
  sx : SitQ Q z w i.x vx
  sy : SitQ Q z w i.y vy
  nm : i.name.size ≤ z
  un : i.unit.size ≤ z
abbrev It3 := It × Value × Value
def flI (l : List It3) : List Value := (l.map fun p => itC p.1 p.2.1 p.2.2).flatten
theorem flI_append (a b : List It3) : flI (a ++ b) = flI a ++ flI b := by simp [flI]
theorem flI_cons (p : It3) (l : List It3) : flI (p :: l) = itC p.1 p.2.1 p.2.2 ++ flI l := rfl
theorem flI_len (l : List It3) : (flI l).length = l.length * 19 := by
  induction l with
  | nil => rfl
  | cons p r ih => rw [flI_cons, List.length_append, ih, List.length_cons]; simp; omega
theorem flI_get : ∀ (l : List It3) (i q : Nat), q < 19 → (hi : i < l.length) → (flI l)[i * 19 + q]? = (itC l[i].1 l[i].2.1 l[i].2.2)[q]?
  | [], i, q, _, hi => by simp at hi
  | p :: r, 0, q, hq, hi => by
    rw [flI_cons, Nat.zero_mul, Nat.zero_add, List.getElem?_append_left (by simpa using hq)]
    rfl
  | p :: r, i + 1, q, hq, hi => by
    rw [flI_cons, List.getElem?_append_right (by simp; omega)]
    rw [show (i + 1) * 19 + q - (itC p.1 p.2.1 p.2.2).length = i * 19 + q by simp; omega]
    exact flI_get r i q hq (by simpa using hi)
/-- The items l lie in the row v, that is its own: what their terms hold lies elsewhere, all of it from B on. -/
structure IaO (B z : Nat) (W : World) (v : Value) (l : List It3) : Prop where
  own : W.ownsRow B 53 19 v l.length (flI l)
  sit : ∀ p, p ∈ l → ItQ (fun b => B ≤ b ∧ v.ownBlock ≠ some b) z W p.1 p.2.1 p.2.2
theorem ItQ.turn {S : List Nat} {Q : Nat → Prop} {z : Nat} {w w' : World} {i : It} {vx vy : Value} (h : ItQ Q z w i vx vy) (k : Turn S w w') (hS : ∀ q ∈ S, ¬ Q q) : ItQ Q z w' i vx vy := ⟨h.sx.turnQ k hS, h.sy.turnQ k hS, h.nm, h.un⟩
theorem ItQ.weak {Q Q' : Nat → Prop} {z : Nat} {w : World} {i : It} {vx vy : Value} (h : ItQ Q z w i vx vy) (hk : ∀ b, b < w.heap.size → Q b → Q' b) : ItQ Q' z w i vx vy := ⟨h.sx.weak hk, h.sy.weak hk, h.nm, h.un⟩
theorem IaO.turn {S : List Nat} {B z : Nat} {w w' : World} {v : Value} {l : List It3} (h : IaO B z w v l) (k : Turn S w w') (hS : ∀ i ∈ S, i < B) : IaO B z w' v l :=
  ⟨ownQ_turn h.own k hS, fun p hp => (h.sit p hp).turn k (fun q hq hh => by have := hS q hq; have := hh.1; omega)⟩
theorem IaO.nil (B z : Nat) (w : World) : IaO B z w (.slice none 0 0) [] := ⟨⟨rfl, .inl ⟨rfl, rfl⟩⟩, fun _ hp => by cases hp⟩
theorem IaO.val {B z : Nat} {w : World} {v : Value} {l : List It3} (h : IaO B z w v l) : ∃ a n, v = .slice a l.length n := own_val h.own
theorem IaO.blk {B z : Nat} {w : World} {v : Value} {l : List It3} (h : IaO B z w v l) (g : Nat) (hg : v.ownBlock = some g) : B ≤ g ∧ g < w.heap.size := h.own.lt g hg
theorem IaO.lower {B B' z : Nat} {w : World} {v : Value} {l : List It3} (h : IaO B z w v l) (hB : B' ≤ B) : IaO B' z w v l := by
  refine ⟨?_, fun p hp => (h.sit p hp).weak (fun b _ hq => ⟨Nat.le_trans hB hq.1, hq.2⟩)⟩
  obtain ⟨h1, h2⟩ := h.own
  refine ⟨h1, ?_⟩
  rcases h2 with h2 | ⟨g, cap, cur, rfl, h3, h4⟩
  · exact .inl h2
  · exact .inr ⟨g, cap, cur, rfl, Nat.le_trans hB h3, h4⟩
theorem turn_two (w : World) (g : Nat) (v0 v1 : Value) : Turn [g] w ((w.setCell ⟨g, 0, none⟩ v0).setCell ⟨g, 1, none⟩ v1) := turn_one (turn_set _ _ _ _) (turn_set _ _ _ _)
/-- A policy that was read, in blocks from B on. -/
structure PoB (B z : Nat) (w : World) (p : ByteArray × List It) (u : Value) : Prop where
  it : ∃ l : List It3, p.2 = l.map Prod.fst ∧ IaO B z w u l
  nm : p.1.size ≤ z
abbrev VPo (B z : Nat) : ByteArray × List It → Value → World → Prop := fun p v w' => ∃ u, v = .agg #[.string p.1, u] ∧ PoB B z w' p u
theorem info_it2 : (Tryz.prog.info? 53).map (fun i => (i.zero, i.size, i.bytes)) = some (some (.agg zs19.toArray), 19, 216) := by kernel_rfl
/-- A row of items grows by others. -/
theorem IaO.grows {B z : Nat} {w w' : World} {v v' : Value} {l qs : List It3} (h : IaO B z w v l) (hq : ∀ p, p ∈ qs → ItQ (fun b => B ≤ b ∧ v.ownBlock ≠ some b) z w p.1 p.2.1 p.2.2) (ob : Obj)
    (ho : w'.ownsRow B 53 19 v' (l.length + qs.length) (flI l ++ flI qs)) (hg : (w.alloc ob).grownBy w' v.ownBlock) (hb : v'.ownBlock = v.ownBlock ∨ v'.ownBlock = some (w.alloc ob).heap.size) : IaO B z w' v' (l ++ qs) := by
  refine ⟨by rw [flI_append, List.length_append]; exact ho, fun p hp => ?_⟩
  have hs : ItQ (fun b => B ≤ b ∧ v.ownBlock ≠ some b) z w p.1 p.2.1 p.2.2 := by
    rcases List.mem_append.1 hp with h1 | h1
    · exact h.sit p h1
    · exact hq p h1
  have hsz := hg.size
  simp only [World.size_alloc] at hsz hb
  have k1 : ∀ b, b < w.heap.size → v.ownBlock ≠ some b → v'.ownBlock ≠ some b := fun b h1 h2 => by
    rcases hb with h3 | h3
    · rw [h3]; exact h2
    · rw [h3]; intro he; cases he; omega
  have k2 : ∀ b, b < w.heap.size → v.ownBlock ≠ some b → ∀ j, w'.cell? ⟨b, j, none⟩ = w.cell? ⟨b, j, none⟩ := fun b h1 h2 j => by
    have h3 := hg.block b (by simp; omega) (fun he => h2 he.symm)
    have h4 := World.cell?_of_block (a := ⟨b, j, none⟩) h3
    rw [h4]
    exact World.cell?_alloc_lt _ _ _ h1
  have key : ∀ t u, SitQ (fun b => B ≤ b ∧ v.ownBlock ≠ some b) z w t u → SitQ (fun b => B ≤ b ∧ v'.ownBlock ≠ some b) z w' t u := fun t u hs => SitQ.keep (by omega) (fun b h1 h2 => ⟨⟨h2.1, k1 b h1 h2.2⟩, k2 b h1 h2.2⟩) _ _ hs
  exact ⟨key _ _ hs.sx, key _ _ hs.sy, hs.nm, hs.un⟩
/-- A policy while its items are read. -/
structure PoS (z : Nat) (w W : World) (rb tb lb : Nat) (c : Int) (o g : Nat) (nm : ByteArray) (Lr : List Tk) (v : Value) (l : List It3) : Prop where
  rs : Box W w.heap.size zs2
  lt : Box W g [.string nm, v]
  pa : IaO (g + 1) z W v l
  re : Rea z W rb tb lb c Lr o
  tn : Turn [rb] w W
  gg : w.heap.size < g
  hr : rb < w.heap.size ∧ tb < w.heap.size ∧ lb < w.heap.size
theorem PoS.turn {z : Nat} {w W W' : World} {rb tb lb : Nat} {c : Int} {o g : Nat} {nm : ByteArray} {Lr Lq : List Tk} {v : Value} {l : List It3} (h : PoS z w W rb tb lb c o g nm Lr v l) (k : Turn [rb] W W') (r : Rea z W' rb tb lb c Lq o) : PoS z w W' rb tb lb c o g nm Lq v l := by
  have h1 := h.gg
  have h2 := h.hr
  exact ⟨h.rs.turn k (by simp; omega), h.lt.turn k (by simp; omega), h.pa.turn k (by simp; omega), r, Go.Proofs.YtecdfnpbcabdnaaGreatDoor.tn h.tn k, h.gg, h.hr⟩
theorem PoS.next {z : Nat} {w W W' : World} {rb tb lb : Nat} {c : Int} {o g : Nat} {nm : ByteArray} {Lr : List Tk} {v : Value} {l : List It3} (h : PoS z w W rb tb lb c o g nm Lr v l) (k : Below W.heap.size W W') : PoS z w W' rb tb lb c o g nm Lr v l :=
  h.turn (Turn.of_below k) (h.re.next k)
/-- An item more. -/
theorem PoS.added {z : Nat} {w W W' : World} {rb tb lb : Nat} {c : Int} {o g kk : Nat} {nm : ByteArray} {Lr : List Tk} {v v' : Value} {l k : List It3} (h : PoS z w W rb tb lb c o g nm Lr v l) (p : IaO (g + 1) z W' v' k) (hk : g + 1 ≤ kk) (t : Turn [kk] W W') : PoS z w (W'.setCell ⟨g, 1, none⟩ v') rb tb lb c o g nm Lr v' k := by
  have h1 := h.gg
  have h2 := h.hr
  exact ⟨(h.rs.turn t (by simp; omega)).other (by omega), (h.lt.turn t (by simp; omega)).set 1 (by simp) v', p.turn (turn_set W' g 1 v') (by simp), (h.re.turn1 t (by omega)).turn1 (turn_set W' g 1 v') (by omega), (h.tn.trans t (fun i hi => .inr (by simp at hi; omega))).andSet _ _ (.inr (by show w.heap.size ≤ g; omega)), h1, h2⟩
theorem bs_fill (i : It) (vx vy : Value) : Instr.fill (fun k => some (k * 19, 19)) ((Array.range (1 * 19)).map (zs19.toArray[· % zs19.toArray.size]!)) [(0, .agg (itC i vx vy).toArray)] = some (itC i vx vy).toArray := by kernel_rfl
theorem wpList_bs {ops : Array Oper} {rest : List Oper} {o : Oper} {a : Act} {w : World} {Q : Exit → Act → World → Prop} (hg : o.guard = none) (x : Operand) (ho : o.op = .buildSlice 23 1 #[(0, x)]) (i : It) (vx vy : Value) (Y : Array Value) (hY : Y = (itC i vx vy).toArray) (hx : a.eval x = .agg Y)
    (h : wpList Tryz.prog ops Q rest (a.put o.dst (.slice (some ⟨w.heap.size, 0, none⟩) 1 1)) (w.alloc (.cells Y 53))) : wpList Tryz.prog ops Q (o :: rest) a w := by
  obtain ⟨i0, hi, hz0, hz1, hz2⟩ := info_parts info_it2
  refine wpList_buildSlice hg 23 53 1 #[(0, x)] ho Y i0 (.agg zs19.toArray) Tryz.underlying23 hi hz0 (by rw [hz1]; decide) (by rw [hz1]; decide) ?_ h
  rw [hz1, hY]
  have := bs_fill i vx vy
  simpa [hx, hY, Value.cells] using this
theorem wpList_append_it {ops : Array Oper} {rest : List Oper} {o : Oper} {a : Act} {w : World} {Q : Exit → Act → World → Prop} {z : Nat} (hgd : o.guard = none) (w0 : World) (B : Nat) (s x : Operand)
    (hop : o.op = Op.call { callee := Callee.builtin Builtin.append, args := #[s, x], argTypes := #[23, 23] }) (v : Value) (l qs : List It3) (hw : w = w0.alloc (.cells (flI qs).toArray 53)) (hs : a.eval s = v) (h : IaO B z w0 v l)
    (hq : ∀ p, p ∈ qs → ItQ (fun b => B ≤ b ∧ v.ownBlock ≠ some b) z w0 p.1 p.2.1 p.2.2) (h1 : ∀ u ∈ flI qs, u.oneCell' = true) (hl : l.length + qs.length ≤ 1000000) (hB : B ≤ w0.heap.size)
    (hx : a.eval x = .slice (some ⟨w0.heap.size, 0, none⟩) qs.length qs.length)
    (hK : ∀ a' c' w' k, IaO B z w' (.slice a' (l.length + qs.length) c') (l ++ qs) → B ≤ k → (v.ownBlock = some k ∨ k = w0.heap.size) → Turn [k] w0 w' → wpList Tryz.prog ops Q rest (a.put o.dst (.slice a' (l.length + qs.length) c')) w') :
    wpList Tryz.prog ops Q (o :: rest) a w := by
  subst hw
  obtain ⟨i0, hi, hz0, hz1, hz2⟩ := info_parts info_it2
  refine wpList_append_own_at (P := Tryz.prog) _ hgd s x 23 hop B 53 i0 _ 19 216 Tryz.underlying23 hi hz0 hz1 hz2 rfl (by decide) v l.length (flI l) hs (h.own.alloc _) ⟨w0.heap.size, 0, none⟩ qs.length qs.length (flI qs) hx (flI_len qs)
    (fun j u hj => by
      have hadd : (⟨w0.heap.size, 0, none⟩ : Addr).add j = ⟨w0.heap.size, j, none⟩ := by unfold Addr.add; split <;> simp_all
      rw [hadd]
      exact (Box.new w0 (flI qs) 53).cell j u hj)
    h1 (by unfold maxLen; omega) (by omega) (by simp; omega) ?_
  intro v' w' ho hg _ hb
  obtain ⟨a', c', rfl⟩ := own_val ho
  obtain ⟨k, hk1, hk2, hk3⟩ : ∃ k, B ≤ k ∧ (v.ownBlock = some k ∨ k = w0.heap.size) ∧ ∀ q, v.ownBlock = some q → q ∈ [k] := by
    rcases hv : v.ownBlock with _ | q
    · exact ⟨w0.heap.size, hB, .inr rfl, fun q hq => by cases hq⟩
    · exact ⟨q, (h.own.lt q hv).1, .inl rfl, fun q' hq' => by cases hq'; simp⟩
  exact hK a' c' w' k (h.grows hq _ ho hg hb) hk1 hk2 (own_turnG rfl hg [k] hk3)
set_option maxHeartbeats 4000000 in
set_option maxRecDepth 20000 in
theorem policy_c {z rb tb lb : Nat} {c : Int} {L : List Tk} {o : Nat} (hz : z ≤ 9223372036854775807) {N : Nat} {E A : Ps} (HE : ExC z rb tb lb c o 21 E) (hDE : Dec E) (hDA : Dec A) (HA : AcC z rb tb lb c o N 53 A) (hN : L.length ≤ N) (hN2 : N ≤ 1000000) (w : World) (hr : Rea z w rb tb lb c L o) :
    Calls Tryz.prog 14 #[.pointer (some ⟨rb, 0, none⟩)] w (Out (VPo w.heap.size z) z w rb tb lb c o (polP c E A L)) := by
  obtain ⟨pr, hpr⟩ : ∃ pr, Hid (pr = polP c E A L) := ⟨_, rfl⟩
  rw [← hpr.out]
  have hE : Hid (∀ f w', pr = .error f → Turn [rb] w w' → Out (VPo w.heap.size z) z w rb tb lb c o pr (.panicked [fltE f]) w') := fun f w' h ht => Out.mk_err h ht
  have hO : Hid (∀ p L' w' v u, pr = .ok (p, L') → Turn [rb] w w' → v = .agg #[.string p.1, u] → PoB w.heap.size z w' p u → Rea z w' rb tb lb c L' o → Out (VPo w.heap.size z) z w rb tb lb c o pr (.returned v) w') := fun p L' w' v u h ht hv hs hr' => Out.mk_ok h ht ⟨u, hv, hs⟩ hr'
  generalize Out (VPo w.heap.size z) z w rb tb lb c o pr = Post at *
  have hL := hr.lts
  have hne : w.heap.size ∉ [rb] := by simp; omega
  have fl1 := fld1
  obtain ⟨m, hm19⟩ : ∃ m : Nat, Hid (m = 19) := ⟨_, rfl⟩
  have zs : ∀ w, (sizeOf 53).run Tryz.prog w = .ok m w := by rw [hm19.out]; exact Tryz.sizeOf53
  have zm : (19 = m) = True := eq_true hm19.out.symm
  have Z0 := Box.new w zs2 25
  go_enter Tryz.func14, Tryz.ntmps14
  go_wp2_with fail
  have T0 := tnO (ob := .cells (zs2).toArray 25) (Turn.refl [rb] w)
  have r0 := hr.onO (ob := .cells (zs2).toArray 25)
  have Rs0 := Z0
  have zsz : w.heap.size < (w.alloc (.cells (zs2).toArray 25)).heap.size := by simp
  have hz0 : (w.alloc (.cells (zs2).toArray 25)).heap.size = w.heap.size + 1 := by simp
  clear Z0
  generalize hW0 : w.alloc _ = w0 at *
  clear hW0
  clear hz0
  clear hr
  rw [polP] at hpr
  refine Calls.mono (must_c k_policy _ r0) ?_
  rintro e w1 h1
  rcases hy1 : mustS c k_policy L with f | a
  · obtain ⟨rfl, t1⟩ := Out.of_err hy1 h1
    go_wp2_with fail
    exact ⟨rfl, hE.out _ _ (by rw [hpr.out, hy1]; rfl) (tn T0 t1)⟩
  obtain ⟨t1, _, rfl, rfl, r1⟩ := Out.of_ok hy1 h1
  have Rs1 := Rs0.turn t1 hne
  have T1 := tn T0 t1
  have s1 := t1.size
  clear Rs0 T0 r0 h1 t1
  have hpr1 : Hid (pr = bnd (takeK c 1 a.2) fun t => bnd (mustS c k_sem t.2) fun b => bnd (itemsP c E A b.2.length [] b.2) fun z => .ok ((t.1.text, z.1), z.2)) := by show _ = _; rw [hpr.out, hy1]; rfl
  have htl1 := r1.tl
  go_wp2_with fail
  refine Calls.mono (take_c2 1 (by decide) _ r1) ?_
  rintro e w2 h2
  rcases hy2 : takeK c 1 a.2 with f | q
  · obtain ⟨rfl, t2⟩ := Out.of_err hy2 h2
    go_wp2_with fail
    exact ⟨rfl, hE.out _ _ (by rw [hpr1.out, hy2]; rfl) (tn T1 t2)⟩
  obtain ⟨t2, _, rfl, rfl, r2⟩ := Out.of_ok hy2 h2
  have Rs2 := Rs1.turn t2 hne
  have T2 := tn T1 t2
  have s2 := t2.size
  clear Rs1 T1 r1 h2 t2
  have hpr2 : Hid (pr = bnd (mustS c k_sem q.2) fun b => bnd (itemsP c E A b.2.length [] b.2) fun z => .ok ((q.1.text, z.1), z.2)) := by show _ = _; rw [hpr1.out, hy2]; rfl
  simp only [tkW]
  go_wp2_with fail
  have t3 := tnO (ob := .cells ([.string q.1.text, .slice none 0 0]).toArray 25) (Turn.refl [rb] w2)
  have r3 := r2.onO (ob := .cells ([.string q.1.text, .slice none 0 0]).toArray 25)
  have Lt3 := Box.new w2 [.string q.1.text, .slice none 0 0] 25
  have hnLt : w2.heap.size ∉ [rb] := by simp; omega
  have hxLt : w2.heap.size < (w2.alloc (.cells ([.string q.1.text, .slice none 0 0]).toArray 25)).heap.size := by simp
  have Rs3 := Rs2.turn t3 hne
  have T3 := tn T2 t3
  have s3 := t3.size
  clear Rs2 T2 r2 t3
  generalize hW3 : w2.alloc _ = w3 at *
  clear hW3
  refine Calls.mono (must_c k_sem _ r3) ?_
  rintro e w4 h4
  rcases hy3 : mustS c k_sem q.2 with f | b
  · obtain ⟨rfl, t4⟩ := Out.of_err hy3 h4
    go_wp2_with fail
    exact ⟨rfl, hE.out _ _ (by rw [hpr2.out, hy3]; rfl) (tn T3 t4)⟩
  obtain ⟨t4, _, rfl, rfl, r4⟩ := Out.of_ok hy3 h4
  have Rs4 := Rs3.turn t4 hne
  have Lt4 := Lt3.turn t4 hnLt
  have T4 := tn T3 t4
  have s4 := t4.size
  clear Rs3 Lt3 T3 r3 h4 t4
  have hpr3 : Hid (pr = bnd (itemsP c E A b.2.length [] b.2) fun z => .ok ((q.1.text, z.1), z.2)) := by show _ = _; rw [hpr2.out, hy3]; rfl
  have hbN : b.2.length ≤ N := by
    have h1 := dec_must hy1
    have h2 := dec_take hy2
    have h3 := dec_must hy3
    omega
  have C : PoS z w w4 rb tb lb c o (w2.heap.size) q.1.text b.2 (.slice none 0 0) [] := ⟨Rs4, Lt4, IaO.nil _ _ _, r4, T4, by omega, hL⟩
  clear Rs4 Lt4 T4 r4
  obtain ⟨g, hgg⟩ : ∃ g, Hid (g = w2.heap.size) := ⟨_, rfl⟩
  rw [← hgg.out] at C ⊢
  have HC0 := hid2 C
  clear C
  generalize hW : w4 = W0 at *
  clear hW
  go_wp2_with fail
  go_loopw [] (fun wr => ∃ (Lr : List Tk) (v : Value) (l : List It3) (f : Nat), Lr.length ≤ f ∧ f ≤ N ∧ l.length + f ≤ N ∧ Hid (PoS z w wr rb tb lb c o g q.1.text Lr v l) ∧ Hid (pr = bnd (itemsP c E A f (l.map Prod.fst) Lr) fun z => .ok ((q.1.text, z.1), z.2))) (fun wr => rdLen wr rb)
  · exact ⟨b.2, _, _, b.2.length, Nat.le_refl _, hbN, by simp; omega, HC0, hpr3⟩
  obtain ⟨Lr, v, l, f, hf, hfN, hl, HC, HQ⟩ := hrel
  have hpos := HC.out.re.tl.pos
  have hlen := HC.out.re.len
  obtain ⟨f', rfl⟩ : ∃ f', f = f' + 1 := ⟨f - 1, by omega⟩
  clear HC0 hpr3
  rw [itemsP_succ] at HQ
  have hgg0 := HC.out.gg
  go_wp2_with fail
  refine Calls.mono (item_c hz HE hDE HA (by omega) _ HC.out.re) ?_
  rintro e w1x h1
  rcases hz1 : itemP c E A Lr with fl | x
  · obtain ⟨rfl, t1⟩ := Out.of_err hz1 h1
    go_wp2_with fail
    exact ⟨rfl, hE.out _ _ (by rw [HQ.out, hz1]; rfl) (tn HC.out.tn t1)⟩
  obtain ⟨t1, ve, he, ⟨vx, vy, hv, S1⟩, r1⟩ := Out.of_ok hz1 h1
  obtain ⟨Y, hY⟩ : ∃ Y : Array Value, Hid (Y = (itC x.1 vx vy).toArray) := ⟨_, rfl⟩
  have he2 : e = .returned (.agg Y) := by rw [he, hv, hY.out]
  subst he2
  have o1 : Y.all (·.oneCell') = true := by rw [hY.out]; exact S1.one
  have sY : Y.size = 19 := by rw [hY.out]; rfl
  have HC1 := hid2 (HC.out.turn t1 r1)
  have HQ1 : Hid (pr = bnd (bnd (mustS c k_sem x.2) fun b => if x.1.kind = 7 then .ok (l.map Prod.fst ++ [x.1], b.2) else itemsP c E A f' (l.map Prod.fst ++ [x.1]) b.2) fun z => .ok ((q.1.text, z.1), z.2)) := by show _ = _; rw [HQ.out, hz1]; rfl
  have sz1 := t1.size
  have hd1 := dec_item hDE hDA hz1
  have hbk := hid2 HC.out.pa.blk
  have hlg := HC.out.lt.lt
  have S2 : ItQ (fun b => g + 1 ≤ b ∧ v.ownBlock ≠ some b) z w1x x.1 vx vy := by
    have hw : ∀ b, b < w1x.heap.size → wr.heap.size ≤ b → g + 1 ≤ b ∧ v.ownBlock ≠ some b := fun b _ hq => ⟨by omega, fun hh => by have := (hbk.out b hh).2; omega⟩
    exact ⟨SitQ.weak S1.sx hw, SitQ.weak S1.sy hw, S1.nm, S1.un⟩
  have stY := st_it w1x (X := Y) sY o1
  unfold zeroI at stY
  clear h1 t1 r1 HC HQ S1 he hv
  have hbi0 : wr.heap.size ≤ w1x.heap.size := sz1
  go_wp2_with fail
  have al := (Below.refl w1x.heap.size w1x).alloc (Nat.le_refl _) (.cells Y 53)
  have HC2 := hid2 (HC1.out.next al)
  have BI2 : Box (w1x.alloc (.cells Y 53)) w1x.heap.size (itC x.1 vx vy) := by rw [hY.out]; exact Box.new w1x _ _
  have S3 := S2.turn (S := []) (Turn.of_below al) (by simp)
  have hsz3 : w1x.heap.size < (w1x.alloc (.cells Y 53)).heap.size := by simp
  clear HC1 S2 al stY
  obtain ⟨bi, hbi⟩ : ∃ bi, Hid (bi = w1x.heap.size) := ⟨_, rfl⟩
  rw [← hbi.out] at BI2 hsz3 ⊢
  have hbi1 : g < bi := by rw [hbi.out]; omega
  have hbi2 : w1x.heap.size ≤ bi := by rw [hbi.out]; exact Nat.le_refl _
  generalize hW3 : w1x.alloc _ = w3x at *
  clear hW3
  refine Calls.mono (must_c k_sem _ HC2.out.re) ?_
  rintro e w4x h1
  rcases hz2 : mustS c k_sem x.2 with fl | d
  · obtain ⟨rfl, t1⟩ := Out.of_err hz2 h1
    go_wp2_with fail
    exact ⟨rfl, hE.out _ _ (by rw [HQ1.out, hz2]; rfl) (tn HC2.out.tn t1)⟩
  obtain ⟨t1, _, rfl, rfl, r1⟩ := Out.of_ok hz2 h1
  have HC3 := hid2 (HC2.out.turn t1 r1)
  have HQ2 : Hid (pr = bnd (if x.1.kind = 7 then .ok (l.map Prod.fst ++ [x.1], d.2) else itemsP c E A f' (l.map Prod.fst ++ [x.1]) d.2) fun z => .ok ((q.1.text, z.1), z.2)) := by show _ = _; rw [HQ1.out, hz2]; rfl
  have hd2 := dec_must hz2
  have hrb0 : rb < w.heap.size := hL.1
  have BI4 := BI2.turn t1 (by simp; omega)
  have S4 := S3.turn t1 (by simp only [List.mem_singleton]; rintro i rfl hh; omega)
  have sz4 := t1.size
  have HX2 := hid2 HC2.out.re.tl.pos
  clear h1 t1 r1 HC2 HQ1 BI2 S3
  have c1 := HC3.out.lt.cell 1 _ rfl
  have f1 := HC3.out.lt.free 1 (by simp)
  have l1 := HC3.out.lt.lt
  have ldI := ld_row (X := Y) BI4 (by rw [hY.out]) (n := m) hm19.out
  have k0 := BI4.cell 0 _ rfl
  have lI := BI4.lt
  have HS4 := hid2 S4
  have HY : Hid (w4x.alloc (.cells Y 53) = w4x.alloc (.cells (flI [(x.1, vx, vy)]).toArray 53)) := by show _ = _; rw [hY.out]; simp [flI]
  have HO : Hid (∀ u ∈ flI [(x.1, vx, vy)], u.oneCell' = true) := fun u hu => Array.all_eq_true_iff_forall_mem.1 o1 u (by rw [hY.out]; simpa [flI] using hu)
  clear S4
  go_wp2_with (first
    | (refine wpList_bs rfl _ rfl x.1 vx vy Y hY.out rfl ?_)
    | (at_builtin; refine wpList_append_it (z := z) rfl w4x (g + 1) _ _ rfl v l [(x.1, vx, vy)] ?h1 ?h2 ?h3 ?h4 ?h5 ?h6 ?h7 ?h8 ?h9))
  case h1 => exact HY.out
  case h3 => exact HC3.out.pa
  case h4 => intro p hp; obtain rfl := List.mem_singleton.1 hp; exact HS4.out
  case h5 => exact HO.out
  case h6 => simp; omega
  case h7 => omega
  intro a60 d60 wa k60 p60 hk60 ho60 b60
  have hkg : k60 ≠ g := by omega
  have hkb : k60 ≠ bi := by
    rcases ho60 with h | h
    · have := (hbk.out _ h).2
      omega
    · omega
  have CA := hid2 (HC3.out.added p60 hk60 b60)
  have e1 := (HC3.out.lt.turn b60 (by simp; omega)).cell 1 _ rfl
  have g1 := (HC3.out.lt.turn b60 (by simp; omega)).free 1 (by simp)
  have m1 := (HC3.out.lt.turn b60 (by simp; omega)).lt
  have e0 := (HC3.out.lt.turn b60 (by simp; omega)).cell 0 _ rfl
  have rsa := HC3.out.rs.turn b60 (by simp; omega)
  have p0 := rsa.cell 0 _ rfl
  have p1 := rsa.cell 1 _ rfl
  have pf0 := rsa.free 0 (by simp)
  have pf1 := rsa.free 1 (by simp)
  have pl := rsa.lt
  have hgw : g ≠ w.heap.size := by omega
  clear rsa
  have BI6 := (BI4.turn b60 (by simp; omega)).other (q := g) (j := 1) (v := .slice a60 (l.length + [(x.1, vx, vy)].length) d60) (by omega)
  have i0 := BI6.cell 0 _ rfl
  have i1 := BI6.lt
  have ib0 := (BI4.turn b60 (by simp; omega)).cell 0 _ rfl
  have ib1 := (BI4.turn b60 (by simp; omega)).lt
  clear p60 b60 ho60 BI4 BI6 HC3 HS4 HY HO c1 f1 l1 ldI k0 lI hbk
  by_cases h7 : x.1.kind = 7
  · have HQ3 : Hid (pr = .ok ((q.1.text, l.map Prod.fst ++ [x.1]), d.2)) := by show _ = _; rw [HQ2.out, if_pos h7]; rfl
    rw [h7] at i0 ib0
    clear HQ2
    go_wp2_with fail
    refine bodyPost_ret (v := .agg #[.string q.1.text, .slice a60 (l.length + 1) d60]) (by simp [results, Tryz.results14, go_sem, *]) rfl (hO.out (q.1.text, l.map Prod.fst ++ [x.1]) d.2 _ _ (.slice a60 (l.length + 1) d60) HQ3.out ?_ rfl ⟨⟨l ++ [(x.1, vx, vy)], by simp, ?_⟩, (takeK_tl htl1 hy2 (by decide)).1.x⟩ ?_)
    · exact CA.out.tn.trans (turn_two _ _ _ _) (fun i hi => .inr (by simp at hi; omega))
    · exact (CA.out.pa.turn (turn_two _ _ _ _) (by simp; omega)).lower (by omega)
    · exact CA.out.re.turn1 (turn_two _ _ _ _) hL
  · have HQ3 : Hid (pr = bnd (itemsP c E A f' (l.map Prod.fst ++ [x.1]) d.2) fun z => .ok ((q.1.text, z.1), z.2)) := by show _ = _; rw [HQ2.out, if_neg h7]
    have hk7 : (x.1.kind == 7) = false := by simpa using h7
    have hd3 : d.2.length + 1 ≤ x.2.length := by
      have h1 := mustS_len hz2
      have h2 := HX2.out
      rw [h1, List.length_tail]
      omega
    clear HQ2
    go_wp2_with fail
    go_roundw
    · exact ⟨d.2, _, _, f', by rw [List.length_tail] at hd1; omega, by omega, by simp; omega, CA, by show _ = _; rw [HQ3.out]; simp⟩
    · rw [CA.out.re.len, hlen]
      rw [List.length_tail] at hd1
      omega

end Go.Proofs.YtecdfnpbcabdnaaGreatDoor
