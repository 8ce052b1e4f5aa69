/- The document's reader in memory: items. -/
import Derived.Test.YtecdfnpbcabdnaaGreatDoorPsA
import Derived.Test.YtecdfnpbcabdnaaGreatDoorPrL
import Derived.Test.YtecdfnpbcabdnaaGreatDoorPxW
namespace Go.Proofs.YtecdfnpbcabdnaaGreatDoor
open Go.RowKit Go.Lib

/-- What the document's item answers. -/
def IqP (z : Nat) (w : World) (rb tb : Nat) (LL : List Tk) (c : Int) (o : Nat) (y : It × Sr) (e : Ending) (w' : World) : Prop := Turn [rb] w w' ∧ (∃ vx vy, e = .returned (itA y.1 vx vy) ∧ ItB w.heap.size z w' y.1 vx vy) ∧ Rr z w' rb tb LL c y.2 o
/-- An item under way: it lies at g. -/
structure ImS (z : Nat) (w W : World) (rb tb : Nat) (LL : List Tk) (c : Int) (o g : Nat) (S : Sr) (i : It) (vx vy : Value) : Prop where
  re : Rr z W rb tb LL c S o
  tn : Turn [rb] w W
  rs : Box W w.heap.size zs19
  lt : Box W g (itC i vx vy)
  sx : SitQ (fun b => w.heap.size < b ∧ b ≠ g) z W i.x vx
  sy : SitQ (fun b => w.heap.size < b ∧ b ≠ g) z W i.y vy
  nm : i.name.size ≤ z
  un : i.unit.size ≤ z
  gg : w.heap.size < g
  rl : rb < w.heap.size ∧ tb < w.heap.size
theorem ImS.turn {z : Nat} {w W W' : World} {rb tb : Nat} {LL : List Tk} {c : Int} {o g : Nat} {S S' : Sr} {i : It} {vx vy : Value} (h : ImS z w W rb tb LL c o g S i vx vy) (k : Turn [rb] W W') (r : Rr z W' rb tb LL c S' o) : ImS z w W' rb tb LL c o g S' i vx vy := by
  have h1 := h.gg
  have h2 := h.rl
  exact ⟨r, turn_one h.tn k, h.rs.turn k (by simp; omega), h.lt.turn k (by simp; omega), SitQ.keep k.size (fun b hb hq => ⟨hq, fun j => turn_cell k hb (by simp; omega)⟩) _ _ h.sx, SitQ.keep k.size (fun b hb hq => ⟨hq, fun j => turn_cell k hb (by simp; omega)⟩) _ _ h.sy, h.nm, h.un, h1, h2⟩
theorem ImS.next {z : Nat} {w W W' : World} {rb tb : Nat} {LL : List Tk} {c : Int} {o g : Nat} {S : Sr} {i : It} {vx vy : Value} (h : ImS z w W rb tb LL c o g S i vx vy) (k : Below W.heap.size W W') : ImS z w W' rb tb LL c o g S i vx vy := h.turn (Turn.of_below k) (h.re.next k)
/-- A field is written. -/
theorem ImS.set {z : Nat} {w W : World} {rb tb : Nat} {LL : List Tk} {c : Int} {o g : Nat} {S : Sr} {i : It} {vx vy : Value} (h : ImS z w W rb tb LL c o g S i vx vy) (j : Nat) (v : Value) (i' : It) (hj : j < 19) (he : (itC i vx vy).set j v = itC i' vx vy) (hx : i'.x = i.x) (hy : i'.y = i.y) (hn : i'.name.size ≤ z) (hu : i'.unit.size ≤ z) :
    ImS z w (W.setCell ⟨g, j, none⟩ v) rb tb LL c o g S i' vx vy := by
  have h1 := h.gg
  have h2 := h.rl
  have k := turn_set W g j v
  have L := h.lt.set j (by simpa using hj) v
  rw [he] at L
  exact ⟨h.re.turn k (by simp; omega) (by simp; omega), h.tn.andSet _ _ (.inr (by show w.heap.size ≤ g; omega)), h.rs.turn k (by simp; omega), L, by rw [hx]; exact SitQ.keep k.size (fun b hb hq => ⟨hq, fun j => turn_cell k hb (by simp; exact hq.2)⟩) _ _ h.sx, by rw [hy]; exact SitQ.keep k.size (fun b hb hq => ⟨hq, fun j => turn_cell k hb (by simp; exact hq.2)⟩) _ _ h.sy, hn, hu, h1, h2⟩
theorem ImS.setX {z : Nat} {w W : World} {rb tb : Nat} {LL : List Tk} {c : Int} {o g : Nat} {S : Sr} {i : It} {vx vy : Value} (h : ImS z w W rb tb LL c o g S i vx vy) {t : Tm} {u : Value} (s : SitQ (fun b => w.heap.size < b ∧ b ≠ g) z W t u) :
    ImS z w ((((((W.setCell ⟨g, 6, none⟩ (.int .i64 t.kind)).setCell ⟨g, 7, none⟩ (.string t.text)).setCell ⟨g, 8, none⟩ (.int .i64 t.n)).setCell ⟨g, 9, none⟩ (.int .i64 t.m)).setCell ⟨g, 10, none⟩ (.int .i64 t.pl)).setCell ⟨g, 11, none⟩ u) rb tb LL c o g S ⟨i.kind, i.name, i.unit, i.a, i.b, i.c, t, i.y, i.pl⟩ u vy := by
  have h1 := h.gg
  have h2 := h.rl
  have k := turn_six_at W g 6 (.int .i64 t.kind) (.string t.text) (.int .i64 t.n) (.int .i64 t.m) (.int .i64 t.pl) u
  have L := h.lt.six_at 6 (by simp) (.int .i64 t.kind) (.string t.text) (.int .i64 t.n) (.int .i64 t.m) (.int .i64 t.pl) u
  exact ⟨h.re.turn k (by simp; omega) (by simp; omega), h.tn.trans k (fun i hi => .inr (by simp at hi; omega)), h.rs.turn k (by simp; omega), L, SitQ.keep k.size (fun b hb hq => ⟨hq, fun j => turn_cell k hb (by simp; exact hq.2)⟩) _ _ s, SitQ.keep k.size (fun b hb hq => ⟨hq, fun j => turn_cell k hb (by simp; exact hq.2)⟩) _ _ h.sy, h.nm, h.un, h1, h2⟩
theorem ImS.setY {z : Nat} {w W : World} {rb tb : Nat} {LL : List Tk} {c : Int} {o g : Nat} {S : Sr} {i : It} {vx vy : Value} (h : ImS z w W rb tb LL c o g S i vx vy) {t : Tm} {u : Value} (s : SitQ (fun b => w.heap.size < b ∧ b ≠ g) z W t u) :
    ImS z w ((((((W.setCell ⟨g, 12, none⟩ (.int .i64 t.kind)).setCell ⟨g, 13, none⟩ (.string t.text)).setCell ⟨g, 14, none⟩ (.int .i64 t.n)).setCell ⟨g, 15, none⟩ (.int .i64 t.m)).setCell ⟨g, 16, none⟩ (.int .i64 t.pl)).setCell ⟨g, 17, none⟩ u) rb tb LL c o g S ⟨i.kind, i.name, i.unit, i.a, i.b, i.c, i.x, t, i.pl⟩ vx u := by
  have h1 := h.gg
  have h2 := h.rl
  have k := turn_six_at W g 12 (.int .i64 t.kind) (.string t.text) (.int .i64 t.n) (.int .i64 t.m) (.int .i64 t.pl) u
  have L := h.lt.six_at 12 (by simp) (.int .i64 t.kind) (.string t.text) (.int .i64 t.n) (.int .i64 t.m) (.int .i64 t.pl) u
  exact ⟨h.re.turn k (by simp; omega) (by simp; omega), h.tn.trans k (fun i hi => .inr (by simp at hi; omega)), h.rs.turn k (by simp; omega), L, SitQ.keep k.size (fun b hb hq => ⟨hq, fun j => turn_cell k hb (by simp; exact hq.2)⟩) _ _ h.sx, SitQ.keep k.size (fun b hb hq => ⟨hq, fun j => turn_cell k hb (by simp; exact hq.2)⟩) _ _ s, h.nm, h.un, h1, h2⟩
theorem ImS.made {z : Nat} {w w1 : World} {rb tb : Nat} {LL : List Tk} {c : Int} {o : Nat} {S : Sr} (h : Rr z w rb tb LL c S o) (b1 : Below (w.alloc (.cells zs19.toArray 53)).heap.size (w.alloc (.cells zs19.toArray 53)) w1) (a : Int) :
    ImS z w (w1.alloc (.cells (itC (it0 0 a) (.slice none 0 0) (.slice none 0 0)).toArray 53)) rb tb LL c o w1.heap.size S (it0 0 a) (.slice none 0 0) (.slice none 0 0) := by
  have k0 := (Below.refl w.heap.size w).alloc (Nat.le_refl _) (.cells zs19.toArray 53)
  have k2 := (Below.refl w1.heap.size w1).alloc (Nat.le_refl _) (.cells (itC (it0 0 a) (.slice none 0 0) (.slice none 0 0)).toArray 53)
  have hs := b1.size
  simp only [World.size_alloc] at hs
  exact ⟨((h.next k0).next b1).next k2, ((Turn.of_below k0).andBelow b1).andBelow k2, ((Box.new w zs19 53).next b1).next k2, Box.new w1 _ _, nil_sits _ _, nil_sits _ _, Nat.zero_le _, Nat.zero_le _, by omega, h.lts⟩
/-- What is given back. -/
theorem ImS.itb {z : Nat} {w W W' : World} {rb tb : Nat} {LL : List Tk} {c : Int} {o g : Nat} {S : Sr} {i : It} {vx vy : Value} (h : ImS z w W rb tb LL c o g S i vx vy) (k : Turn [w.heap.size] W W') : ItB w.heap.size z W' i vx vy :=
  ⟨SitQ.keep k.size (fun b hb hq => ⟨by show w.heap.size ≤ b; omega, fun j => turn_cell k hb (by simp; omega)⟩) _ _ h.sx, SitQ.keep k.size (fun b hb hq => ⟨by show w.heap.size ≤ b; omega, fun j => turn_cell k hb (by simp; omega)⟩) _ _ h.sy, h.nm, h.un⟩
theorem ImS.one {z : Nat} {w W : World} {rb tb : Nat} {LL : List Tk} {c : Int} {o g : Nat} {S : Sr} {i : It} {vx vy : Value} (h : ImS z w W rb tb LL c o g S i vx vy) : (itC i vx vy).toArray.all (·.oneCell') = true := (h.itb (Turn.refl _ _)).one
theorem build_it8 (a : Int) (w : World) : (Instr.build 53 #[(8, .int .i64 a)]).run Tryz.prog w = .ok (.agg (itC (it0 0 a) (.slice none 0 0) (.slice none 0 0)).toArray) w :=
  run_build w _ _ _ (by kernel_rfl)
theorem wpList_it8 {ops : Array Oper} {rest : List Oper} {o : Oper} {a : Act} {Q : Exit → Act → World → Prop} {w : World} (hgd : o.guard = none) (y : Operand) (ho : o.op = .build 53 #[(8, y)]) (p : Int) (hy : a.eval y = .int .i64 p)
    (X : Array Value) (hX : X = (itC (it0 0 p) (.slice none 0 0) (.slice none 0 0)).toArray) (h : wpList Tryz.prog ops Q rest (a.put o.dst (.agg X)) w) : wpList Tryz.prog ops Q (o :: rest) a w := by
  refine wpList_plain hgd fun K hK => ?_
  subst hX
  unfold Oper.wp execOp
  have hb := build_it8 p w
  simp only [ho, Sem.run_bind, List.map_toArray, List.map_cons, List.map_nil, hy, hb, Result.andThen_ok]
  exact hK _ _ h
set_option maxHeartbeats 16000000 in
set_option maxRecDepth 20000 in
theorem qItem_coolU {z rb tb : Nat} {LL : List Tk} {c : Int} {o : Nat} (hz : z ≤ 9223372036854775807) {S : Sr} (n0 : isR k_metric S = false) (n1 : isR k_reps S = false) (y : isR k_cooldown S = true) (u : isR k_up (adv S) = true) (w : World) (hr : Rr z w rb tb LL c S o) :
    Calls Tryz.prog 18 #[.pointer (some ⟨rb, 0, none⟩)] w (IqP z w rb tb LL c o ((coolR c (hdT S.L).at_ (adv S)).1, mustR c k_sem (coolR c (hdT S.L).at_ (adv S)).2)) := by
  obtain ⟨R, hR⟩ : ∃ R, Hid (R = ((coolR c (hdT S.L).at_ (adv S)).1, mustR c k_sem (coolR c (hdT S.L).at_ (adv S)).2)) := ⟨_, rfl⟩
  rw [← hR.out]
  have hP : Hid (∀ w' Y i vx vy S', Y = (itC i vx vy).toArray → Turn [rb] w w' → Rr z w' rb tb LL c S' o → ItB w.heap.size z w' i vx vy → R = (i, S') → IqP z w rb tb LL c o R (.returned (.agg Y)) w') := fun w' Y i vx vy S' h0 h1 h2 h3 h4 => ⟨h1, ⟨vx, vy, by rw [h4, h0], by rw [h4]; exact h3⟩, by rw [h4]; exact h2⟩
  generalize IqP z w rb tb LL c o R = Post at *
  have hl0 := hr.lts
  have hat := hr.tl.ok.a
  have hz0 := hid2 hz
  have fl1 := fld1
  have fl2 := fld2
  obtain ⟨m, hm19⟩ : ∃ m : Nat, Hid (m = 19) := ⟨_, rfl⟩
  have zs : ∀ w, (sizeOf 53).run Tryz.prog w = .ok m w := by rw [hm19.out]; exact Tryz.sizeOf53
  have zm : (19 = m) = True := eq_true hm19.out.symm
  have R0 := hid2 (hr.next ((Below.refl _ _).alloc (Nat.le_refl _) (.cells zs19.toArray 53)))
  have R1 := hid2 hr
  obtain ⟨X, hX⟩ : ∃ X : Array Value, Hid (X = (itC (it0 0 ((hdT S.L).at_ : Int)) (.slice none 0 0) (.slice none 0 0)).toArray) := ⟨_, rfl⟩
  have stX := fun W => st_it W (X := X) (by rw [hX.out]; rfl) (by rw [hX.out]; kernel_rfl)
  unfold zeroI at stX
  have sX : X.size = 19 := by rw [hX.out]; rfl
  clear hr hz
  go_enter Tryz.func18, Tryz.ntmps18
  go_wp2_with fail
  refine Calls.mono (qAt_c _ R0.out) ?_
  rintro e w1 ⟨rfl, b1⟩
  have HC0 := hid2 (ImS.made R1.out b1 ((hdT S.L).at_ : Int))
  rw [← hX.out] at HC0
  clear b1 R0 R1
  go_wp2_with (refine wpList_it8 rfl _ rfl ((hdT S.L).at_ : Int) rfl X hX.out ?_)
  clear stX sX
  obtain ⟨g, hgg⟩ : ∃ g : Nat, Hid (g = w1.heap.size) := ⟨_, rfl⟩
  rw [← hgg.out] at HC0 ⊢
  generalize hW1 : w1.alloc _ = W1 at *
  clear hW1 hX hgg
  refine Calls.mono (qMay_c k_metric ⟨ba_neL [40] (by decide), ba_neL [123] (by decide), ba_neL [41] (by decide), ba_neL [125] (by decide)⟩ _ HC0.out.re) ?_
  rintro e w11 ⟨rfl, t2, r2⟩
  have HC1 := hid2 (HC0.out.turn t2 r2)
  clear t2 r2 HC0
  rw [n0]
  rw [may_not n0] at HC1
  go_wp2_with fail
  refine Calls.mono (qMay_c k_reps ⟨ba_neL [40] (by decide), ba_neL [123] (by decide), ba_neL [41] (by decide), ba_neL [125] (by decide)⟩ _ HC1.out.re) ?_
  rintro e w12 ⟨rfl, t2, r2⟩
  have HC2 := hid2 (HC1.out.turn t2 r2)
  clear t2 r2 HC1
  rw [n1]
  rw [may_not n1] at HC2
  go_wp2_with fail
  refine Calls.mono (qMay_c k_cooldown ⟨ba_neL [40] (by decide), ba_neL [123] (by decide), ba_neL [41] (by decide), ba_neL [125] (by decide)⟩ _ HC2.out.re) ?_
  rintro e w13 ⟨rfl, t2, r2⟩
  have HC3 := hid2 (HC2.out.turn t2 r2)
  clear t2 r2 HC2
  rw [y]
  rw [may_adv y] at HC3
  have c0 := HC3.out.lt.cell 0 _ rfl
  have f0 := HC3.out.lt.free 0 (by simp)
  have cl := HC3.out.lt.lt
  have HC4 := hid2 (HC3.out.set 0 (.int .i64 4) ⟨4, ⟨#[]⟩, ⟨#[]⟩, 0, 0, 0, nilM, nilM, ((hdT S.L).at_ : Int)⟩ (by decide) rfl rfl rfl HC3.out.nm HC3.out.un)
  go_wp2_with fail
  clear cl c0 f0 HC3
  refine Calls.mono (qMay_c k_up ⟨ba_neL [40] (by decide), ba_neL [123] (by decide), ba_neL [41] (by decide), ba_neL [125] (by decide)⟩ _ HC4.out.re) ?_
  rintro e w15 ⟨rfl, t2, r2⟩
  have HC5 := hid2 (HC4.out.turn t2 r2)
  clear t2 r2 HC4
  rw [u]
  rw [may_adv u] at HC5
  have c0 := HC5.out.lt.cell 0 _ rfl
  have f0 := HC5.out.lt.free 0 (by simp)
  have cl := HC5.out.lt.lt
  have HC6 := hid2 (HC5.out.set 0 (.int .i64 3) ⟨3, ⟨#[]⟩, ⟨#[]⟩, 0, 0, 0, nilM, nilM, ((hdT S.L).at_ : Int)⟩ (by decide) rfl rfl rfl HC5.out.nm HC5.out.un)
  go_wp2_with fail
  clear cl c0 f0 HC5
  refine Calls.mono (qTake_c 3 (by decide) _ HC6.out.re) ?_
  rintro e w17 ⟨rfl, t2, r2⟩
  have Hk7 := hid2 (take_tk (c := c) (k := 3) HC6.out.re.tl)
  have HC7 := hid2 (HC6.out.turn t2 r2)
  clear t2 r2 HC6
  simp only [tkW]
  obtain ⟨tk7, htk7⟩ : ∃ tk, Hid (tk = (takeR c 3 (adv (adv S))).1) := ⟨_, rfl⟩
  rw [← htk7.out] at Hk7 ⊢
  have c3 := HC7.out.lt.cell 3 _ rfl
  have f3 := HC7.out.lt.free 3 (by simp)
  have cl := HC7.out.lt.lt
  have HC8 := hid2 (HC7.out.set 3 (.int .i64 tk7.n) ⟨3, ⟨#[]⟩, ⟨#[]⟩, tk7.n, 0, 0, nilM, nilM, ((hdT S.L).at_ : Int)⟩ (by decide) rfl rfl rfl HC7.out.nm HC7.out.un)
  go_wp2_with fail
  clear cl c3 f3 HC7
  refine Calls.mono (qMust_c k_sem ⟨ba_neL [40] (by decide), ba_neL [123] (by decide), ba_neL [41] (by decide), ba_neL [125] (by decide)⟩ _ HC8.out.re) ?_
  rintro e w19 ⟨rfl, t2, r2⟩
  have HC9 := hid2 (HC8.out.turn t2 r2)
  clear t2 r2 HC8
  obtain ⟨Y, hY⟩ : ∃ Y : Array Value, Hid (Y = (itC ⟨3, ⟨#[]⟩, ⟨#[]⟩, tk7.n, 0, 0, nilM, nilM, ((hdT S.L).at_ : Int)⟩ (.slice none 0 0) (.slice none 0 0)).toArray) := ⟨_, rfl⟩
  have sY : Y.size = 19 := by rw [hY.out]; rfl
  have ldY := ld_row (X := Y) HC9.out.lt (by rw [hY.out]) (n := m) hm19.out
  have one0 : Y.all (·.oneCell') = true := by rw [hY.out]; exact HC9.out.one
  have one : ∀ v ∈ Y.toList, v.oneCell' = true := fun v hv => Array.all_eq_true_iff_forall_mem.1 one0 v (by simpa using hv)
  have stY := st_at w.heap.size Y.toList 0 w19 _ HC9.out.rs (by simp [sY]) one
  have TF := hid2 (putRow_turn w.heap.size Y.toList 0 w19)
  have BF := putRow_whole HC9.out.rs (X := Y.toList) (by simp [sY])
  have ldF := ld_row (X := Y) BF rfl (n := m) (by simp [sY, hm19.out])
  have xl := HC9.out.lt.lt
  have pl := HC9.out.rs.lt
  have hgx := HC9.out.gg
  clear BF one one0
  generalize hWF : putRow w19 w.heap.size 0 Y.toList = WF at *
  clear hWF
  go_wp2_with fail
  refine bodyPost_ret (v := .agg Y) (by simp [results, Tryz.results18, go_sem, *]) rfl (hP.out _ Y ⟨3, ⟨#[]⟩, ⟨#[]⟩, tk7.n, 0, 0, nilM, nilM, ((hdT S.L).at_ : Int)⟩ (.slice none 0 0) (.slice none 0 0) (mustR c k_sem (takeR c 3 (adv (adv S))).2) hY.out ?_ ?_ (HC9.out.itb TF.out) (by rw [hR.out, htk7.out]; unfold coolR; rw [if_pos u]; rfl))
  · exact HC9.out.tn.trans TF.out (fun i hi => .inr (by simp at hi; omega))
  · exact HC9.out.re.turn TF.out (by simp; omega) (by simp; omega)
set_option maxHeartbeats 16000000 in
set_option maxRecDepth 20000 in
theorem qItem_coolD {z rb tb : Nat} {LL : List Tk} {c : Int} {o : Nat} (hz : z ≤ 9223372036854775807) {S : Sr} (n0 : isR k_metric S = false) (n1 : isR k_reps S = false) (y : isR k_cooldown S = true) (u : isR k_up (adv S) = false) (w : World) (hr : Rr z w rb tb LL c S o) :
    Calls Tryz.prog 18 #[.pointer (some ⟨rb, 0, none⟩)] w (IqP z w rb tb LL c o ((coolR c (hdT S.L).at_ (adv S)).1, mustR c k_sem (coolR c (hdT S.L).at_ (adv S)).2)) := by
  obtain ⟨R, hR⟩ : ∃ R, Hid (R = ((coolR c (hdT S.L).at_ (adv S)).1, mustR c k_sem (coolR c (hdT S.L).at_ (adv S)).2)) := ⟨_, rfl⟩
  rw [← hR.out]
  have hP : Hid (∀ w' Y i vx vy S', Y = (itC i vx vy).toArray → Turn [rb] w w' → Rr z w' rb tb LL c S' o → ItB w.heap.size z w' i vx vy → R = (i, S') → IqP z w rb tb LL c o R (.returned (.agg Y)) w') := fun w' Y i vx vy S' h0 h1 h2 h3 h4 => ⟨h1, ⟨vx, vy, by rw [h4, h0], by rw [h4]; exact h3⟩, by rw [h4]; exact h2⟩
  generalize IqP z w rb tb LL c o R = Post at *
  have hl0 := hr.lts
  have hat := hr.tl.ok.a
  have hz0 := hid2 hz
  have fl1 := fld1
  have fl2 := fld2
  obtain ⟨m, hm19⟩ : ∃ m : Nat, Hid (m = 19) := ⟨_, rfl⟩
  have zs : ∀ w, (sizeOf 53).run Tryz.prog w = .ok m w := by rw [hm19.out]; exact Tryz.sizeOf53
  have zm : (19 = m) = True := eq_true hm19.out.symm
  have R0 := hid2 (hr.next ((Below.refl _ _).alloc (Nat.le_refl _) (.cells zs19.toArray 53)))
  have R1 := hid2 hr
  obtain ⟨X, hX⟩ : ∃ X : Array Value, Hid (X = (itC (it0 0 ((hdT S.L).at_ : Int)) (.slice none 0 0) (.slice none 0 0)).toArray) := ⟨_, rfl⟩
  have stX := fun W => st_it W (X := X) (by rw [hX.out]; rfl) (by rw [hX.out]; kernel_rfl)
  unfold zeroI at stX
  have sX : X.size = 19 := by rw [hX.out]; rfl
  clear hr hz
  go_enter Tryz.func18, Tryz.ntmps18
  go_wp2_with fail
  refine Calls.mono (qAt_c _ R0.out) ?_
  rintro e w1 ⟨rfl, b1⟩
  have HC0 := hid2 (ImS.made R1.out b1 ((hdT S.L).at_ : Int))
  rw [← hX.out] at HC0
  clear b1 R0 R1
  go_wp2_with (refine wpList_it8 rfl _ rfl ((hdT S.L).at_ : Int) rfl X hX.out ?_)
  clear stX sX
  obtain ⟨g, hgg⟩ : ∃ g : Nat, Hid (g = w1.heap.size) := ⟨_, rfl⟩
  rw [← hgg.out] at HC0 ⊢
  generalize hW1 : w1.alloc _ = W1 at *
  clear hW1 hX hgg
  refine Calls.mono (qMay_c k_metric ⟨ba_neL [40] (by decide), ba_neL [123] (by decide), ba_neL [41] (by decide), ba_neL [125] (by decide)⟩ _ HC0.out.re) ?_
  rintro e w11 ⟨rfl, t2, r2⟩
  have HC1 := hid2 (HC0.out.turn t2 r2)
  clear t2 r2 HC0
  rw [n0]
  rw [may_not n0] at HC1
  go_wp2_with fail
  refine Calls.mono (qMay_c k_reps ⟨ba_neL [40] (by decide), ba_neL [123] (by decide), ba_neL [41] (by decide), ba_neL [125] (by decide)⟩ _ HC1.out.re) ?_
  rintro e w12 ⟨rfl, t2, r2⟩
  have HC2 := hid2 (HC1.out.turn t2 r2)
  clear t2 r2 HC1
  rw [n1]
  rw [may_not n1] at HC2
  go_wp2_with fail
  refine Calls.mono (qMay_c k_cooldown ⟨ba_neL [40] (by decide), ba_neL [123] (by decide), ba_neL [41] (by decide), ba_neL [125] (by decide)⟩ _ HC2.out.re) ?_
  rintro e w13 ⟨rfl, t2, r2⟩
  have HC3 := hid2 (HC2.out.turn t2 r2)
  clear t2 r2 HC2
  rw [y]
  rw [may_adv y] at HC3
  have c0 := HC3.out.lt.cell 0 _ rfl
  have f0 := HC3.out.lt.free 0 (by simp)
  have cl := HC3.out.lt.lt
  have HC4 := hid2 (HC3.out.set 0 (.int .i64 4) ⟨4, ⟨#[]⟩, ⟨#[]⟩, 0, 0, 0, nilM, nilM, ((hdT S.L).at_ : Int)⟩ (by decide) rfl rfl rfl HC3.out.nm HC3.out.un)
  go_wp2_with fail
  clear cl c0 f0 HC3
  refine Calls.mono (qMay_c k_up ⟨ba_neL [40] (by decide), ba_neL [123] (by decide), ba_neL [41] (by decide), ba_neL [125] (by decide)⟩ _ HC4.out.re) ?_
  rintro e w15 ⟨rfl, t2, r2⟩
  have HC5 := hid2 (HC4.out.turn t2 r2)
  clear t2 r2 HC4
  rw [u]
  rw [may_not u] at HC5
  go_wp2_with fail
  refine Calls.mono (qMust_c k_down ⟨ba_neL [40] (by decide), ba_neL [123] (by decide), ba_neL [41] (by decide), ba_neL [125] (by decide)⟩ _ HC5.out.re) ?_
  rintro e w16 ⟨rfl, t2, r2⟩
  have HC6 := hid2 (HC5.out.turn t2 r2)
  clear t2 r2 HC5
  go_wp2_with fail
  refine Calls.mono (qTake_c 3 (by decide) _ HC6.out.re) ?_
  rintro e w17 ⟨rfl, t2, r2⟩
  have Hk7 := hid2 (take_tk (c := c) (k := 3) HC6.out.re.tl)
  have HC7 := hid2 (HC6.out.turn t2 r2)
  clear t2 r2 HC6
  simp only [tkW]
  obtain ⟨tk7, htk7⟩ : ∃ tk, Hid (tk = (takeR c 3 (mustR c k_down (adv S))).1) := ⟨_, rfl⟩
  rw [← htk7.out] at Hk7 ⊢
  have c3 := HC7.out.lt.cell 3 _ rfl
  have f3 := HC7.out.lt.free 3 (by simp)
  have cl := HC7.out.lt.lt
  have HC8 := hid2 (HC7.out.set 3 (.int .i64 tk7.n) ⟨4, ⟨#[]⟩, ⟨#[]⟩, tk7.n, 0, 0, nilM, nilM, ((hdT S.L).at_ : Int)⟩ (by decide) rfl rfl rfl HC7.out.nm HC7.out.un)
  go_wp2_with fail
  clear cl c3 f3 HC7
  refine Calls.mono (qMust_c k_sem ⟨ba_neL [40] (by decide), ba_neL [123] (by decide), ba_neL [41] (by decide), ba_neL [125] (by decide)⟩ _ HC8.out.re) ?_
  rintro e w19 ⟨rfl, t2, r2⟩
  have HC9 := hid2 (HC8.out.turn t2 r2)
  clear t2 r2 HC8
  obtain ⟨Y, hY⟩ : ∃ Y : Array Value, Hid (Y = (itC ⟨4, ⟨#[]⟩, ⟨#[]⟩, tk7.n, 0, 0, nilM, nilM, ((hdT S.L).at_ : Int)⟩ (.slice none 0 0) (.slice none 0 0)).toArray) := ⟨_, rfl⟩
  have sY : Y.size = 19 := by rw [hY.out]; rfl
  have ldY := ld_row (X := Y) HC9.out.lt (by rw [hY.out]) (n := m) hm19.out
  have one0 : Y.all (·.oneCell') = true := by rw [hY.out]; exact HC9.out.one
  have one : ∀ v ∈ Y.toList, v.oneCell' = true := fun v hv => Array.all_eq_true_iff_forall_mem.1 one0 v (by simpa using hv)
  have stY := st_at w.heap.size Y.toList 0 w19 _ HC9.out.rs (by simp [sY]) one
  have TF := hid2 (putRow_turn w.heap.size Y.toList 0 w19)
  have BF := putRow_whole HC9.out.rs (X := Y.toList) (by simp [sY])
  have ldF := ld_row (X := Y) BF rfl (n := m) (by simp [sY, hm19.out])
  have xl := HC9.out.lt.lt
  have pl := HC9.out.rs.lt
  have hgx := HC9.out.gg
  clear BF one one0
  generalize hWF : putRow w19 w.heap.size 0 Y.toList = WF at *
  clear hWF
  go_wp2_with fail
  refine bodyPost_ret (v := .agg Y) (by simp [results, Tryz.results18, go_sem, *]) rfl (hP.out _ Y ⟨4, ⟨#[]⟩, ⟨#[]⟩, tk7.n, 0, 0, nilM, nilM, ((hdT S.L).at_ : Int)⟩ (.slice none 0 0) (.slice none 0 0) (mustR c k_sem (takeR c 3 (mustR c k_down (adv S))).2) hY.out ?_ ?_ (HC9.out.itb TF.out) (by rw [hR.out, htk7.out]; unfold coolR; rw [if_neg (by rw [u]; simp)]; rfl))
  · exact HC9.out.tn.trans TF.out (fun i hi => .inr (by simp at hi; omega))
  · exact HC9.out.re.turn TF.out (by simp; omega) (by simp; omega)
end Go.Proofs.YtecdfnpbcabdnaaGreatDoor
