/- Package tree: a node, whatever its shape; literal. -/
import Derived.Test.YtdikeicnefgjcaaDoorTrC
namespace Go.Proofs.YtdikeicnefgjcaaDoor
open Go.RowKit

/-- n is the node of t. -/
def IsNode (z : Nat) (w : World) (t : Tm) (n : Value) : Prop :=
  (t.parts = [] ∧ n = leafV t) ∨ (∃ x a, t.parts = [x] ∧ n = singleV t x a ∧ Sits z w x a) ∨
  (∃ x y a b, t.parts = [x, y] ∧ n = doubleV t x y a b ∧ Sits z w x a ∧ Sits z w y b) ∨
  (∃ x y u a b c, t.parts = [x, y, u] ∧ n = tripleV t x y u a b c ∧ Sits z w x a ∧ Sits z w y b ∧ Sits z w u c) ∨
  (∃ x y l a mid b, t.parts = x :: (l ++ [y]) ∧ 2 ≤ l.length ∧ n = manyV t x y a mid b ∧ Sits z w x a ∧ PAt z w mid l ∧ Sits z w y b)
theorem IsNode.next {z : Nat} {w w' : World} {t : Tm} {n : Value} (h : IsNode z w t n) (hb : Below w.heap.size w w') : IsNode z w' t n := by
  rcases h with h | ⟨x, a, e, f, p⟩ | ⟨x, y, a, b, e, f, p, q⟩ | ⟨x, y, u, a, b, c, e, f, p, q, r⟩ | ⟨x, y, l, a, mid, b, e, g, f, p, q, r⟩
  · exact .inl h
  · exact .inr (.inl ⟨x, a, e, f, p.next hb⟩)
  · exact .inr (.inr (.inl ⟨x, y, a, b, e, f, p.next hb, q.next hb⟩))
  · exact .inr (.inr (.inr (.inl ⟨x, y, u, a, b, c, e, f, p.next hb, q.next hb, r.next hb⟩)))
  · exact .inr (.inr (.inr (.inr ⟨x, y, l, a, mid, b, e, g, f, p.next hb, q.next hb, r.next hb⟩)))
def NodePost (z : Nat) (t : Tm) (w : World) (e : Ending) (w' : World) : Prop := ∃ n, e = .returned n ∧ IsNode z w' t n ∧ Below w.heap.size w w'
theorem nodeOf_c {z : Nat} (t : Tm) (v : Value) (w : World) (hs : Sits z w t v) : Calls Tryd.prog 33 #[tmV t v] w (NodePost z t w) := by
  by_cases h4 : 4 ≤ t.parts.length
  · obtain ⟨x, l, y, hp, h2⟩ := four_parts h4
    refine (nodeOf_4 t x y l v w hs hp h2).mono ?_
    rintro e w1 ⟨a, mid, b, rfl, p, q, r, b1⟩
    exact ⟨_, rfl, .inr (.inr (.inr (.inr ⟨x, y, l, a, mid, b, hp, h2, rfl, p.next b1, q.next b1, r.next b1⟩))), b1⟩
  have hl : t.parts = [] ∨ (∃ x, t.parts = [x]) ∨ (∃ x y, t.parts = [x, y]) ∨ ∃ x y u, t.parts = [x, y, u] := by
    match t.parts, h4 with
    | [], _ => exact .inl rfl
    | [x], _ => exact .inr (.inl ⟨x, rfl⟩)
    | [x, y], _ => exact .inr (.inr (.inl ⟨x, y, rfl⟩))
    | [x, y, u], _ => exact .inr (.inr (.inr ⟨x, y, u, rfl⟩))
    | _ :: _ :: _ :: _ :: _, h => simp at h
  rcases hl with hp | ⟨x, hp⟩ | ⟨x, y, hp⟩ | ⟨x, y, u, hp⟩
  · refine (nodeOf_0 t v w hs hp).mono ?_
    rintro e w1 ⟨rfl, b1⟩
    exact ⟨_, rfl, .inl ⟨hp, rfl⟩, b1⟩
  · refine (nodeOf_1 t x v w hs hp).mono ?_
    rintro e w1 ⟨a, rfl, p, b1⟩
    exact ⟨_, rfl, .inr (.inl ⟨x, a, hp, rfl, p.next b1⟩), b1⟩
  · refine (nodeOf_2 t x y v w hs hp).mono ?_
    rintro e w1 ⟨a, b, rfl, p, q, b1⟩
    exact ⟨_, rfl, .inr (.inr (.inl ⟨x, y, a, b, hp, rfl, p.next b1, q.next b1⟩)), b1⟩
  · refine (nodeOf_3 t x y u v w hs hp).mono ?_
    rintro e w1 ⟨a, b, c, rfl, p, q, r, b1⟩
    exact ⟨_, rfl, .inr (.inr (.inr (.inl ⟨x, y, u, a, b, c, hp, rfl, p.next b1, q.next b1, r.next b1⟩))), b1⟩
theorem expr_c {z : Nat} (hz : z ≤ 562949953421312) (t : Tm) (n : Value) (w : World) (hn : IsNode z w t n) (ht : t.text.size ≤ z) (hT : TabsAt w) : Calls Tryd.prog 32 #[n] w fun e w' => e = .returned (.bool (formedB t)) ∧ Below w.heap.size w w' := by
  rcases hn with ⟨hp, rfl⟩ | ⟨x, a, hp, rfl, p⟩ | ⟨x, y, a, b, hp, rfl, p, q⟩ | ⟨x, y, u, a, b, c, hp, rfl, p, q, r⟩ | ⟨x, y, l, a, mid, b, hp, h2, rfl, p, q, r⟩
  · rw [show formedB t = leafB t.kind t.text t.n t.m by rw [formedB_eq, hp]; simp [headB]]
    exact expr_0 t (by omega) w hT
  · rw [show formedB t = (plainB t.kind t.text t.n t.m 13 17 && formedB x) by rw [formedB_eq, hp]; simp [headB]]
    exact expr_1 t x a w hT p (formed_all hz x)
  · rw [show formedB t = (plainB t.kind t.text t.n t.m 18 31 && (formedB x && formedB y)) by rw [formedB_eq, hp]; simp [headB]]
    exact expr_2 t x y a b w hT p (formed_all hz x) q (formed_all hz y)
  · rw [show formedB t = (plainB t.kind t.text t.n t.m 32 32 && (formedB x && (formedB y && formedB u))) by rw [formedB_eq, hp]; simp [headB]]
    exact expr_3 t x y u a b c w hT p (formed_all hz x) q (formed_all hz y) r (formed_all hz u)
  · have hlen : t.parts.length = l.length + 2 := by rw [hp]; simp
    have e : formedB t = false := by rw [formedB_eq, headB, if_neg (by omega), if_neg (by omega), if_neg (by omega), if_neg (by omega)]; rfl
    rw [e]
    refine (expr_4 _ w).mono ?_
    rintro e w1 ⟨rfl, rfl⟩
    exact ⟨rfl, Below.refl _ _⟩
/-- What literal answers. -/
abbrev yesV (x : Tm) (s : Int) : Value := .tuple #[.agg #[.int .i64 x.kind, .string x.text, .int .i64 x.n, .int .i64 x.m], .int .i64 s, .bool true]
abbrev noV : Value := .tuple #[leafZ, .int .i64 0, .bool false]
def litV (r : Option (Tm × Int)) : Value := match r with
  | some (x, s) => yesV x s
  | none => noV
theorem IsNode.noLeaf {z : Nat} {w : World} {t : Tm} {n : Value} (h : IsNode z w t n) (hp : t.parts ≠ []) (W : World) : (Instr.typeAssert n 50 69 true).run Tryd.prog W = .ok (.tuple #[leafZ, .bool false]) W := by
  rcases h with ⟨e, _⟩ | ⟨x, a, _, rfl, _⟩ | ⟨x, y, a, b, _, rfl, _⟩ | ⟨x, y, u, a, b, c, _, rfl, _⟩ | ⟨x, y, l, a, mid, b, _, _, rfl, _⟩
  · exact absurd e hp
  · exact single_no_leaf _ W
  · exact double_no_leaf _ W
  · exact triple_no_leaf _ W
  · exact many_no_leaf _ W
theorem IsNode.noSingle {z : Nat} {w : World} {t : Tm} {n : Value} (h : IsNode z w t n) (hp : 2 ≤ t.parts.length) (W : World) : (Instr.typeAssert n 50 78 true).run Tryd.prog W = .ok (.tuple #[singleZ, .bool false]) W := by
  rcases h with ⟨e, _⟩ | ⟨x, a, e, rfl, _⟩ | ⟨x, y, a, b, _, rfl, _⟩ | ⟨x, y, u, a, b, c, _, rfl, _⟩ | ⟨x, y, l, a, mid, b, _, _, rfl, _⟩
  · rw [e] at hp; simp at hp
  · rw [e] at hp; simp at hp
  · exact double_no_single _ W
  · exact triple_no_single _ W
  · exact many_no_single _ W
theorem below_four {s q : Nat} {w w' : World} (h : Below s w w') (hq : s ≤ q) (v0 v1 v2 v3 : Value) : Below s w ((((w'.setCell ⟨q, 0, none⟩ v0).setCell ⟨q, 1, none⟩ v1).setCell ⟨q, 2, none⟩ v2).setCell ⟨q, 3, none⟩ v3) :=
  ((((h.setCell hq _).setCell hq _).setCell hq _).setCell hq _)
set_option maxRecDepth 20000 in
set_option maxHeartbeats 1000000 in
theorem lit_0 (t : Tm) (hz : t.text.size ≤ 562949953421312) (w : World) (hT : TabsAt w) : Calls Tryd.prog 52 #[leafV t] w fun e w' => e = .returned (if t.kind = 1 ∧ leafB t.kind t.text t.n t.m = true then yesV t 1 else noV) ∧ Below w.heap.size w w' := by
  obtain ⟨q, hq⟩ : ∃ q : Bool, Hid (q = leafB t.kind t.text t.n t.m) := ⟨_, rfl⟩
  have HL : Hid (∀ wx, TabsAt wx → Calls Tryd.prog 59 #[.agg #[.int .i64 t.kind, .string t.text, .int .i64 t.n, .int .i64 t.m]] wx fun e w' => e = .returned (.bool q) ∧ Below wx.heap.size wx w') := fun wx hx => by rw [hq.out]; exact leaf_c t.kind t.text t.n t.m hz wx hx
  rw [← hq.out]
  obtain ⟨R, hR⟩ : ∃ R : Value, Hid (R = if t.kind = 1 ∧ q = true then yesV t 1 else noV) := ⟨_, rfl⟩
  rw [← hR.out]
  have HT : Hid (∀ o p r, TabsAt (((w.alloc o).alloc p).alloc r)) := fun o p r => hT.next ((((Below.refl _ _).alloc (Nat.le_refl _) _).alloc (by simp) _).alloc (by simp; omega) _)
  have t0 := is_leaf
  have t1 := leaf_no_single
  clear hz hq hT
  by_cases hk : t.kind = 1
  · have hk' : (t.kind != 1) = false := by simp [hk]
    have HK := hid2 hk
    clear hk
    go_enter Tryd.func52, Tryd.ntmps52
    go_wp2_with fail
    refine Calls.mono (HL.out _ (HT.out _ _ _)) ?_
    rintro e w1 ⟨rfl, b1⟩
    obtain ⟨Y0, -, Y2, YB⟩ := three_boxes w 69 78 69 [.int .i64 0, .string ⟨#[]⟩, .int .i64 0, .int .i64 0] singleC.toList [.int .i64 t.kind, .string t.text, .int .i64 t.n, .int .i64 t.m]
    obtain ⟨c0, c1, c2, c3, f0, f1, f2, f3⟩ := (Y0.next b1).four
    obtain ⟨d0, d1, d2, d3, -⟩ := (Y2.next b1).four
    have B1 : Hid (Below w.heap.size w w1) := below_on YB b1 (by simp; omega)
    clear b1 Y0 Y2 YB HT HL
    cases q
    · go_wp2_with fail
      refine bodyPost_ret (v := noV) (by simp [results, Tryd.results52, go_sem, *]) rfl ⟨by rw [hR.out, if_neg (by simp)], ?_⟩
      exact below_four B1.out (Nat.le_refl _) _ _ _ _
    · go_wp2_with fail
      refine bodyPost_ret (v := yesV t 1) (by simp [results, Tryd.results52, go_sem, *]) rfl ⟨by rw [hR.out, if_pos (by simp [HK.out])], ?_⟩
      exact below_four B1.out (Nat.le_refl _) _ _ _ _
  · have hk' : (t.kind != 1) = true := by simp [hk]
    rw [hR.out, if_neg (fun h => hk h.1)]
    clear hk HL HT hR
    go_enter Tryd.func52, Tryd.ntmps52
    go_wp2_with fail
    refine bodyPost_ret (v := noV) (by simp [results, Tryd.results52, go_sem, *]) rfl ⟨rfl, ?_⟩
    exact (((Below.refl _ _).alloc (Nat.le_refl _) _).alloc (by simp) _).alloc (by simp; omega) _
set_option maxRecDepth 20000 in
set_option maxHeartbeats 1000000 in
theorem lit_2 {z : Nat} (t : Tm) (n : Value) (w : World) (hn : IsNode z w t n) (hp : 2 ≤ t.parts.length) : Calls Tryd.prog 52 #[n] w fun e w' => e = .returned (noV) ∧ Below w.heap.size w w' := by
  have t0 := hn.noLeaf (by intro e; rw [e] at hp; simp at hp)
  have t1 := hn.noSingle hp
  clear hn hp
  go_enter Tryd.func52, Tryd.ntmps52
  go_wp2_with fail
  refine bodyPost_ret (v := noV) (by simp [results, Tryd.results52, go_sem, *]) rfl ⟨rfl, ?_⟩
  exact (((Below.refl _ _).alloc (Nat.le_refl _) _).alloc (by simp) _).alloc (by simp; omega) _
set_option maxRecDepth 20000 in
set_option maxHeartbeats 1000000 in
theorem lit_1 {z : Nat} (hz : z ≤ 562949953421312) (t x : Tm) (a : Value) (w : World) (hT : TabsAt w) (sx : Sits z w x a) : Calls Tryd.prog 52 #[singleV t x a] w fun e w' => e = .returned (if plainB t.kind t.text t.n t.m 13 13 = true ∧ numB x = true then yesV x (-1) else noV) ∧ Below w.heap.size w w' := by
  obtain ⟨dx, cx, rfl, -, -⟩ := sx.parts.shape
  obtain ⟨q1, h1⟩ : ∃ q : Bool, Hid (q = plainB t.kind t.text t.n t.m 13 13) := ⟨_, rfl⟩
  have P : Hid (∀ wx, Calls Tryd.prog 60 #[.agg #[.int .i64 t.kind, .string t.text, .int .i64 t.n, .int .i64 t.m], .int .i64 13, .int .i64 13] wx fun e w' => e = .returned (.bool q1) ∧ Below wx.heap.size wx w') := fun wx => by rw [h1.out]; exact plain_c _ _ _ _ _ _ wx
  rw [← h1.out]
  obtain ⟨q, hq⟩ : ∃ q : Bool, Hid (q = leafB x.kind x.text x.n x.m) := ⟨_, rfl⟩
  have HL : Hid (∀ wx, TabsAt wx → Calls Tryd.prog 59 #[.agg #[.int .i64 x.kind, .string x.text, .int .i64 x.n, .int .i64 x.m]] wx fun e w' => e = .returned (.bool q) ∧ Below wx.heap.size wx w') := fun wx hx => by rw [hq.out]; exact leaf_c x.kind x.text x.n x.m (Nat.le_trans sx.fit.s hz) wx hx
  have HN := hid2 (fun wx (hb : Below w.heap.size w wx) => nodeOf_c x _ wx (sx.next hb))
  have HT := hid2 (fun wx (hb : Below w.heap.size w wx) => hT.next hb)
  have hnum : Hid (numB x = (decide (x.kind = 1) && (decide (x.parts.length = 0) && q))) := by rw [hq.out]; rfl
  obtain ⟨X, hX⟩ : ∃ X : Array Value, Hid (X = #[.int .i64 t.kind, .string t.text, .int .i64 t.n, .int .i64 t.m, .int .i64 x.kind, .string x.text, .int .i64 x.n, .int .i64 x.m, .int .i64 x.pl, .slice dx x.parts.length cx]) := ⟨_, rfl⟩
  have st := fun (W : World) => run_storeCells_new (P := Tryd.prog) W 78 singleC X (by rw [hX.out]; kernel_rfl) (by rw [hX.out]; rfl) (by rw [hX.out]; kernel_rfl)
  have BX : Hid (∀ o, Box ((w.alloc o).alloc (.cells X 78)) (w.heap.size + 1) [.int .i64 t.kind, .string t.text, .int .i64 t.n, .int .i64 t.m, .int .i64 x.kind, .string x.text, .int .i64 x.n, .int .i64 x.m, .int .i64 x.pl, .slice dx x.parts.length cx]) := by rw [hX.out]; exact fun o => by simpa using Box.new (w.alloc o) _ _
  show Calls _ _ #[.iface 78 (.agg #[.int .i64 t.kind, .string t.text, .int .i64 t.n, .int .i64 t.m, .int .i64 x.kind, .string x.text, .int .i64 x.n, .int .i64 x.m, .int .i64 x.pl, .slice dx x.parts.length cx])] _ _
  rw [← hX.out]
  have hXs : X.size = 10 := by rw [hX.out]; rfl
  have x0 : ∀ h : 0 < X.size, X[0]'h = .int .i64 t.kind := by rw [hX.out]; intro h; rfl
  have x1 : ∀ h : 1 < X.size, X[1]'h = .string t.text := by rw [hX.out]; intro h; rfl
  have x2 : ∀ h : 2 < X.size, X[2]'h = .int .i64 t.n := by rw [hX.out]; intro h; rfl
  have x3 : ∀ h : 3 < X.size, X[3]'h = .int .i64 t.m := by rw [hX.out]; intro h; rfl
  clear hX
  have st2 : ∀ o, (storeCells ⟨w.heap.size + 1, 0, none⟩ X.toList 0).run Tryd.prog ((w.alloc o).alloc (.cells singleC 78)) = .ok () ((w.alloc o).alloc (.cells X 78)) := fun o => by have h := st (w.alloc o); rw [World.size_alloc] at h; exact h
  clear st
  have t1 := is_single
  have t2 := single_no_leaf
  have t3 := is_leaf
  clear hz hq hT h1 sx
  rw [hnum.out]
  obtain ⟨R, hR⟩ : ∃ R : Value, Hid (R = if q1 = true ∧ (decide (x.kind = 1) && (decide (x.parts.length = 0) && q)) = true then yesV x (-1) else noV) := ⟨_, rfl⟩
  rw [← hR.out]
  go_enter Tryd.func52, Tryd.ntmps52
  go_wp2_with fail
  refine Calls.mono (P.out _) ?_
  rintro e w1 ⟨rfl, b1⟩
  have B1 : Hid (Below w.heap.size w w1) := below_on (((Below.refl _ _).alloc (Nat.le_refl _) _).alloc (by simp) _) b1 (by simp; omega)
  have R1 : Hid (Box w1 w.heap.size [.int .i64 0, .string ⟨#[]⟩, .int .i64 0, .int .i64 0]) := ((Box.new w [.int .i64 0, .string ⟨#[]⟩, .int .i64 0, .int .i64 0] 69).next ((Below.refl _ _).alloc (Nat.le_refl _) _)).next b1
  have S1 := hid2 ((BX.out _).next b1)
  clear b1 BX P
  cases q1
  · have hR2 : Hid (R = noV) := hR.out.trans (if_neg (by simp))
    obtain ⟨c0, c1, c2, c3, f0, f1, f2, f3⟩ := R1.out.four
    have lt1 := R1.out.lt
    clear HN HL HT hR
    go_wp2_with fail
    refine bodyPost_ret (v := noV) (by simp [results, Tryd.results52, go_sem, *]) rfl ⟨by rw [hR2.out], ?_⟩
    first | exact below_four (B1.out.alloc B1.out.size _) (Nat.le_refl _) _ _ _ _ | exact (below_four B1.out (Nat.le_refl _) _ _ _ _).alloc (by simp; exact B1.out.size) _
  · have k0 := S1.out.cell 4 _ rfl
    have k1 := S1.out.cell 5 _ rfl
    have k2 := S1.out.cell 6 _ rfl
    have k3 := S1.out.cell 7 _ rfl
    have k4 := S1.out.cell 8 _ rfl
    have k5 := S1.out.cell 9 _ rfl
    go_wp2_with fail
    refine Calls.mono (HN.out _ B1.out) ?_
    rintro e w2 ⟨n, rfl, hn, b2⟩
    have B2 : Hid (Below w.heap.size w w2) := below_on B1.out b2 B1.out.size
    have R2 := hid2 (R1.out.next b2)
    clear b2 R1 S1 k0 k1 k2 k3 k4 k5
    obtain ⟨c0, c1, c2, c3, f0, f1, f2, f3⟩ := R2.out.four
    have lt2 := R2.out.lt
    by_cases hp : x.parts = []
    · have hnn : n = leafV x := by
        rcases hn with ⟨_, e⟩ | ⟨_, _, e, _⟩ | ⟨_, _, _, _, e, _⟩ | ⟨_, _, _, _, _, _, e, _⟩ | ⟨_, _, _, _, _, _, e, _⟩
        · exact e
        all_goals (rw [hp] at e; cases e)
      subst hnn
      have HP : Hid (x.parts.length = 0) := by show _ = _; rw [hp]; rfl
      clear hn hp
      by_cases hk : x.kind = 1
      · have hk' : (x.kind != 1) = false := by simp [hk]
        have HK := hid2 hk
        clear hk
        go_wp2_with fail
        refine Calls.mono (HL.out _ (HT.out _ (by exact B2.out.alloc B2.out.size _))) ?_
        rintro e w3 ⟨rfl, b3⟩
        have B3 : Hid (Below w.heap.size w w3) := below_on (B2.out.alloc B2.out.size _) b3 (by simp; have := B2.out.size; omega)
        have R3 := hid2 ((R2.out.next ((Below.refl _ _).alloc (Nat.le_refl _) _)).next b3)
        have S3 := hid2 ((Box.new w2 [.int .i64 x.kind, .string x.text, .int .i64 x.n, .int .i64 x.m] 69).next b3)
        clear b3 c0 c1 c2 c3 f0 f1 f2 f3 HL HT
        obtain ⟨c0, c1, c2, c3, f0, f1, f2, f3⟩ := R3.out.four
        obtain ⟨d0, d1, d2, d3, -⟩ := S3.out.four
        have ne : w.heap.size ≠ w2.heap.size := by omega
        cases q
        · go_wp2_with fail
          refine bodyPost_ret (v := noV) (by simp [results, Tryd.results52, go_sem, *]) rfl ⟨by rw [hR.out, if_neg (by simp)], ?_⟩
          exact below_four B3.out (Nat.le_refl _) _ _ _ _
        · go_wp2_with fail
          refine bodyPost_ret (v := yesV x (-1)) (by simp [results, Tryd.results52, go_sem, *]) rfl ⟨by rw [hR.out, if_pos (by simp [HK.out, HP.out])], ?_⟩
          exact below_four B3.out (Nat.le_refl _) _ _ _ _
      · have hk' : (x.kind != 1) = true := by simp [hk]
        have hR2 : Hid (R = noV) := hR.out.trans (if_neg (by simp [hk]))
        clear hk HL HT hR
        go_wp2_with fail
        refine bodyPost_ret (v := noV) (by simp [results, Tryd.results52, go_sem, *]) rfl ⟨by rw [hR2.out], ?_⟩
        first | exact below_four (B2.out.alloc B2.out.size _) (Nat.le_refl _) _ _ _ _ | exact (below_four B2.out (Nat.le_refl _) _ _ _ _).alloc (by simp; exact B2.out.size) _
    · have t4 := hn.noLeaf hp
      have hp0 : x.parts.length ≠ 0 := fun e => hp (List.eq_nil_of_length_eq_zero e)
      have hR2 : Hid (R = noV) := hR.out.trans (if_neg (by simp [hp0]))
      clear hn hp hp0 HL HT hR
      go_wp2_with fail
      refine bodyPost_ret (v := noV) (by simp [results, Tryd.results52, go_sem, *]) rfl ⟨by rw [hR2.out], ?_⟩
      first | exact below_four (B2.out.alloc B2.out.size _) (Nat.le_refl _) _ _ _ _ | exact (below_four B2.out (Nat.le_refl _) _ _ _ _).alloc (by simp; exact B2.out.size) _
theorem literal_c {z : Nat} (hz : z ≤ 562949953421312) (t : Tm) (n : Value) (w : World) (hn : IsNode z w t n) (ht : t.text.size ≤ z) (hT : TabsAt w) : Calls Tryd.prog 52 #[n] w fun e w' => e = .returned (litV (litR t)) ∧ Below w.heap.size w w' := by
  by_cases h2 : 2 ≤ t.parts.length
  · have e : litR t = none := by
      unfold litR
      rw [if_neg (by unfold numB; rw [decide_eq_false (by omega : ¬ t.parts.length = 0)]; simp)]
      match t.parts, h2 with
      | _ :: _ :: _, _ => rfl
    rw [e]
    exact lit_2 t n w hn h2
  rcases hn with ⟨hp, rfl⟩ | ⟨x, a, hp, rfl, p⟩ | ⟨x, y, a, b, hp, rfl, p, q⟩ | ⟨x, y, u, a, b, c, hp, rfl, p, q, r⟩ | ⟨x, y, l, a, mid, b, hp, h3, rfl, p, q, r⟩
  · refine (lit_0 t (by omega) w hT).mono ?_
    rintro e w1 ⟨rfl, b1⟩
    refine ⟨?_, b1⟩
    have hd : numB t = (decide (t.kind = 1) && leafB t.kind t.text t.n t.m) := by unfold numB; rw [hp]; simp
    congr 1
    by_cases hc : t.kind = 1 ∧ leafB t.kind t.text t.n t.m = true
    · rw [if_pos hc]; unfold litR; rw [if_pos (by rw [hd, decide_eq_true hc.1, hc.2]; rfl)]; rfl
    · rw [if_neg hc]; unfold litR
      rw [if_neg (by rw [hd, Bool.and_eq_true, decide_eq_true_eq]; exact hc), hp]; rfl
  · refine (lit_1 hz t x a w hT p).mono ?_
    rintro e w1 ⟨rfl, b1⟩
    refine ⟨?_, b1⟩
    have hd : (negB t = true) = (plainB t.kind t.text t.n t.m 13 13 = true) := by unfold negB; rw [hp]; simp
    have e : litR t = if plainB t.kind t.text t.n t.m 13 13 = true ∧ numB x = true then some (x, -1) else none := by
      have hn : ¬ numB t = true := by unfold numB; rw [hp]; simp
      unfold litR
      rw [if_neg hn, hp]
      simp only [hd]
    rw [e]
    by_cases hc : plainB t.kind t.text t.n t.m 13 13 = true ∧ numB x = true
    · rw [if_pos hc, if_pos hc]; rfl
    · rw [if_neg hc, if_neg hc]; rfl
  all_goals (rw [hp] at h2; simp at h2)
end Go.Proofs.YtdikeicnefgjcaaDoor
