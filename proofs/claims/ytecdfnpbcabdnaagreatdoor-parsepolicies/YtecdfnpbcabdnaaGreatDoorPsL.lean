/- The document's PlacedPolicy, of one policy at two places. -/
import Derived.Test.YtecdfnpbcabdnaaGreatDoorPrP
import Derived.Test.YtecdfnpbcabdnaaGreatDoorPsK
import Derived.Test.YtecdfnpbcabdnaaGreatDoorRgAl
import Derived.Deep.RegionHeld3
namespace Go.Proofs.YtecdfnpbcabdnaaGreatDoor
open Go.RowKit Go.Lib

/-- Items in a row are items in memory. -/
theorem iatP_of {B z : Nat} {w : World} {v : Value} {l : List It3} (h : IaO B z w v l) : IAt z w v (l.map Prod.fst) := by
  obtain ⟨h1, h2⟩ := h.own
  rcases h2 with ⟨rfl, h3⟩ | ⟨g, cap, cur, rfl, h3, h4, h5, h6, h7, h8⟩
  · refine ⟨none, 0, ?_, ?_, by decide, .inl ?_⟩
    · rw [List.length_map, h3]
    · rw [List.length_map, h3]; exact Nat.le_refl _
    · rw [List.length_map, h3]
  · have hg := (Array.getElem?_eq_some_iff.1 h4).1
    refine ⟨some ⟨g, 0, none⟩, cap, by rw [List.length_map], by rw [List.length_map]; exact h5, by unfold maxLen at h6; omega, .inr ⟨g, 0, rfl, hg, fun i hi => ?_⟩⟩
    have hi' : i < l.length := by simpa using hi
    have hs := h.sit _ (List.getElem_mem hi')
    refine ⟨l[i].2.1, l[i].2.2, fun q u hu => ?_, ?_⟩
    · have hq : q < 19 := by
        have := (List.getElem?_eq_some_iff.1 hu).1
        simpa using this
      rw [List.getElem_map] at hu
      have h9 : (flI l)[i * 19 + q]? = some u := (flI_get l i q hq hi').trans hu
      rw [← h8, List.getElem?_take] at h9
      split at h9
      · rw [Array.getElem?_toList] at h9
        unfold World.cell?
        simp only [h4]
        simpa using h9
      · cases h9
    · rw [List.getElem_map]
      exact ⟨SitQ.sits _ _ hs.sx, SitQ.sits _ _ hs.sy, hs.nm, hs.un⟩
theorem alloc_itm (a : Act) (w : World) (o : Oper) (h : o.op = Op.alloc 53) : (execOp a.eval o).run Tryz.prog w = .ok (.value (.pointer (some ⟨w.heap.size, 0, none⟩))) (w.alloc (.cells zs19.toArray 53)) := by
  simp only [execOp, h]
  kernel_rfl
theorem then_norm {K : Act → World → Prop} {Q : Exit → Act → World → Prop} {a : Act} {w : World} (h : K a w) : Exit.then K Q Exit.normal a w := h
set_option maxHeartbeats 8000000 in
set_option maxRecDepth 20000 in
theorem placedPol_c {z : Nat} (nm : ByteArray) (l : List It) (v v' : Value) (w : World) (hs : IAt z w v l) (hs' : IAt z w v' l) :
    Calls Tryz.prog 9 #[.agg #[.string nm, v], .agg #[.string nm, v']] w fun e w' => e = .returned (.bool true) ∧ Below w.heap.size w w' := by
  have HL := hid2 hs
  have HK := hid2 hs'
  obtain ⟨ad, cap, rfl, hc1, hc2⟩ := hs.shape
  obtain ⟨ad', cap', rfl, hc1', hc2'⟩ := hs'.shape
  obtain ⟨N, hN⟩ : ∃ N, Hid (N = l.length) := ⟨_, rfl⟩
  rw [← hN.out] at hc1 hc1' HL HK ⊢
  clear hs hs'
  obtain ⟨X0, X1, XB⟩ := two_boxes w 25 25 [.string nm, .slice ad N cap] [.string nm, .slice ad' N cap']
  have BX := hid2 X0
  have BY := hid2 X1
  have BB := hid2 XB
  clear X0 X1 XB
  obtain ⟨m, hm⟩ : ∃ m : Nat, Hid (m = 19) := ⟨_, rfl⟩
  have zs : ∀ w, (sizeOf 53).run Tryz.prog w = .ok m w := by rw [hm.out]; exact Tryz.sizeOf53
  have zm : (19 = m) = True := eq_true hm.out.symm
  go_enter Tryz.func9, Tryz.ntmps9
  go_wp2_with fail
  go_loopw [5] (fun i wr => ∃ j : Nat, i = .int .i64 (j : Nat) ∧ j ≤ N ∧ Hid (Below w.heap.size w wr) ∧ Hid (Box wr w.heap.size [.string nm, .slice ad N cap]) ∧ Hid (Box wr (w.heap.size + 1) [.string nm, .slice ad' N cap'])) (fun i _ => match i with | .int _ p => ((N : Int) - p).toNat | _ => 0)
  case atStart => exact ⟨0, rfl, by omega, BB, BX, BY⟩
  case round =>
    obtain ⟨j, rfl, hj, HB, HX, HY⟩ := hrel
    have x1 := HX.out.cell 1 _ rfl
    have y1 := HY.out.cell 1 _ rfl
    have lx := HX.out.lt
    have ly := HY.out.lt
    by_cases hlt : j < N
    · have hlt' : (j : Int) < (N : Int) := by omega
      have h1 : j < l.length := by rw [← hN.out]; exact hlt
      obtain ⟨b, off, c1, hv, -, -, hbl, hx⟩ := HL.out.open (by omega)
      rw [← hN.out] at hv
      simp only [Value.slice.injEq] at hv
      obtain ⟨rfl, -, rfl⟩ := hv
      obtain ⟨b', off', c1', hv', -, -, hbl', hx'⟩ := HK.out.open (by omega)
      rw [← hN.out] at hv'
      simp only [Value.slice.injEq] at hv'
      obtain ⟨rfl, -, rfl⟩ := hv'
      obtain ⟨vx, vy, hcs, hit⟩ := hx j h1
      obtain ⟨vx', vy', hcs', hit'⟩ := hx' j h1
      have lb : b < wr.heap.size := Nat.lt_of_lt_of_le hbl HB.out.size
      have lb' : b' < wr.heap.size := Nat.lt_of_lt_of_le hbl' HB.out.size
      obtain ⟨X, hX⟩ : ∃ X : Array Value, Hid (X = (itC l[j] vx vy).toArray) := ⟨_, hid2 rfl⟩
      obtain ⟨Y, hY⟩ : ∃ Y : Array Value, Hid (Y = (itC l[j] vx' vy').toArray) := ⟨_, hid2 rfl⟩
      have s1 : X.size = 19 := by rw [hX.out]; rfl
      have s2 : Y.size = 19 := by rw [hY.out]; rfl
      have LA := hid2 (fun wx (hb : Below w.heap.size w wx) => ld_at (w := wx) (b := b) (o := off + j * m) (fun q u hu => by rw [hm.out]; exact (hb.cell (p := ⟨b, off + j * 19 + q, none⟩) hbl).trans (hcs q u hu)) hX.out (hm.out.trans (show 19 = _ from rfl)))
      have LB := hid2 (fun wx (hb : Below w.heap.size w wx) => ld_at (w := wx) (b := b') (o := off' + j * m) (fun q u hu => by rw [hm.out]; exact (hb.cell (p := ⟨b', off' + j * 19 + q, none⟩) hbl').trans (hcs' q u hu)) hY.out (hm.out.trans (show 19 = _ from rfl)))
      have HT := hid2 hit
      have HT' := hid2 hit'
      clear hcs hcs' hx hx' hit hit'
      go_wp2_with fail
      refine wp_region_noPanic ?_
      refine wp_region_held_drew (S := fun wq => Below wr.heap.size wr wq) (by kernel_rfl) ((Below.refl _ wr).drew) (fun hHeld => ?_)
      refine wpAnyH_take (i := 0) (oi := { dst := some 29, op := Op.fieldAddr 25 (Operand.tmp 2) 1, type := 0, pos := "ref.go:405", after := #[], guard := none }) (v := ?_) rfl (by kernel_rfl) (by kernel_rfl) (by kernel_rfl) (fun _ _ _ h => h) (Or.inl ⟨by rfl, ?_⟩) hHeld ?_
      rotate_left
      · intro wq hq
        have q1 := (hq.cell (p := ⟨w.heap.size, 1, none⟩) lx).trans x1
        have q2 := (hq.cell (p := ⟨w.heap.size + 1, 1, none⟩) ly).trans y1
        have q3 := LA.out wq (below_on HB.out hq HB.out.size)
        have q4 := LB.out wq (below_on HB.out hq HB.out.size)
        have q5 := Nat.lt_of_lt_of_le lx hq.size
        have q6 := Nat.lt_of_lt_of_le ly hq.size
        clear hq
        go_simp
        all_goals with_reducible rfl
      simp only [Act.put, List.setIfInBounds_toArray, List.set_cons_zero, List.set_cons_succ] -- take
      refine wpAnyH_take (i := 1) (oi := { dst := some 30, op := Op.load 23 (Operand.tmp 29), type := 23, pos := "ref.go:405", after := #[{ on := 0, ground := Ground.data }], guard := none }) (v := ?_) rfl (by kernel_rfl) (by kernel_rfl) (by kernel_rfl) (fun _ _ _ h => h) (Or.inl ⟨by rfl, ?_⟩) hHeld ?_
      rotate_left
      · intro wq hq
        have q1 := (hq.cell (p := ⟨w.heap.size, 1, none⟩) lx).trans x1
        have q2 := (hq.cell (p := ⟨w.heap.size + 1, 1, none⟩) ly).trans y1
        have q3 := LA.out wq (below_on HB.out hq HB.out.size)
        have q4 := LB.out wq (below_on HB.out hq HB.out.size)
        have q5 := Nat.lt_of_lt_of_le lx hq.size
        have q6 := Nat.lt_of_lt_of_le ly hq.size
        clear hq
        go_simp
        all_goals with_reducible rfl
      simp only [Act.put, List.setIfInBounds_toArray, List.set_cons_zero, List.set_cons_succ] -- take
      refine wpAnyH_take (i := 2) (oi := { dst := some 31, op := Op.move (Operand.tmp 5), type := 3, pos := "ref.go:405", after := #[], guard := none }) (v := ?_) rfl (by kernel_rfl) (by kernel_rfl) (by kernel_rfl) (fun _ _ _ h => h) (Or.inl ⟨by rfl, ?_⟩) hHeld ?_
      rotate_left
      · intro wq hq
        have q1 := (hq.cell (p := ⟨w.heap.size, 1, none⟩) lx).trans x1
        have q2 := (hq.cell (p := ⟨w.heap.size + 1, 1, none⟩) ly).trans y1
        have q3 := LA.out wq (below_on HB.out hq HB.out.size)
        have q4 := LB.out wq (below_on HB.out hq HB.out.size)
        have q5 := Nat.lt_of_lt_of_le lx hq.size
        have q6 := Nat.lt_of_lt_of_le ly hq.size
        clear hq
        go_simp
        all_goals with_reducible rfl
      simp only [Act.put, List.setIfInBounds_toArray, List.set_cons_zero, List.set_cons_succ] -- take
      refine wpAnyH_take (i := 3) (oi := { dst := some 32, op := Op.indexAddr 23 (Operand.tmp 30) (Operand.tmp 31), type := 0, pos := "ref.go:405", after := #[{ on := 1, ground := Ground.data }, { on := 2, ground := Ground.data }], guard := none }) (v := ?_) rfl (by kernel_rfl) (by kernel_rfl) (by kernel_rfl) (fun _ _ _ h => h) (Or.inl ⟨by rfl, ?_⟩) hHeld ?_
      rotate_left
      · intro wq hq
        have q1 := (hq.cell (p := ⟨w.heap.size, 1, none⟩) lx).trans x1
        have q2 := (hq.cell (p := ⟨w.heap.size + 1, 1, none⟩) ly).trans y1
        have q3 := LA.out wq (below_on HB.out hq HB.out.size)
        have q4 := LB.out wq (below_on HB.out hq HB.out.size)
        have q5 := Nat.lt_of_lt_of_le lx hq.size
        have q6 := Nat.lt_of_lt_of_le ly hq.size
        clear hq
        go_simp
        all_goals with_reducible rfl
      simp only [Act.put, List.setIfInBounds_toArray, List.set_cons_zero, List.set_cons_succ] -- take
      refine wpAnyH_take (i := 4) (oi := { dst := some 33, op := Op.load 53 (Operand.tmp 32), type := 53, pos := "ref.go:405", after := #[{ on := 3, ground := Ground.data }], guard := none }) (v := ?_) rfl (by kernel_rfl) (by kernel_rfl) (by kernel_rfl) (fun _ _ _ h => h) (Or.inl ⟨by rfl, ?_⟩) hHeld ?_
      rotate_left
      · intro wq hq
        have q1 := (hq.cell (p := ⟨w.heap.size, 1, none⟩) lx).trans x1
        have q2 := (hq.cell (p := ⟨w.heap.size + 1, 1, none⟩) ly).trans y1
        have q3 := LA.out wq (below_on HB.out hq HB.out.size)
        have q4 := LB.out wq (below_on HB.out hq HB.out.size)
        have q5 := Nat.lt_of_lt_of_le lx hq.size
        have q6 := Nat.lt_of_lt_of_le ly hq.size
        clear hq
        go_simp
        all_goals with_reducible rfl
      simp only [Act.put, List.setIfInBounds_toArray, List.set_cons_zero, List.set_cons_succ] -- take
      refine wpAnyH_take (i := 5) (oi := { dst := some 34, op := Op.fieldAddr 25 (Operand.tmp 3) 1, type := 0, pos := "ref.go:405", after := #[{ on := 12, ground := Ground.gcOnly Departure.lateStores }], guard := none }) (v := ?_) rfl (by kernel_rfl) (by kernel_rfl) (by kernel_rfl) (fun _ _ _ h => h) (Or.inl ⟨by rfl, ?_⟩) hHeld ?_
      rotate_left
      · intro wq hq
        have q1 := (hq.cell (p := ⟨w.heap.size, 1, none⟩) lx).trans x1
        have q2 := (hq.cell (p := ⟨w.heap.size + 1, 1, none⟩) ly).trans y1
        have q3 := LA.out wq (below_on HB.out hq HB.out.size)
        have q4 := LB.out wq (below_on HB.out hq HB.out.size)
        have q5 := Nat.lt_of_lt_of_le lx hq.size
        have q6 := Nat.lt_of_lt_of_le ly hq.size
        clear hq
        go_simp
        all_goals with_reducible rfl
      simp only [Act.put, List.setIfInBounds_toArray, List.set_cons_zero, List.set_cons_succ] -- take
      refine wpAnyH_take (i := 6) (oi := { dst := some 35, op := Op.load 23 (Operand.tmp 34), type := 23, pos := "ref.go:405", after := #[{ on := 5, ground := Ground.data }, { on := 12, ground := Ground.gcOnly Departure.lateStores }], guard := none }) (v := ?_) rfl (by kernel_rfl) (by kernel_rfl) (by kernel_rfl) (fun _ _ _ h => h) (Or.inl ⟨by rfl, ?_⟩) hHeld ?_
      rotate_left
      · intro wq hq
        have q1 := (hq.cell (p := ⟨w.heap.size, 1, none⟩) lx).trans x1
        have q2 := (hq.cell (p := ⟨w.heap.size + 1, 1, none⟩) ly).trans y1
        have q3 := LA.out wq (below_on HB.out hq HB.out.size)
        have q4 := LB.out wq (below_on HB.out hq HB.out.size)
        have q5 := Nat.lt_of_lt_of_le lx hq.size
        have q6 := Nat.lt_of_lt_of_le ly hq.size
        clear hq
        go_simp
        all_goals with_reducible rfl
      simp only [Act.put, List.setIfInBounds_toArray, List.set_cons_zero, List.set_cons_succ] -- take
      refine wpAnyH_take (i := 7) (oi := { dst := some 36, op := Op.move (Operand.tmp 5), type := 3, pos := "ref.go:405", after := #[{ on := 12, ground := Ground.gcOnly Departure.lateStores }], guard := none }) (v := ?_) rfl (by kernel_rfl) (by kernel_rfl) (by kernel_rfl) (fun _ _ _ h => h) (Or.inl ⟨by rfl, ?_⟩) hHeld ?_
      rotate_left
      · intro wq hq
        have q1 := (hq.cell (p := ⟨w.heap.size, 1, none⟩) lx).trans x1
        have q2 := (hq.cell (p := ⟨w.heap.size + 1, 1, none⟩) ly).trans y1
        have q3 := LA.out wq (below_on HB.out hq HB.out.size)
        have q4 := LB.out wq (below_on HB.out hq HB.out.size)
        have q5 := Nat.lt_of_lt_of_le lx hq.size
        have q6 := Nat.lt_of_lt_of_le ly hq.size
        clear hq
        go_simp
        all_goals with_reducible rfl
      simp only [Act.put, List.setIfInBounds_toArray, List.set_cons_zero, List.set_cons_succ] -- take
      refine wpAnyH_take (i := 8) (oi := { dst := some 37, op := Op.indexAddr 23 (Operand.tmp 35) (Operand.tmp 36), type := 0, pos := "ref.go:405", after := #[{ on := 6, ground := Ground.data }, { on := 7, ground := Ground.data }, { on := 12, ground := Ground.gcOnly Departure.lateStores }], guard := none }) (v := ?_) rfl (by kernel_rfl) (by kernel_rfl) (by kernel_rfl) (fun _ _ _ h => h) (Or.inl ⟨by rfl, ?_⟩) hHeld ?_
      rotate_left
      · intro wq hq
        have q1 := (hq.cell (p := ⟨w.heap.size, 1, none⟩) lx).trans x1
        have q2 := (hq.cell (p := ⟨w.heap.size + 1, 1, none⟩) ly).trans y1
        have q3 := LA.out wq (below_on HB.out hq HB.out.size)
        have q4 := LB.out wq (below_on HB.out hq HB.out.size)
        have q5 := Nat.lt_of_lt_of_le lx hq.size
        have q6 := Nat.lt_of_lt_of_le ly hq.size
        clear hq
        go_simp
        all_goals with_reducible rfl
      simp only [Act.put, List.setIfInBounds_toArray, List.set_cons_zero, List.set_cons_succ] -- take
      refine wpAnyH_take (i := 9) (oi := { dst := some 38, op := Op.load 53 (Operand.tmp 37), type := 53, pos := "ref.go:405", after := #[{ on := 8, ground := Ground.data }, { on := 12, ground := Ground.gcOnly Departure.lateStores }], guard := none }) (v := ?_) rfl (by kernel_rfl) (by kernel_rfl) (by kernel_rfl) (fun _ _ _ h => h) (Or.inl ⟨by rfl, ?_⟩) hHeld ?_
      rotate_left
      · intro wq hq
        have q1 := (hq.cell (p := ⟨w.heap.size, 1, none⟩) lx).trans x1
        have q2 := (hq.cell (p := ⟨w.heap.size + 1, 1, none⟩) ly).trans y1
        have q3 := LA.out wq (below_on HB.out hq HB.out.size)
        have q4 := LB.out wq (below_on HB.out hq HB.out.size)
        have q5 := Nat.lt_of_lt_of_le lx hq.size
        have q6 := Nat.lt_of_lt_of_le ly hq.size
        clear hq
        go_simp
        all_goals with_reducible rfl
      simp only [Act.put, List.setIfInBounds_toArray, List.set_cons_zero, List.set_cons_succ] -- take
      refine wpAnyH_allocs_ok (T := 53) (ob := .cells zs19.toArray 53) alloc_itm (fun w h => h.alloc h.size _) 2 2 [(10, 6), (11, 7)] _ _ _ rfl (by kernel_rfl) (by decide) (by decide) hHeld (fun ff r1 r2 hS6 => ?_)
      have B0 := allocN_box zs19 53 2 wr.drew
      generalize allocN (.cells zs19.toArray 53) 2 wr.drew = W6 at *
      simp only [putsP, listsP, List.foldl_cons, List.foldl_nil, Act.put, List.setIfInBounds_toArray, List.set_cons_zero, List.set_cons_succ]
      obtain ⟨n0, hn0⟩ : ∃ n, n = ff 10 := ⟨_, rfl⟩
      have rb0 := r1 (10, 6) (by simp)
      have bx0 := B0 (ff 10) rb0.1 rb0.2
      obtain ⟨n1, hn1⟩ : ∃ n, n = ff 11 := ⟨_, rfl⟩
      have rb1 := r1 (11, 7) (by simp)
      have bx1 := B0 (ff 11) rb1.1 rb1.2
      have d01 := r2 (10, 6) (11, 7) (by simp) (by simp) (by decide)
      rw [← hn0, ← hn1]
      rw [← hn0] at rb0 bx0 d01
      rw [← hn1] at rb1 bx1 d01
      have hszr : wr.drew.heap.size = wr.heap.size := rfl
      have wb0 : wr.heap.size ≤ n0 := by omega
      have wb1 : wr.heap.size ≤ n1 := by omega
      have one1 : ∀ v ∈ X.toList, v.oneCell' = true := fun v hv => Array.all_eq_true_iff_forall_mem.1 (show X.all (·.oneCell') = true by rw [hX.out]; exact itC_one HT.out) v (by simpa using hv)
      have one2 : ∀ v ∈ Y.toList, v.oneCell' = true := fun v hv => Array.all_eq_true_iff_forall_mem.1 (show Y.all (·.oneCell') = true by rw [hY.out]; exact itC_one HT'.out) v (by simpa using hv)
      have stX := st_at n0 X.toList 0 W6 _ bx0 (by simp [s1]) one1
      have TX := putRow_turn n0 X.toList 0 W6
      have BXX := putRow_whole bx0 (X := X.toList) (by simp [s1])
      have BXY := bx1.turn TX (by simp; omega)
      have hS7 : Below wr.heap.size wr (putRow W6 n0 0 X.toList) := below_turned hS6 TX wb0 hS6.size
      clear B0 r1 r2 hHeld hn0 hn1 x1 y1
      generalize hW7 : putRow W6 n0 0 X.toList = W7 at *
      clear hW7
      refine wpAnyH_ready (rs := [12]) (by kernel_rfl) (by simp) (AllReadyH.cons (o := { dst := none, op := Op.store 53 (Operand.tmp 6) (Operand.tmp 33), type := 0, pos := "ref.go:405", after := #[{ on := 10, ground := Ground.data }, { on := 4, ground := Ground.data }, { on := 0, ground := Ground.phase }, { on := 1, ground := Ground.phase }, { on := 2, ground := Ground.phase }, { on := 3, ground := Ground.phase }, { on := 4, ground := Ground.phase }, { on := 5, ground := Ground.textOnly Departure.lateStores }, { on := 6, ground := Ground.textOnly Departure.lateStores }, { on := 7, ground := Ground.textOnly Departure.lateStores }, { on := 8, ground := Ground.textOnly Departure.lateStores }, { on := 9, ground := Ground.textOnly Departure.lateStores }, { on := 10, ground := Ground.phase }, { on := 11, ground := Ground.phase }], guard := none }) rfl (fun K hK => ?_) AllReadyH.nil)
      go_simp
      refine hK.out _ _ hS7 (fun hHeld => ?_)
      clear hK stX TX
      have stY := st_at n1 Y.toList 0 W7 _ BXY (by simp [s2]) one2
      have TY := putRow_turn n1 Y.toList 0 W7
      have BYY := putRow_whole BXY (X := Y.toList) (by simp [s2])
      have BYX := BXX.turn TY (by simp; omega)
      have hS8 : Below wr.heap.size wr (putRow W7 n1 0 Y.toList) := below_turned hS7 TY wb1 hS7.size
      generalize hW8 : putRow W7 n1 0 Y.toList = W8 at *
      clear hW8
      refine wpAnyH_ready (rs := [13]) (by kernel_rfl) (by simp) (AllReadyH.cons (o := { dst := none, op := Op.store 53 (Operand.tmp 7) (Operand.tmp 38), type := 0, pos := "ref.go:405", after := #[{ on := 11, ground := Ground.data }, { on := 9, ground := Ground.data }, { on := 12, ground := Ground.chain }, { on := 0, ground := Ground.phase }, { on := 1, ground := Ground.phase }, { on := 2, ground := Ground.phase }, { on := 3, ground := Ground.phase }, { on := 4, ground := Ground.phase }, { on := 5, ground := Ground.phase }, { on := 6, ground := Ground.phase }, { on := 7, ground := Ground.phase }, { on := 8, ground := Ground.phase }, { on := 9, ground := Ground.phase }, { on := 10, ground := Ground.phase }, { on := 11, ground := Ground.phase }, { on := 12, ground := Ground.phase }], guard := none }) rfl (fun K hK => ?_) AllReadyH.nil)
      go_simp
      refine hK.out _ _ hS8 (fun hHeld => ?_)
      clear hK stY TY
      refine wpAnyH_done (by kernel_rfl) ?_ 0
      refine NoPanic.normal ?_
      refine then_norm ?_
      have BX8 : Box W8 n0 (itC l[j] vx vy) := by have h := BYX; rw [hX.out] at h; simpa using h
      have BY8 : Box W8 n1 (itC l[j] vx' vy') := by have h := BYY; rw [hY.out] at h; simpa using h
      have B8 := hid2 (below_on HB.out hS8 HB.out.size)
      have HX8 := hid2 (HX.out.next hS8)
      have HY8 := hid2 (HY.out.next hS8)
      have HPx := hid2 (fun W (hb : Below w.heap.size w W) => placed_all (z := z) l[j].x vx vx' W (HT.out.sx.next hb) (HT'.out.sx.next hb))
      have HPy := hid2 (fun W (hb : Below w.heap.size w W) => placed_all (z := z) l[j].y vy vy' W (HT.out.sy.next hb) (HT'.out.sy.next hb))
      obtain ⟨a1, k1, rfl, -, -⟩ := HT.out.sx.parts.shape
      obtain ⟨a2, k2, rfl, -, -⟩ := HT.out.sy.parts.shape
      obtain ⟨a3, k3, rfl, -, -⟩ := HT'.out.sx.parts.shape
      obtain ⟨a4, k4, rfl, -, -⟩ := HT'.out.sy.parts.shape
      clear BYX BYY BXX BXY hHeld hS6 hS7 hS8 bx0 bx1 rb0 rb1 one1 one2 s1 s2 hX hY LA LB HT HT' HB HX HY lb lb' hbl hbl'
      generalize l[j] = i at *
      clear h1
      have B0x := hid2 BX8
      have B0y := hid2 BY8
      have e0 := BX8.cell 0 _ rfl
      have e1 := BX8.cell 1 _ rfl
      have e2 := BX8.cell 2 _ rfl
      have e3 := BX8.cell 3 _ rfl
      have e4 := BX8.cell 4 _ rfl
      have e5 := BX8.cell 5 _ rfl
      have e18 := BX8.cell 18 _ rfl
      have g0 := BY8.cell 0 _ rfl
      have g1 := BY8.cell 1 _ rfl
      have g2 := BY8.cell 2 _ rfl
      have g3 := BY8.cell 3 _ rfl
      have g4 := BY8.cell 4 _ rfl
      have g5 := BY8.cell 5 _ rfl
      have g18 := BY8.cell 18 _ rfl
      obtain ⟨p6, p7, p8, p9, p10, p11, _, _, _, _, _, _⟩ := BX8.cells_at 6 _ _ _ _ _ _ rfl rfl rfl rfl rfl rfl
      obtain ⟨q6, q7, q8, q9, q10, q11, _, _, _, _, _, _⟩ := BY8.cells_at 6 _ _ _ _ _ _ rfl rfl rfl rfl rfl rfl
      have l0 := BX8.lt
      have l1 := BY8.lt
      clear BX8 BY8
      simp only [tmV] at HPx HPy
      go_wp2_with fail
      refine Calls.mono (HPx.out _ B8.out) ?_
      rintro e W9 ⟨rfl, b9⟩
      have BX9 := B0x.out.next b9
      have BY9 := B0y.out.next b9
      have B9 := hid2 (below_on B8.out b9 B8.out.size)
      have HX9 := hid2 (HX8.out.next b9)
      have HY9 := hid2 (HY8.out.next b9)
      clear e0 e1 e2 e3 e4 e5 e18 g0 g1 g2 g3 g4 g5 g18 p6 p7 p8 p9 p10 p11 q6 q7 q8 q9 q10 q11 l0 l1 b9 B0x B0y B8 HX8 HY8 HPx
      obtain ⟨p6, p7, p8, p9, p10, p11, _, _, _, _, _, _⟩ := BX9.cells_at 12 _ _ _ _ _ _ rfl rfl rfl rfl rfl rfl
      obtain ⟨q6, q7, q8, q9, q10, q11, _, _, _, _, _, _⟩ := BY9.cells_at 12 _ _ _ _ _ _ rfl rfl rfl rfl rfl rfl
      have l0 := BX9.lt
      have l1 := BY9.lt
      clear BX9 BY9
      go_wp2_with fail
      refine Calls.mono (HPy.out _ B9.out) ?_
      rintro e W10 ⟨rfl, b10⟩
      have B10 := hid2 (below_on B9.out b10 B9.out.size)
      have HX10 := hid2 (HX9.out.next b10)
      have HY10 := hid2 (HY9.out.next b10)
      clear p6 p7 p8 p9 p10 p11 q6 q7 q8 q9 q10 q11 l0 l1 b10 B9 HX9 HY9 HPy
      go_wp2_with fail
      go_roundw
      case rel => exact ⟨j + 1, by go_num, by omega, B10, HX10, HY10⟩
      case measure => simp; omega
    · have hlt' : ¬ (j : Int) < (N : Int) := by omega
      go_wp2_with fail
      go_ret
      exact ⟨rfl, HB.out⟩
end Go.Proofs.YtecdfnpbcabdnaaGreatDoor
