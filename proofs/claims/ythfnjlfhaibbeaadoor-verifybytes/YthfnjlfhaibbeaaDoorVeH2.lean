/- Package verify: lead, sound. -/
import Derived.Test.YthfnjlfhaibbeaaDoorVeG
import Derived.Deep.Cut
import Derived.Deep.CutRange
import Derived.Deep.DeepCutAuto
import Derived.Deep.RegionHeld3
namespace Go.Proofs.YthfnjlfhaibbeaaDoor
open Go.RowKit

/-- What becomes of the places. -/
def WaP (q : Option (List (Option St))) (w0 : World) (wb qb : Nat) (g : PgP) (u : PgV) (e : Ending) (w' : World) : Prop := Below w0.heap.size w0 w' ∧ match q with
  | some pl => e = .returned (.bool true) ∧ Wa w0 w' wb qb g u pl
  | none => e = .returned (.bool false)
def LeP (q : Option (List (Option St))) (w0 w : World) (wb qb : Nat) (g : PgP) (u : PgV) (e : Ending) (w' : World) : Prop := WaP q w0 wb qb g u e w' ∧ Turn [qb] w w'
set_option maxHeartbeats 1000000 in
set_option maxRecDepth 20000 in
theorem lead_c {w0 : World} {wb qb : Nat} {g : PgP} {u : PgV} {pl : List (Option St)} (at' : Int) (s : St) (h0 : 0 ≤ at') (w : World) (h : Wa w0 w wb qb g u pl) : Calls Tryd.prog 68 #[.pointer (some ⟨wb, 0, none⟩), .int .i64 at', stV s] w (LeP (leadR g.h pl (at', s)) w0 w wb qb g u) := by
  have HNo : Hid (∀ w', leadR g.h pl (at', s) = none → Below w.heap.size w w' → LeP (leadR g.h pl (at', s)) w0 w wb qb g u (.returned (.bool false)) w') := chid (fun w' hq hb => by rw [hq]; exact ⟨⟨cbelow_on h.bel hb h.bel.size, rfl⟩, Turn.of_below hb⟩)
  have z12 := h.box.cell 12 _ rfl
  have z10 := h.box.cell 10 _ rfl
  have zl := h.box.lt
  by_cases c1 : (pl.length : Int) ≤ at'
  · have HE := chid (show leadR g.h pl (at', s) = none from by unfold leadR; rw [if_pos (.inl c1)])
    clear h
    generalize LeP (leadR g.h pl (at', s)) w0 w wb qb g u = Post at *
    go_enter Tryd.func68, Tryd.ntmps68
    go_wp2_with fail
    go_quiet (fail)
    go_wp2_with fail
    exact HNo.out _ HE.out (cdrewN ((Below.refl _ _).alloc (Nat.le_refl _) _) _)
  by_cases c2 : g.h < s.1
  · have HE := chid (show leadR g.h pl (at', s) = none from by unfold leadR; rw [if_pos (.inr (.inl c2))])
    clear h
    generalize LeP (leadR g.h pl (at', s)) w0 w wb qb g u = Post at *
    go_enter Tryd.func68, Tryd.ntmps68
    go_wp2_with fail
    go_quiet (fail)
    go_wp2_with fail
    exact HNo.out _ HE.out (cdrewN ((Below.refl _ _).alloc (Nat.le_refl _) _) _)
  by_cases c3 : 4096 < s.2
  · have HE := chid (show leadR g.h pl (at', s) = none from by unfold leadR; rw [if_pos (.inr (.inr c3))])
    clear h
    generalize LeP (leadR g.h pl (at', s)) w0 w wb qb g u = Post at *
    go_enter Tryd.func68, Tryd.ntmps68
    go_wp2_with fail
    go_quiet (fail)
    go_wp2_with fail
    exact HNo.out _ HE.out (cdrewN ((Below.refl _ _).alloc (Nat.le_refl _) _) _)
  obtain ⟨k, rfl⟩ : ∃ k : Nat, at' = (k : Int) := ⟨at'.toNat, by omega⟩
  have hk : k < pl.length := by omega
  have hk' : (k : Int) < (pl.length : Int) := by omega
  have hkn : ((k : Int)).toNat = k := by omega
  have h1 : leadR g.h pl ((k : Int), s) = match pl[k] with | none => some (pl.set k (some s)) | some s' => if s' = s then some (pl.set k (some s)) else none := by
    unfold leadR
    rw [if_neg (by simp only; omega)]
    have : pl.getD ((k : Int)).toNat none = pl[k] := by simp [List.getD, hk]
    rw [this]
    simp only [hkn]
    cases pl[k] <;> rfl
  have hat : pl[k]? = some pl[k] := List.getElem?_eq_getElem hk
  have f0 := h.free k hk 0 (by omega)
  have f1 := h.free k hk 1 (by omega)
  have f2 := h.free k hk 2 (by omega)
  rw [Nat.add_zero] at f0
  have ql := h.pls.lt
  have hne := h.ne
  have HSet : Hid (∀ (ob1 ob2 : Obj) (n : Nat), Wa w0 (((((((w.alloc ob1).drewN n).setCell ⟨qb, k * 3, none⟩ (.bool true)).setCell ⟨qb, k * 3 + 1, none⟩ (.int .i64 s.1)).setCell ⟨qb, k * 3 + 2, none⟩ (.int .i64 s.2)).alloc ob2).drew) wb qb g u (pl.set k (some s))) := chid (fun ob1 ob2 n =>
    ((((h.next (cdrewN (bel_alloc w ob1) n)).set k hk s).next (bel_alloc _ ob2)).next (Below.refl _ _).drew))
  have HTu : Hid (∀ (ob1 ob2 : Obj) (n : Nat), Turn [qb] w (((((((w.alloc ob1).drewN n).setCell ⟨qb, k * 3, none⟩ (.bool true)).setCell ⟨qb, k * 3 + 1, none⟩ (.int .i64 s.1)).setCell ⟨qb, k * 3 + 2, none⟩ (.int .i64 s.2)).alloc ob2).drew)) := chid (fun ob1 ob2 n =>
    (((((Turn.of_below (cdrewN (bel_alloc w ob1) n)).andSet _ _ (.inl (by simp))).andSet _ _ (.inl (by simp))).andSet _ _ (.inl (by simp))).andBelow (bel_alloc _ ob2)).andBelow (Below.refl _ _).drew)
  have HOk : Hid (∀ w' pl', leadR g.h pl ((k : Int), s) = some pl' → Wa w0 w' wb qb g u pl' → Turn [qb] w w' → LeP (leadR g.h pl ((k : Int), s)) w0 w wb qb g u (.returned (.bool true)) w') := chid (fun w' pl' hq ha ht => by rw [hq]; exact ⟨⟨ha.bel, rfl, ha⟩, ht⟩)
  have HNo2 : Hid (∀ w', leadR g.h pl ((k : Int), s) = none → Below w0.heap.size w0 w' → Turn [qb] w w' → LeP (leadR g.h pl ((k : Int), s)) w0 w wb qb g u (.returned (.bool false)) w') := chid (fun w' hq hb ht => by rw [hq]; exact ⟨⟨hb, rfl⟩, ht⟩)
  cases ho : pl[k] with
  | none =>
    rw [ho] at hat h1
    have y0 := h.cells k none hat 0 _ rfl
    have y1 := h.cells k none hat 1 _ rfl
    have y2 := h.cells k none hat 2 _ rfl
    rw [Nat.add_zero] at y0
    have H1 := chid h1
    clear h ho hat h1 hkn
    generalize LeP (leadR g.h pl ((k : Int), s)) w0 w wb qb g u = Post at *
    go_enter Tryd.func68, Tryd.ntmps68
    go_wp2_with fail
    go_quiet (fail)
    go_wp2_with fail
    go_region_law (fail)
    all_goals go_wp2_with fail
    all_goals exact HOk.out _ _ H1.out (HSet.out _ _ _) (HTu.out _ _ _)
  | some s' =>
    rw [ho] at hat h1
    have y0 := h.cells k (some s') hat 0 _ rfl
    have y1 := h.cells k (some s') hat 1 _ rfl
    have y2 := h.cells k (some s') hat 2 _ rfl
    rw [Nat.add_zero] at y0
    have H1 := chid h1
    clear h ho hat h1 hkn
    by_cases e1 : s'.1 = s.1
    · by_cases e2 : s'.2 = s.2
      · have HE := chid (show leadR g.h pl ((k : Int), s) = some (pl.set k (some s)) from H1.out.trans (if_pos (Prod.ext e1 e2)))
        generalize LeP (leadR g.h pl ((k : Int), s)) w0 w wb qb g u = Post at *
        go_enter Tryd.func68, Tryd.ntmps68
        go_wp2_with fail
        go_quiet (fail)
        go_wp2_with fail
        go_region_law (fail)
        all_goals go_wp2_with fail
        all_goals exact HOk.out _ _ HE.out (HSet.out _ _ _) (HTu.out _ _ _)
      · have HE := chid (show leadR g.h pl ((k : Int), s) = none from H1.out.trans (if_neg (fun e => e2 (by rw [e]))))
        generalize LeP (leadR g.h pl ((k : Int), s)) w0 w wb qb g u = Post at *
        go_enter Tryd.func68, Tryd.ntmps68
        go_wp2_with fail
        go_quiet (fail)
        go_wp2_with fail
        go_region_law (fail)
        all_goals go_wp2_with fail
        all_goals exact HNo2.out _ HE.out (HSet.out _ _ _).bel (HTu.out _ _ _)
    · have HE := chid (show leadR g.h pl ((k : Int), s) = none from H1.out.trans (if_neg (fun e => e1 (by rw [e]))))
      generalize LeP (leadR g.h pl ((k : Int), s)) w0 w wb qb g u = Post at *
      go_enter Tryd.func68, Tryd.ntmps68
      go_wp2_with fail
      go_quiet (fail)
      go_wp2_with fail
      go_region_law (fail)
      all_goals go_wp2_with fail
      all_goals exact HNo2.out _ HE.out (HSet.out _ _ _).bel (HTu.out _ _ _)
/-- A row's numbers are small. -/
theorem row_small {op : Int} {r : Rw} (h : rowF op = some r) : -1 ≤ r.x1 ∧ r.x1 ≤ 1 ∧ -1 ≤ r.x2 ∧ r.x2 ≤ 1 ∧ -1 ≤ r.t1 ∧ r.t1 ≤ 1 ∧ -1 ≤ r.t2 ∧ r.t2 ≤ 1 ∧ 0 ≤ r.d ∧ r.d ≤ 3 := by
  have hm := List.mem_of_find?_eq_some h
  simp only [rwT, List.mem_cons, List.not_mem_nil, or_false] at hm
  rcases hm with rfl | rfl | rfl | rfl | rfl | rfl | rfl | rfl | rfl | rfl | rfl | rfl | rfl | rfl | rfl | rfl | rfl | rfl <;> decide
end Go.Proofs.YthfnjlfhaibbeaaDoor
