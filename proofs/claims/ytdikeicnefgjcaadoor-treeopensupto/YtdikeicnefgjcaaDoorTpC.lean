/- Package tree: partsAs: a node of no part, of one, two or three. -/
import Derived.Test.YtdikeicnefgjcaaDoorTpA
namespace Go.Proofs.YtdikeicnefgjcaaDoor
open Go.RowKit

/-- The parts, in a slice of their own. -/
def PartsP (z : Nat) (ps : List Tm) (w : World) (e : Ending) (w' : World) : Prop := ∃ v', e = .returned (.tuple #[v', .bool true]) ∧ PAt z w' v' ps ∧ Below w.heap.size w w'
theorem below3 (w : World) (o o1 o2 : Obj) : Below w.heap.size w (((w.alloc o).alloc o1).alloc o2) := (((Below.refl _ _).alloc (Nat.le_refl _) _).alloc (by simp) _).alloc (by simp; omega) _
theorem below4 (w : World) (o o1 o2 o3 : Obj) : Below w.heap.size w ((((w.alloc o).alloc o1).alloc o2).alloc o3) := (below3 w o o1 o2).alloc (by simp; omega) _
theorem fld_single (t x : Tm) (a : Value) (w : World) : (Instr.field 78 (.agg #[.int .i64 t.kind, .string t.text, .int .i64 t.n, .int .i64 t.m, .int .i64 x.kind, .string x.text, .int .i64 x.n, .int .i64 x.m, .int .i64 x.pl, a]) 1).run Tryd.prog w = .ok (tmV x a) w := by kernel_rfl
/-- A row of terms that the call itself laid. -/
theorem pat_new {z : Nat} {w : World} {g c : Nat} (ts : List (Tm × Value)) (hb : Box w g (flatT ts)) (hs : ∀ p, p ∈ ts → Sits z w p.1 p.2) (hc : ts.length ≤ c) (hm : c ≤ 9223372036854775807) : PAt z w (.slice (some ⟨g, 0, none⟩) ts.length c) (ts.map Prod.fst) :=
  pat_flat ts (fun j u hu => by rw [Nat.zero_add]; exact hb.cell j u hu) hb.lt hs hc hm
set_option maxRecDepth 20000 in
set_option maxHeartbeats 1000000 in
theorem parts_0 {z : Nat} (t : Tm) (k : Int) (hk : k ≤ 12 ∨ k = 33) (w : World) : Calls Tryd.prog 53 #[leafV t, .int .i64 k] w (PartsP z [] w) := by
  have hmf : ∀ (fn : Fn) (first cap : Array Value) (w : World), (Instr.makeFunc fn first cap).run Tryd.prog w = .ok (.func fn first cap) w := fun _ _ _ _ => rfl
  have n0 := must_leaf
  rcases hk with hk | rfl
  all_goals go_enter_defers Tryd.func53, Tryd.ntmps53
  all_goals go_wp2_with fail
  all_goals
    refine leaves_cons (f := 78) (args := #[.pointer (some ⟨w.heap.size, 0, none⟩), .pointer (some ⟨w.heap.size + 1, 0, none⟩)]) (by simp) (by simp [go_sem]) ?_
    refine (catch_idle _ _ _).mono ?_
    rintro e u' w'' ⟨rfl, rfl, rfl⟩
    simp [Leaves, settle, results, Tryd.results53, go_sem]
    exact ⟨_, rfl, ⟨none, 0, rfl, Nat.le_refl _, by decide, .inl rfl⟩, ((Below.refl _ _).alloc (Nat.le_refl _) _).alloc (by simp) _⟩
set_option maxRecDepth 20000 in
set_option maxHeartbeats 1000000 in
theorem parts_1 {z : Nat} (t x : Tm) (a : Value) (k : Int) (hk : 13 ≤ k) (hk2 : k ≤ 17 ∨ k = 34 ∨ k = 35) (w : World) (hx : Sits z w x a) : Calls Tryd.prog 53 #[singleV t x a, .int .i64 k] w (PartsP z [x] w) := by
  have hmf : ∀ (fn : Fn) (first cap : Array Value) (w : World), (Instr.makeFunc fn first cap).run Tryd.prog w = .ok (.func fn first cap) w := fun _ _ _ _ => rfl
  have n0 := must_single
  have n1 := fld_single
  have hd : 12 < k := by omega
  have hd1 : k ≤ 17 → (k == 33) = false := fun h => by simp; omega
  have HX := hid2 hx
  obtain ⟨ad, cap, rfl, -, -⟩ := hx.parts.shape
  have HP : Hid (∀ o o1, PartsP z [x] w (.returned (.tuple #[.slice (some ⟨w.heap.size + 1 + 1, 0, none⟩) 1 1, .bool true])) (((w.alloc o).alloc o1).alloc (.cells #[.int .i64 x.kind, .string x.text, .int .i64 x.n, .int .i64 x.m, .int .i64 x.pl, .slice ad x.parts.length cap] 24))) := fun o o1 => by
    have hb := Box.new ((w.alloc o).alloc o1) (flatT [(x, .slice ad x.parts.length cap)]) 24
    rw [show ((w.alloc o).alloc o1).heap.size = w.heap.size + 1 + 1 by simp] at hb
    exact ⟨_, rfl, pat_new [(x, .slice ad x.parts.length cap)] hb (fun p hp => by simp at hp; subst hp; exact HX.out.next (below3 ..)) (Nat.le_refl _) (by decide), below3 ..⟩
  clear hk hx
  rcases hk2 with hk2 | rfl | rfl
  · have hd2 := hd1 hk2
    clear hd1
    go_enter_defers Tryd.func53, Tryd.ntmps53
    go_wp2_with fail
    all_goals
      refine leaves_cons (f := 78) (args := #[.pointer (some ⟨w.heap.size, 0, none⟩), .pointer (some ⟨w.heap.size + 1, 0, none⟩)]) (by simp) (by simp [go_sem]) ?_
      refine (catch_idle _ _ _).mono ?_
      rintro e u' w'' ⟨rfl, rfl, rfl⟩
      simp [Leaves, settle, results, Tryd.results53, go_sem]
      exact HP.out _ _
  all_goals clear hd1 hd
  all_goals go_enter_defers Tryd.func53, Tryd.ntmps53
  all_goals go_wp2_with fail
  all_goals
    refine leaves_cons (f := 78) (args := #[.pointer (some ⟨w.heap.size, 0, none⟩), .pointer (some ⟨w.heap.size + 1, 0, none⟩)]) (by simp) (by simp [go_sem]) ?_
    refine (catch_idle _ _ _).mono ?_
    rintro e u' w'' ⟨rfl, rfl, rfl⟩
    simp [Leaves, settle, results, Tryd.results53, go_sem]
    exact HP.out _ _
set_option maxRecDepth 20000 in
set_option maxHeartbeats 1000000 in
theorem parts_2 {z : Nat} (t x y : Tm) (a b : Value) (k : Int) (hk : 18 ≤ k) (hk2 : k ≤ 31) (w : World) (hx : Sits z w x a) (hy : Sits z w y b) : Calls Tryd.prog 53 #[doubleV t x y a b, .int .i64 k] w (PartsP z [x, y] w) := by
  have hmf : ∀ (fn : Fn) (first cap : Array Value) (w : World), (Instr.makeFunc fn first cap).run Tryd.prog w = .ok (.func fn first cap) w := fun _ _ _ _ => rfl
  have n0 := must_double
  have hd : 12 < k := by omega
  have hd1 : (k == 33) = false := by simp; omega
  have hd2 : 17 < k := by omega
  have hd3 : (k == 34) = false := by simp; omega
  have hd4 : (k == 35) = false := by simp; omega
  have HX := hid2 hx
  have HY := hid2 hy
  obtain ⟨ad, cap, rfl, -, -⟩ := hx.parts.shape
  obtain ⟨ad2, cap2, rfl, -, -⟩ := hy.parts.shape
  have HP : Hid (∀ o o1 o2, PartsP z [x, y] w (.returned (.tuple #[.slice (some ⟨w.heap.size + 1 + 1 + 1, 0, none⟩) 2 2, .bool true])) ((((w.alloc o).alloc o1).alloc o2).alloc (.cells #[.int .i64 x.kind, .string x.text, .int .i64 x.n, .int .i64 x.m, .int .i64 x.pl, .slice ad x.parts.length cap, .int .i64 y.kind, .string y.text, .int .i64 y.n, .int .i64 y.m, .int .i64 y.pl, .slice ad2 y.parts.length cap2] 24))) := fun o o1 o2 => by
    have hb := Box.new (((w.alloc o).alloc o1).alloc o2) (flatT [(x, .slice ad x.parts.length cap), (y, .slice ad2 y.parts.length cap2)]) 24
    rw [show (((w.alloc o).alloc o1).alloc o2).heap.size = w.heap.size + 1 + 1 + 1 by simp] at hb
    exact ⟨_, rfl, pat_new [(x, .slice ad x.parts.length cap), (y, .slice ad2 y.parts.length cap2)] hb (fun p hp => by simp at hp; rcases hp with rfl | rfl; exact HX.out.next (below4 ..); exact HY.out.next (below4 ..)) (Nat.le_refl _) (by decide), below4 ..⟩
  clear hk hx hy
  go_enter_defers Tryd.func53, Tryd.ntmps53
  go_wp2_with fail
  all_goals
    refine leaves_cons (f := 78) (args := #[.pointer (some ⟨w.heap.size, 0, none⟩), .pointer (some ⟨w.heap.size + 1, 0, none⟩)]) (by simp) (by simp [go_sem]) ?_
    refine (catch_idle _ _ _).mono ?_
    rintro e u' w'' ⟨rfl, rfl, rfl⟩
    simp [Leaves, settle, results, Tryd.results53, go_sem]
    exact HP.out _ _ _
set_option maxRecDepth 20000 in
set_option maxHeartbeats 1000000 in
theorem parts_3 {z : Nat} (t x y u : Tm) (a b c : Value) (w : World) (hx : Sits z w x a) (hy : Sits z w y b) (hu : Sits z w u c) : Calls Tryd.prog 53 #[tripleV t x y u a b c, .int .i64 32] w (PartsP z [x, y, u] w) := by
  have hmf : ∀ (fn : Fn) (first cap : Array Value) (w : World), (Instr.makeFunc fn first cap).run Tryd.prog w = .ok (.func fn first cap) w := fun _ _ _ _ => rfl
  have n0 := must_triple
  have HX := hid2 hx
  have HY := hid2 hy
  have HU := hid2 hu
  obtain ⟨ad, cap, rfl, -, -⟩ := hx.parts.shape
  obtain ⟨ad2, cap2, rfl, -, -⟩ := hy.parts.shape
  obtain ⟨ad3, cap3, rfl, -, -⟩ := hu.parts.shape
  have HP : Hid (∀ o o1 o2, PartsP z [x, y, u] w (.returned (.tuple #[.slice (some ⟨w.heap.size + 1 + 1 + 1, 0, none⟩) 3 3, .bool true])) ((((w.alloc o).alloc o1).alloc o2).alloc (.cells #[.int .i64 x.kind, .string x.text, .int .i64 x.n, .int .i64 x.m, .int .i64 x.pl, .slice ad x.parts.length cap, .int .i64 y.kind, .string y.text, .int .i64 y.n, .int .i64 y.m, .int .i64 y.pl, .slice ad2 y.parts.length cap2, .int .i64 u.kind, .string u.text, .int .i64 u.n, .int .i64 u.m, .int .i64 u.pl, .slice ad3 u.parts.length cap3] 24))) := fun o o1 o2 => by
    have hb := Box.new (((w.alloc o).alloc o1).alloc o2) (flatT [(x, .slice ad x.parts.length cap), (y, .slice ad2 y.parts.length cap2), (u, .slice ad3 u.parts.length cap3)]) 24
    rw [show (((w.alloc o).alloc o1).alloc o2).heap.size = w.heap.size + 1 + 1 + 1 by simp] at hb
    exact ⟨_, rfl, pat_new [(x, .slice ad x.parts.length cap), (y, .slice ad2 y.parts.length cap2), (u, .slice ad3 u.parts.length cap3)] hb (fun p hp => by simp at hp; rcases hp with rfl | rfl | rfl; exact HX.out.next (below4 ..); exact HY.out.next (below4 ..); exact HU.out.next (below4 ..)) (Nat.le_refl _) (by decide), below4 ..⟩
  obtain ⟨X, hX⟩ : ∃ X : Array Value, Hid (X = #[.int .i64 t.kind, .string t.text, .int .i64 t.n, .int .i64 t.m, .int .i64 x.kind, .string x.text, .int .i64 x.n, .int .i64 x.m, .int .i64 x.pl, .slice ad x.parts.length cap, .int .i64 y.kind, .string y.text, .int .i64 y.n, .int .i64 y.m, .int .i64 y.pl, .slice ad2 y.parts.length cap2, .int .i64 u.kind, .string u.text, .int .i64 u.n, .int .i64 u.m, .int .i64 u.pl, .slice ad3 u.parts.length cap3]) := ⟨_, rfl⟩
  have st := run_storeCells_new (P := Tryd.prog) ((w.alloc (.cells #[.slice none 0 0] 22)).alloc (.cells #[.bool false] 4)) 83 tripleC X (by rw [hX.out]; kernel_rfl) (by rw [hX.out]; rfl) (by rw [hX.out]; kernel_rfl)
  have BX := Box.new ((w.alloc (.cells #[.slice none 0 0] 22)).alloc (.cells #[.bool false] 4)) [.int .i64 t.kind, .string t.text, .int .i64 t.n, .int .i64 t.m, .int .i64 x.kind, .string x.text, .int .i64 x.n, .int .i64 x.m, .int .i64 x.pl, .slice ad x.parts.length cap, .int .i64 y.kind, .string y.text, .int .i64 y.n, .int .i64 y.m, .int .i64 y.pl, .slice ad2 y.parts.length cap2, .int .i64 u.kind, .string u.text, .int .i64 u.n, .int .i64 u.m, .int .i64 u.pl, .slice ad3 u.parts.length cap3] 83
  show Calls _ _ #[.iface 83 (.agg #[.int .i64 t.kind, .string t.text, .int .i64 t.n, .int .i64 t.m, .int .i64 x.kind, .string x.text, .int .i64 x.n, .int .i64 x.m, .int .i64 x.pl, .slice ad x.parts.length cap, .int .i64 y.kind, .string y.text, .int .i64 y.n, .int .i64 y.m, .int .i64 y.pl, .slice ad2 y.parts.length cap2, .int .i64 u.kind, .string u.text, .int .i64 u.n, .int .i64 u.m, .int .i64 u.pl, .slice ad3 u.parts.length cap3]), _] _ _
  rw [← hX.out] at BX ⊢
  have hXs : X.size = 22 := by rw [hX.out]; rfl
  have e2 : ((w.alloc (.cells #[.slice none 0 0] 22)).alloc (.cells #[.bool false] 4)).heap.size = w.heap.size + 1 + 1 := by simp
  rw [e2] at BX st
  have k4 := BX.cell 4 _ rfl
  have k5 := BX.cell 5 _ rfl
  have k6 := BX.cell 6 _ rfl
  have k7 := BX.cell 7 _ rfl
  have k8 := BX.cell 8 _ rfl
  have k9 := BX.cell 9 _ rfl
  have k10 := BX.cell 10 _ rfl
  have k11 := BX.cell 11 _ rfl
  have k12 := BX.cell 12 _ rfl
  have k13 := BX.cell 13 _ rfl
  have k14 := BX.cell 14 _ rfl
  have k15 := BX.cell 15 _ rfl
  have k16 := BX.cell 16 _ rfl
  have k17 := BX.cell 17 _ rfl
  have k18 := BX.cell 18 _ rfl
  have k19 := BX.cell 19 _ rfl
  have k20 := BX.cell 20 _ rfl
  have k21 := BX.cell 21 _ rfl
  have lx := BX.lt
  clear hX BX hx hy hu e2
  go_enter_defers Tryd.func53, Tryd.ntmps53
  go_wp2_with fail
  all_goals
    refine leaves_cons (f := 78) (args := #[.pointer (some ⟨w.heap.size, 0, none⟩), .pointer (some ⟨w.heap.size + 1, 0, none⟩)]) (by simp) (by simp [go_sem]) ?_
    refine (catch_idle _ _ _).mono ?_
    rintro e u' w'' ⟨rfl, rfl, rfl⟩
    simp [Leaves, settle, results, Tryd.results53, go_sem]
    exact HP.out _ _ _
end Go.Proofs.YtdikeicnefgjcaaDoor
