/- Package tree: what a node is: the type assertions. Package tree: expression, Formed. -/
import Derived.Test.YtbhmffgmbabkkaaGreatDoorMgU
import Derived.Test.YtbhmffgmbabkkaaGreatDoorTrA
import Derived.Test.YtbhmffgmbabkkaaGreatDoorTrB
import Derived.Deep.WholeRow
section
namespace Go.Proofs.YtbhmffgmbabkkaaGreatDoor
open Go.RowKit

abbrev leafC : Array Value := #[.int .i64 0, .string ⟨#[]⟩, .int .i64 0, .int .i64 0]
abbrev leafZ : Value := .agg #[.int .i64 0, .string ⟨#[]⟩, .int .i64 0, .int .i64 0]
abbrev singleC : Array Value := #[.int .i64 0, .string ⟨#[]⟩, .int .i64 0, .int .i64 0, .int .i64 0, .string ⟨#[]⟩, .int .i64 0, .int .i64 0, .int .i64 0, .slice none 0 0]
abbrev singleZ : Value := .agg #[.int .i64 0, .string ⟨#[]⟩, .int .i64 0, .int .i64 0, .int .i64 0, .string ⟨#[]⟩, .int .i64 0, .int .i64 0, .int .i64 0, .slice none 0 0]
abbrev doubleC : Array Value := #[.int .i64 0, .string ⟨#[]⟩, .int .i64 0, .int .i64 0, .int .i64 0, .string ⟨#[]⟩, .int .i64 0, .int .i64 0, .int .i64 0, .slice none 0 0, .int .i64 0, .string ⟨#[]⟩, .int .i64 0, .int .i64 0, .int .i64 0, .slice none 0 0]
abbrev doubleZ : Value := .agg #[.int .i64 0, .string ⟨#[]⟩, .int .i64 0, .int .i64 0, .int .i64 0, .string ⟨#[]⟩, .int .i64 0, .int .i64 0, .int .i64 0, .slice none 0 0, .int .i64 0, .string ⟨#[]⟩, .int .i64 0, .int .i64 0, .int .i64 0, .slice none 0 0]
abbrev tripleC : Array Value := #[.int .i64 0, .string ⟨#[]⟩, .int .i64 0, .int .i64 0, .int .i64 0, .string ⟨#[]⟩, .int .i64 0, .int .i64 0, .int .i64 0, .slice none 0 0, .int .i64 0, .string ⟨#[]⟩, .int .i64 0, .int .i64 0, .int .i64 0, .slice none 0 0, .int .i64 0, .string ⟨#[]⟩, .int .i64 0, .int .i64 0, .int .i64 0, .slice none 0 0]
abbrev tripleZ : Value := .agg #[.int .i64 0, .string ⟨#[]⟩, .int .i64 0, .int .i64 0, .int .i64 0, .string ⟨#[]⟩, .int .i64 0, .int .i64 0, .int .i64 0, .slice none 0 0, .int .i64 0, .string ⟨#[]⟩, .int .i64 0, .int .i64 0, .int .i64 0, .slice none 0 0, .int .i64 0, .string ⟨#[]⟩, .int .i64 0, .int .i64 0, .int .i64 0, .slice none 0 0]
abbrev manyC : Array Value := #[.int .i64 0, .string ⟨#[]⟩, .int .i64 0, .int .i64 0, .int .i64 0, .string ⟨#[]⟩, .int .i64 0, .int .i64 0, .int .i64 0, .slice none 0 0, .slice none 0 0, .int .i64 0, .string ⟨#[]⟩, .int .i64 0, .int .i64 0, .int .i64 0, .slice none 0 0]
abbrev manyZ : Value := .agg #[.int .i64 0, .string ⟨#[]⟩, .int .i64 0, .int .i64 0, .int .i64 0, .string ⟨#[]⟩, .int .i64 0, .int .i64 0, .int .i64 0, .slice none 0 0, .slice none 0 0, .int .i64 0, .string ⟨#[]⟩, .int .i64 0, .int .i64 0, .int .i64 0, .slice none 0 0]
theorem is_leaf (v : Value) (w : World) : (Instr.typeAssert (.iface 147 v) 104 147 true).run Tryz.prog w = .ok (.tuple #[v, .bool true]) w := by kernel_rfl
theorem must_leaf (v : Value) (w : World) : (Instr.typeAssert (.iface 147 v) 104 147 false).run Tryz.prog w = .ok v w := by kernel_rfl
theorem is_single (v : Value) (w : World) : (Instr.typeAssert (.iface 149 v) 104 149 true).run Tryz.prog w = .ok (.tuple #[v, .bool true]) w := by kernel_rfl
theorem must_single (v : Value) (w : World) : (Instr.typeAssert (.iface 149 v) 104 149 false).run Tryz.prog w = .ok v w := by kernel_rfl
theorem is_double (v : Value) (w : World) : (Instr.typeAssert (.iface 151 v) 104 151 true).run Tryz.prog w = .ok (.tuple #[v, .bool true]) w := by kernel_rfl
theorem must_double (v : Value) (w : World) : (Instr.typeAssert (.iface 151 v) 104 151 false).run Tryz.prog w = .ok v w := by kernel_rfl
theorem is_triple (v : Value) (w : World) : (Instr.typeAssert (.iface 153 v) 104 153 true).run Tryz.prog w = .ok (.tuple #[v, .bool true]) w := by kernel_rfl
theorem must_triple (v : Value) (w : World) : (Instr.typeAssert (.iface 153 v) 104 153 false).run Tryz.prog w = .ok v w := by kernel_rfl
theorem is_many (v : Value) (w : World) : (Instr.typeAssert (.iface 155 v) 104 155 true).run Tryz.prog w = .ok (.tuple #[v, .bool true]) w := by kernel_rfl
theorem must_many (v : Value) (w : World) : (Instr.typeAssert (.iface 155 v) 104 155 false).run Tryz.prog w = .ok v w := by kernel_rfl
theorem single_no_leaf (v : Value) (w : World) : (Instr.typeAssert (.iface 149 v) 104 147 true).run Tryz.prog w = .ok (.tuple #[leafZ, .bool false]) w := by kernel_rfl
theorem double_no_leaf (v : Value) (w : World) : (Instr.typeAssert (.iface 151 v) 104 147 true).run Tryz.prog w = .ok (.tuple #[leafZ, .bool false]) w := by kernel_rfl
theorem triple_no_leaf (v : Value) (w : World) : (Instr.typeAssert (.iface 153 v) 104 147 true).run Tryz.prog w = .ok (.tuple #[leafZ, .bool false]) w := by kernel_rfl
theorem many_no_leaf (v : Value) (w : World) : (Instr.typeAssert (.iface 155 v) 104 147 true).run Tryz.prog w = .ok (.tuple #[leafZ, .bool false]) w := by kernel_rfl
theorem leaf_no_single (v : Value) (w : World) : (Instr.typeAssert (.iface 147 v) 104 149 true).run Tryz.prog w = .ok (.tuple #[singleZ, .bool false]) w := by kernel_rfl
theorem double_no_single (v : Value) (w : World) : (Instr.typeAssert (.iface 151 v) 104 149 true).run Tryz.prog w = .ok (.tuple #[singleZ, .bool false]) w := by kernel_rfl
theorem triple_no_single (v : Value) (w : World) : (Instr.typeAssert (.iface 153 v) 104 149 true).run Tryz.prog w = .ok (.tuple #[singleZ, .bool false]) w := by kernel_rfl
theorem many_no_single (v : Value) (w : World) : (Instr.typeAssert (.iface 155 v) 104 149 true).run Tryz.prog w = .ok (.tuple #[singleZ, .bool false]) w := by kernel_rfl
theorem leaf_no_double (v : Value) (w : World) : (Instr.typeAssert (.iface 147 v) 104 151 true).run Tryz.prog w = .ok (.tuple #[doubleZ, .bool false]) w := by kernel_rfl
theorem single_no_double (v : Value) (w : World) : (Instr.typeAssert (.iface 149 v) 104 151 true).run Tryz.prog w = .ok (.tuple #[doubleZ, .bool false]) w := by kernel_rfl
theorem triple_no_double (v : Value) (w : World) : (Instr.typeAssert (.iface 153 v) 104 151 true).run Tryz.prog w = .ok (.tuple #[doubleZ, .bool false]) w := by kernel_rfl
theorem many_no_double (v : Value) (w : World) : (Instr.typeAssert (.iface 155 v) 104 151 true).run Tryz.prog w = .ok (.tuple #[doubleZ, .bool false]) w := by kernel_rfl
theorem leaf_no_triple (v : Value) (w : World) : (Instr.typeAssert (.iface 147 v) 104 153 true).run Tryz.prog w = .ok (.tuple #[tripleZ, .bool false]) w := by kernel_rfl
theorem single_no_triple (v : Value) (w : World) : (Instr.typeAssert (.iface 149 v) 104 153 true).run Tryz.prog w = .ok (.tuple #[tripleZ, .bool false]) w := by kernel_rfl
theorem double_no_triple (v : Value) (w : World) : (Instr.typeAssert (.iface 151 v) 104 153 true).run Tryz.prog w = .ok (.tuple #[tripleZ, .bool false]) w := by kernel_rfl
theorem many_no_triple (v : Value) (w : World) : (Instr.typeAssert (.iface 155 v) 104 153 true).run Tryz.prog w = .ok (.tuple #[tripleZ, .bool false]) w := by kernel_rfl
theorem leaf_no_many (v : Value) (w : World) : (Instr.typeAssert (.iface 147 v) 104 155 true).run Tryz.prog w = .ok (.tuple #[manyZ, .bool false]) w := by kernel_rfl
theorem single_no_many (v : Value) (w : World) : (Instr.typeAssert (.iface 149 v) 104 155 true).run Tryz.prog w = .ok (.tuple #[manyZ, .bool false]) w := by kernel_rfl
theorem double_no_many (v : Value) (w : World) : (Instr.typeAssert (.iface 151 v) 104 155 true).run Tryz.prog w = .ok (.tuple #[manyZ, .bool false]) w := by kernel_rfl
theorem triple_no_many (v : Value) (w : World) : (Instr.typeAssert (.iface 153 v) 104 155 true).run Tryz.prog w = .ok (.tuple #[manyZ, .bool false]) w := by kernel_rfl
end Go.Proofs.YtbhmffgmbabkkaaGreatDoor
end
section
namespace Go.Proofs.YtbhmffgmbabkkaaGreatDoor
open Go.RowKit

theorem bcell {W w1 : World} (hb : Below W.heap.size W w1) : (∀ b o, b < W.heap.size → w1.cell? ⟨b, o, none⟩ = W.cell? ⟨b, o, none⟩) ∧ (∀ b o, b < W.heap.size → w1.frozen? ⟨b, o, none⟩ = W.frozen? ⟨b, o, none⟩) :=
  ⟨fun b o h => hb.cell (p := ⟨b, o, none⟩) h, fun b o h => hb.frozen (p := ⟨b, o, none⟩) h⟩
def FormedAt (z : Nat) (t : Tm) : Prop := ∀ (v : Value) (w : World), Sits z w t v → TabsAt w → Calls Tryz.prog 46 #[tmV t v] w fun e w' => e = .returned (.bool (formedB t)) ∧ Below w.heap.size w w'
theorem FormedAt.on {z : Nat} {t : Tm} (h : FormedAt z t) {w : World} {v : Value} (hs : Sits z w t v) (hT : TabsAt w) : ∀ wx, Below w.heap.size w wx → Calls Tryz.prog 46 #[tmV t v] wx fun e w' => e = .returned (.bool (formedB t)) ∧ Below wx.heap.size wx w' := fun wx hb => h v wx (hs.next hb) (hT.next hb)
set_option maxRecDepth 20000 in
theorem expr_0 (t : Tm) (hz : t.text.size ≤ 562949953421312) (w : World) (hT : TabsAt w) : Calls Tryz.prog 79 #[leafV t] w fun e w' => e = .returned (.bool (leafB t.kind t.text t.n t.m)) ∧ Below w.heap.size w w' := by
  have HL := hid2 (fun wx hx => leaf_c t.kind t.text t.n t.m hz wx hx)
  have HT : Hid (∀ o, TabsAt (w.alloc o)) := fun o => hT.next ((Below.refl _ _).alloc (Nat.le_refl _) _)
  have t0 := is_leaf
  clear hT hz
  go_enter Tryz.func79, Tryz.ntmps79
  go_wp2_with fail
  refine Calls.mono (HL.out _ (HT.out _)) ?_
  rintro e w1 ⟨rfl, b1⟩
  go_wp2_with fail
  go_ret
  exact ⟨rfl, below_on ((Below.refl _ _).alloc (Nat.le_refl _) _) b1 (by simp)⟩
set_option maxRecDepth 20000 in
theorem expr_1 {z : Nat} (t x : Tm) (ax : Value) (w : World) (hT : TabsAt w) (sx : Sits z w x ax) (ix : FormedAt z x) : Calls Tryz.prog 79 #[singleV t x ax] w fun e w' => e = .returned (.bool (plainB t.kind t.text t.n t.m 13 17 && formedB x)) ∧ Below w.heap.size w w' := by
  obtain ⟨dx, cx, rfl, -, -⟩ := sx.parts.shape
  obtain ⟨q1, h1⟩ : ∃ q : Bool, Hid (q = plainB t.kind t.text t.n t.m 13 17) := ⟨_, rfl⟩
  have P : Hid (∀ wx, Calls Tryz.prog 125 #[.agg #[.int .i64 t.kind, .string t.text, .int .i64 t.n, .int .i64 t.m], .int .i64 13, .int .i64 17] wx fun e w' => e = .returned (.bool q1) ∧ Below wx.heap.size wx w') := fun wx => by rw [h1.out]; exact plain_c _ _ _ _ _ _ wx
  rw [← h1.out]
  have Hx := hid2 (ix.on sx hT)
  obtain ⟨q2, h2⟩ : ∃ q : Bool, Hid (q = formedB x) := ⟨_, rfl⟩
  rw [← h2.out]
  rw [← h2.out] at Hx
  have t_single_no_leaf := single_no_leaf
  have t_is_single := is_single
  obtain ⟨X, hX⟩ : ∃ X : Array Value, Hid (X = #[.int .i64 t.kind, .string t.text, .int .i64 t.n, .int .i64 t.m, .int .i64 x.kind, .string x.text, .int .i64 x.n, .int .i64 x.m, .int .i64 x.pl, .slice dx x.parts.length cx]) := ⟨_, rfl⟩
  have st := fun (W : World) => run_storeCells_new (P := Tryz.prog) W 149 singleC X (by rw [hX.out]; kernel_rfl) (by rw [hX.out]; rfl) (by rw [hX.out]; kernel_rfl)
  have BX : Hid (Box (w.alloc (.cells X 149)) w.heap.size [.int .i64 t.kind, .string t.text, .int .i64 t.n, .int .i64 t.m, .int .i64 x.kind, .string x.text, .int .i64 x.n, .int .i64 x.m, .int .i64 x.pl, .slice dx x.parts.length cx]) := by rw [hX.out]; exact Box.new w _ _
  show Calls _ _ #[.iface 149 (.agg #[.int .i64 t.kind, .string t.text, .int .i64 t.n, .int .i64 t.m, .int .i64 x.kind, .string x.text, .int .i64 x.n, .int .i64 x.m, .int .i64 x.pl, .slice dx x.parts.length cx])] _ _
  rw [← hX.out]
  have hXs : X.size = 10 := by rw [hX.out]; rfl
  have x0 : ∀ h : 0 < X.size, X[0]'h = .int .i64 t.kind := by rw [hX.out]; intro h; rfl
  have x1 : ∀ h : 1 < X.size, X[1]'h = .string t.text := by rw [hX.out]; intro h; rfl
  have x2 : ∀ h : 2 < X.size, X[2]'h = .int .i64 t.n := by rw [hX.out]; intro h; rfl
  have x3 : ∀ h : 3 < X.size, X[3]'h = .int .i64 t.m := by rw [hX.out]; intro h; rfl
  clear hX
  clear hT sx ix h1 h2
  go_enter Tryz.func79, Tryz.ntmps79
  go_wp2_with fail
  refine Calls.mono (P.out _) ?_
  rintro e w1 ⟨rfl, b1⟩
  have B1 : Hid (Below w.heap.size w w1) := below_on ((Below.refl _ _).alloc (Nat.le_refl _) _) b1 (by simp)
  have X1 := hid2 (BX.out.next b1)
  clear b1
  cases q1
  · go_wp2_with fail
    go_ret
    exact ⟨by simp, B1.out⟩
  · have k0 := X1.out.cell 4 _ rfl
    have k1 := X1.out.cell 5 _ rfl
    have k2 := X1.out.cell 6 _ rfl
    have k3 := X1.out.cell 7 _ rfl
    have k4 := X1.out.cell 8 _ rfl
    have k5 := X1.out.cell 9 _ rfl
    go_wp2_with fail
    clear k0 k1 k2 k3 k4 k5
    refine Calls.mono (Hx.out _ B1.out) ?_
    rintro e w2 ⟨rfl, b2⟩
    have B2 : Hid (Below w.heap.size w w2) := below_on B1.out b2 B1.out.size
    clear b2
    go_wp2_with fail
    go_ret
    exact ⟨by simp, B2.out⟩
set_option maxRecDepth 20000 in
theorem expr_2 {z : Nat} (t x y : Tm) (ax ay : Value) (w : World) (hT : TabsAt w) (sx : Sits z w x ax) (ix : FormedAt z x) (sy : Sits z w y ay) (iy : FormedAt z y) : Calls Tryz.prog 79 #[doubleV t x y ax ay] w fun e w' => e = .returned (.bool (plainB t.kind t.text t.n t.m 18 31 && (formedB x && formedB y))) ∧ Below w.heap.size w w' := by
  obtain ⟨dx, cx, rfl, -, -⟩ := sx.parts.shape
  obtain ⟨dy, cy, rfl, -, -⟩ := sy.parts.shape
  obtain ⟨q1, h1⟩ : ∃ q : Bool, Hid (q = plainB t.kind t.text t.n t.m 18 31) := ⟨_, rfl⟩
  have P : Hid (∀ wx, Calls Tryz.prog 125 #[.agg #[.int .i64 t.kind, .string t.text, .int .i64 t.n, .int .i64 t.m], .int .i64 18, .int .i64 31] wx fun e w' => e = .returned (.bool q1) ∧ Below wx.heap.size wx w') := fun wx => by rw [h1.out]; exact plain_c _ _ _ _ _ _ wx
  rw [← h1.out]
  have Hx := hid2 (ix.on sx hT)
  obtain ⟨q2, h2⟩ : ∃ q : Bool, Hid (q = formedB x) := ⟨_, rfl⟩
  rw [← h2.out]
  rw [← h2.out] at Hx
  have Hy := hid2 (iy.on sy hT)
  obtain ⟨q3, h3⟩ : ∃ q : Bool, Hid (q = formedB y) := ⟨_, rfl⟩
  rw [← h3.out]
  rw [← h3.out] at Hy
  have t_double_no_leaf := double_no_leaf
  have t_double_no_single := double_no_single
  have t_is_double := is_double
  obtain ⟨X, hX⟩ : ∃ X : Array Value, Hid (X = #[.int .i64 t.kind, .string t.text, .int .i64 t.n, .int .i64 t.m, .int .i64 x.kind, .string x.text, .int .i64 x.n, .int .i64 x.m, .int .i64 x.pl, .slice dx x.parts.length cx, .int .i64 y.kind, .string y.text, .int .i64 y.n, .int .i64 y.m, .int .i64 y.pl, .slice dy y.parts.length cy]) := ⟨_, rfl⟩
  have st := fun (W : World) => run_storeCells_new (P := Tryz.prog) W 151 doubleC X (by rw [hX.out]; kernel_rfl) (by rw [hX.out]; rfl) (by rw [hX.out]; kernel_rfl)
  have BX : Hid (Box (w.alloc (.cells X 151)) w.heap.size [.int .i64 t.kind, .string t.text, .int .i64 t.n, .int .i64 t.m, .int .i64 x.kind, .string x.text, .int .i64 x.n, .int .i64 x.m, .int .i64 x.pl, .slice dx x.parts.length cx, .int .i64 y.kind, .string y.text, .int .i64 y.n, .int .i64 y.m, .int .i64 y.pl, .slice dy y.parts.length cy]) := by rw [hX.out]; exact Box.new w _ _
  show Calls _ _ #[.iface 151 (.agg #[.int .i64 t.kind, .string t.text, .int .i64 t.n, .int .i64 t.m, .int .i64 x.kind, .string x.text, .int .i64 x.n, .int .i64 x.m, .int .i64 x.pl, .slice dx x.parts.length cx, .int .i64 y.kind, .string y.text, .int .i64 y.n, .int .i64 y.m, .int .i64 y.pl, .slice dy y.parts.length cy])] _ _
  rw [← hX.out]
  have hXs : X.size = 16 := by rw [hX.out]; rfl
  have x0 : ∀ h : 0 < X.size, X[0]'h = .int .i64 t.kind := by rw [hX.out]; intro h; rfl
  have x1 : ∀ h : 1 < X.size, X[1]'h = .string t.text := by rw [hX.out]; intro h; rfl
  have x2 : ∀ h : 2 < X.size, X[2]'h = .int .i64 t.n := by rw [hX.out]; intro h; rfl
  have x3 : ∀ h : 3 < X.size, X[3]'h = .int .i64 t.m := by rw [hX.out]; intro h; rfl
  clear hX
  clear hT sx ix sy iy h1 h2 h3
  go_enter Tryz.func79, Tryz.ntmps79
  go_wp2_with fail
  refine Calls.mono (P.out _) ?_
  rintro e w1 ⟨rfl, b1⟩
  have B1 : Hid (Below w.heap.size w w1) := below_on ((Below.refl _ _).alloc (Nat.le_refl _) _) b1 (by simp)
  have X1 := hid2 (BX.out.next b1)
  clear b1
  cases q1
  · go_wp2_with fail
    go_ret
    exact ⟨by simp, B1.out⟩
  · have k0 := X1.out.cell 4 _ rfl
    have k1 := X1.out.cell 5 _ rfl
    have k2 := X1.out.cell 6 _ rfl
    have k3 := X1.out.cell 7 _ rfl
    have k4 := X1.out.cell 8 _ rfl
    have k5 := X1.out.cell 9 _ rfl
    go_wp2_with fail
    clear k0 k1 k2 k3 k4 k5
    refine Calls.mono (Hx.out _ B1.out) ?_
    rintro e w2 ⟨rfl, b2⟩
    have B2 : Hid (Below w.heap.size w w2) := below_on B1.out b2 B1.out.size
    have X2 := hid2 (X1.out.next b2)
    clear b2
    cases q2
    · go_wp2_with fail
      go_ret
      exact ⟨by simp, B2.out⟩
    · have k0 := X2.out.cell 10 _ rfl
      have k1 := X2.out.cell 11 _ rfl
      have k2 := X2.out.cell 12 _ rfl
      have k3 := X2.out.cell 13 _ rfl
      have k4 := X2.out.cell 14 _ rfl
      have k5 := X2.out.cell 15 _ rfl
      go_wp2_with fail
      clear k0 k1 k2 k3 k4 k5
      refine Calls.mono (Hy.out _ B2.out) ?_
      rintro e w3 ⟨rfl, b3⟩
      have B3 : Hid (Below w.heap.size w w3) := below_on B2.out b3 B2.out.size
      clear b3
      go_wp2_with fail
      go_ret
      exact ⟨by simp, B3.out⟩
set_option maxRecDepth 20000 in
theorem expr_3 {z : Nat} (t x y u : Tm) (ax ay au : Value) (w : World) (hT : TabsAt w) (sx : Sits z w x ax) (ix : FormedAt z x) (sy : Sits z w y ay) (iy : FormedAt z y) (su : Sits z w u au) (iu : FormedAt z u) : Calls Tryz.prog 79 #[tripleV t x y u ax ay au] w fun e w' => e = .returned (.bool (plainB t.kind t.text t.n t.m 32 32 && (formedB x && (formedB y && formedB u)))) ∧ Below w.heap.size w w' := by
  obtain ⟨dx, cx, rfl, -, -⟩ := sx.parts.shape
  obtain ⟨dy, cy, rfl, -, -⟩ := sy.parts.shape
  obtain ⟨du, cu, rfl, -, -⟩ := su.parts.shape
  obtain ⟨q1, h1⟩ : ∃ q : Bool, Hid (q = plainB t.kind t.text t.n t.m 32 32) := ⟨_, rfl⟩
  have P : Hid (∀ wx, Calls Tryz.prog 125 #[.agg #[.int .i64 t.kind, .string t.text, .int .i64 t.n, .int .i64 t.m], .int .i64 32, .int .i64 32] wx fun e w' => e = .returned (.bool q1) ∧ Below wx.heap.size wx w') := fun wx => by rw [h1.out]; exact plain_c _ _ _ _ _ _ wx
  rw [← h1.out]
  have Hx := hid2 (ix.on sx hT)
  obtain ⟨q2, h2⟩ : ∃ q : Bool, Hid (q = formedB x) := ⟨_, rfl⟩
  rw [← h2.out]
  rw [← h2.out] at Hx
  have Hy := hid2 (iy.on sy hT)
  obtain ⟨q3, h3⟩ : ∃ q : Bool, Hid (q = formedB y) := ⟨_, rfl⟩
  rw [← h3.out]
  rw [← h3.out] at Hy
  have Hu := hid2 (iu.on su hT)
  obtain ⟨q4, h4⟩ : ∃ q : Bool, Hid (q = formedB u) := ⟨_, rfl⟩
  rw [← h4.out]
  rw [← h4.out] at Hu
  have t_triple_no_leaf := triple_no_leaf
  have t_triple_no_single := triple_no_single
  have t_triple_no_double := triple_no_double
  have t_is_triple := is_triple
  obtain ⟨X, hX⟩ : ∃ X : Array Value, Hid (X = #[.int .i64 t.kind, .string t.text, .int .i64 t.n, .int .i64 t.m, .int .i64 x.kind, .string x.text, .int .i64 x.n, .int .i64 x.m, .int .i64 x.pl, .slice dx x.parts.length cx, .int .i64 y.kind, .string y.text, .int .i64 y.n, .int .i64 y.m, .int .i64 y.pl, .slice dy y.parts.length cy, .int .i64 u.kind, .string u.text, .int .i64 u.n, .int .i64 u.m, .int .i64 u.pl, .slice du u.parts.length cu]) := ⟨_, rfl⟩
  have st := fun (W : World) => run_storeCells_new (P := Tryz.prog) W 153 tripleC X (by rw [hX.out]; kernel_rfl) (by rw [hX.out]; rfl) (by rw [hX.out]; kernel_rfl)
  have BX : Hid (Box (w.alloc (.cells X 153)) w.heap.size [.int .i64 t.kind, .string t.text, .int .i64 t.n, .int .i64 t.m, .int .i64 x.kind, .string x.text, .int .i64 x.n, .int .i64 x.m, .int .i64 x.pl, .slice dx x.parts.length cx, .int .i64 y.kind, .string y.text, .int .i64 y.n, .int .i64 y.m, .int .i64 y.pl, .slice dy y.parts.length cy, .int .i64 u.kind, .string u.text, .int .i64 u.n, .int .i64 u.m, .int .i64 u.pl, .slice du u.parts.length cu]) := by rw [hX.out]; exact Box.new w _ _
  show Calls _ _ #[.iface 153 (.agg #[.int .i64 t.kind, .string t.text, .int .i64 t.n, .int .i64 t.m, .int .i64 x.kind, .string x.text, .int .i64 x.n, .int .i64 x.m, .int .i64 x.pl, .slice dx x.parts.length cx, .int .i64 y.kind, .string y.text, .int .i64 y.n, .int .i64 y.m, .int .i64 y.pl, .slice dy y.parts.length cy, .int .i64 u.kind, .string u.text, .int .i64 u.n, .int .i64 u.m, .int .i64 u.pl, .slice du u.parts.length cu])] _ _
  rw [← hX.out]
  have hXs : X.size = 22 := by rw [hX.out]; rfl
  have x0 : ∀ h : 0 < X.size, X[0]'h = .int .i64 t.kind := by rw [hX.out]; intro h; rfl
  have x1 : ∀ h : 1 < X.size, X[1]'h = .string t.text := by rw [hX.out]; intro h; rfl
  have x2 : ∀ h : 2 < X.size, X[2]'h = .int .i64 t.n := by rw [hX.out]; intro h; rfl
  have x3 : ∀ h : 3 < X.size, X[3]'h = .int .i64 t.m := by rw [hX.out]; intro h; rfl
  clear hX
  clear hT sx ix sy iy su iu h1 h2 h3 h4
  go_enter Tryz.func79, Tryz.ntmps79
  go_wp2_with fail
  refine Calls.mono (P.out _) ?_
  rintro e w1 ⟨rfl, b1⟩
  have B1 : Hid (Below w.heap.size w w1) := below_on ((Below.refl _ _).alloc (Nat.le_refl _) _) b1 (by simp)
  have X1 := hid2 (BX.out.next b1)
  clear b1
  cases q1
  · go_wp2_with fail
    go_ret
    exact ⟨by simp, B1.out⟩
  · have k0 := X1.out.cell 4 _ rfl
    have k1 := X1.out.cell 5 _ rfl
    have k2 := X1.out.cell 6 _ rfl
    have k3 := X1.out.cell 7 _ rfl
    have k4 := X1.out.cell 8 _ rfl
    have k5 := X1.out.cell 9 _ rfl
    go_wp2_with fail
    clear k0 k1 k2 k3 k4 k5
    refine Calls.mono (Hx.out _ B1.out) ?_
    rintro e w2 ⟨rfl, b2⟩
    have B2 : Hid (Below w.heap.size w w2) := below_on B1.out b2 B1.out.size
    have X2 := hid2 (X1.out.next b2)
    clear b2
    cases q2
    · go_wp2_with fail
      go_ret
      exact ⟨by simp, B2.out⟩
    · have k0 := X2.out.cell 10 _ rfl
      have k1 := X2.out.cell 11 _ rfl
      have k2 := X2.out.cell 12 _ rfl
      have k3 := X2.out.cell 13 _ rfl
      have k4 := X2.out.cell 14 _ rfl
      have k5 := X2.out.cell 15 _ rfl
      go_wp2_with fail
      clear k0 k1 k2 k3 k4 k5
      refine Calls.mono (Hy.out _ B2.out) ?_
      rintro e w3 ⟨rfl, b3⟩
      have B3 : Hid (Below w.heap.size w w3) := below_on B2.out b3 B2.out.size
      have X3 := hid2 (X2.out.next b3)
      clear b3
      cases q3
      · go_wp2_with fail
        go_ret
        exact ⟨by simp, B3.out⟩
      · have k0 := X3.out.cell 16 _ rfl
        have k1 := X3.out.cell 17 _ rfl
        have k2 := X3.out.cell 18 _ rfl
        have k3 := X3.out.cell 19 _ rfl
        have k4 := X3.out.cell 20 _ rfl
        have k5 := X3.out.cell 21 _ rfl
        go_wp2_with fail
        clear k0 k1 k2 k3 k4 k5
        refine Calls.mono (Hu.out _ B3.out) ?_
        rintro e w4 ⟨rfl, b4⟩
        have B4 : Hid (Below w.heap.size w w4) := below_on B3.out b4 B3.out.size
        clear b4
        go_wp2_with fail
        go_ret
        exact ⟨by simp, B4.out⟩
set_option maxRecDepth 20000 in
theorem expr_4 (v : Value) (w : World) : Calls Tryz.prog 79 #[.iface 155 v] w fun e w' => e = .returned (.bool false) ∧ w' = w := by
  have t1 := many_no_leaf
  have t2 := many_no_single
  have t3 := many_no_double
  have t4 := many_no_triple
  go_enter Tryz.func79, Tryz.ntmps79
  go_wp2_with fail
  go_ret
  exact ⟨rfl, rfl⟩
/-- A list of four or more. -/
theorem four_parts {ps : List Tm} (h : 4 ≤ ps.length) : ∃ x l y, ps = x :: (l ++ [y]) ∧ 2 ≤ l.length := by
  match ps, h with
  | x :: r, h =>
    have hr : r ≠ [] := by intro e; subst e; simp at h
    refine ⟨x, r.dropLast, r.getLast hr, by rw [List.dropLast_concat_getLast], ?_⟩
    simp at h ⊢; omega
theorem formed_all {z : Nat} (hz : z ≤ 562949953421312) (t : Tm) : FormedAt z t := by
  induction t using Tm.ind with
  | h t ih =>
    intro v w hs hT
    have A : ∀ o, Below w.heap.size w (w.alloc o) := fun o => (Below.refl _ _).alloc (Nat.le_refl _) _
    have fit := hs.fit.s
    by_cases h4 : 4 ≤ t.parts.length
    · obtain ⟨x, l, y, hp, h2⟩ := four_parts h4
      have e : formedB t = false := by rw [formedB_eq, headB, if_neg (by omega), if_neg (by omega), if_neg (by omega), if_neg (by omega)]; rfl
      rw [e]
      have HN := hid2 (fun o => nodeOf_4 t x y l v (w.alloc o) (hs.next (A o)) hp h2)
      clear hs hT fit ih e hp h4
      go_enter Tryz.func46, Tryz.ntmps46
      go_wp2_with fail
      refine Calls.mono (HN.out _) ?_
      rintro e w1 ⟨a, mid, b, rfl, -, -, -, b1⟩
      have B1 : Hid (Below w.heap.size w w1) := below_on (A _) b1 (by simp)
      clear b1 A
      go_wp2_with fail
      refine Calls.mono (expr_4 _ _) ?_
      rintro e w2 ⟨rfl, rfl⟩
      go_wp2_with fail
      go_ret
      exact ⟨rfl, B1.out⟩
    have hl : t.parts = [] ∨ (∃ x, t.parts = [x]) ∨ (∃ x y, t.parts = [x, y]) ∨ ∃ x y u, t.parts = [x, y, u] := by
      match t.parts, h4 with
      | [], _ => exact .inl rfl
      | [x], _ => exact .inr (.inl ⟨x, rfl⟩)
      | [x, y], _ => exact .inr (.inr (.inl ⟨x, y, rfl⟩))
      | [x, y, u], _ => exact .inr (.inr (.inr ⟨x, y, u, rfl⟩))
      | _ :: _ :: _ :: _ :: _, h => simp at h
    rcases hl with hp | ⟨x, hp⟩ | ⟨x, y, hp⟩ | ⟨x, y, u, hp⟩
    · have e : formedB t = leafB t.kind t.text t.n t.m := by rw [formedB_eq, hp]; simp [headB]
      rw [e]
      have HN := hid2 (fun o => nodeOf_0 t v (w.alloc o) (hs.next (A o)) hp)
      have HE : Hid (∀ wx, Below w.heap.size w wx → Calls Tryz.prog 79 #[leafV t] wx fun e w' => e = .returned (.bool (leafB t.kind t.text t.n t.m)) ∧ Below wx.heap.size wx w') := fun wx hb => expr_0 t (by omega) wx (hT.next hb)
      clear hs hT fit ih e hp h4
      go_enter Tryz.func46, Tryz.ntmps46
      go_wp2_with fail
      refine Calls.mono (HN.out _) ?_
      rintro e w1 ⟨rfl, b1⟩
      have B1 : Hid (Below w.heap.size w w1) := below_on (A _) b1 (by simp)
      clear b1 A
      go_wp2_with fail
      refine Calls.mono (HE.out  _ B1.out ) ?_
      rintro e w2 ⟨rfl, b2⟩
      have B2 : Hid (Below w.heap.size w w2) := below_on B1.out b2 B1.out.size
      clear b2
      go_wp2_with fail
      go_ret
      exact ⟨rfl, B2.out⟩
    · have e : formedB t = (plainB t.kind t.text t.n t.m 13 17 && formedB x) := by rw [formedB_eq, hp]; simp [headB]
      rw [e]
      have ix := ih x (by rw [hp]; simp)
      have HN := hid2 (fun o => nodeOf_1 t x v (w.alloc o) (hs.next (A o)) hp)
      have HE : Hid (∀ ax wx, Below w.heap.size w wx → Sits z wx x ax → Calls Tryz.prog 79 #[singleV t x ax] wx fun e w' => e = .returned (.bool (plainB t.kind t.text t.n t.m 13 17 && formedB x)) ∧ Below wx.heap.size wx w') := fun ax wx hb sx => expr_1 t x ax wx (hT.next hb) sx ix
      clear hs hT fit ih e hp h4 ix
      go_enter Tryz.func46, Tryz.ntmps46
      go_wp2_with fail
      refine Calls.mono (HN.out _) ?_
      rintro e w1 ⟨ax, rfl, sx, b1⟩
      have B1 : Hid (Below w.heap.size w w1) := below_on (A _) b1 (by simp)
      have Sx := hid2 (sx.next b1)
      clear b1 A sx
      go_wp2_with fail
      refine Calls.mono (HE.out ax _ B1.out Sx.out) ?_
      rintro e w2 ⟨rfl, b2⟩
      have B2 : Hid (Below w.heap.size w w2) := below_on B1.out b2 B1.out.size
      clear b2
      go_wp2_with fail
      go_ret
      exact ⟨rfl, B2.out⟩
    · have e : formedB t = (plainB t.kind t.text t.n t.m 18 31 && (formedB x && formedB y)) := by rw [formedB_eq, hp]; simp [headB]
      rw [e]
      have ix := ih x (by rw [hp]; simp)
      have iy := ih y (by rw [hp]; simp)
      have HN := hid2 (fun o => nodeOf_2 t x y v (w.alloc o) (hs.next (A o)) hp)
      have HE : Hid (∀ ax ay wx, Below w.heap.size w wx → Sits z wx x ax → Sits z wx y ay → Calls Tryz.prog 79 #[doubleV t x y ax ay] wx fun e w' => e = .returned (.bool (plainB t.kind t.text t.n t.m 18 31 && (formedB x && formedB y))) ∧ Below wx.heap.size wx w') := fun ax ay wx hb sx sy => expr_2 t x y ax ay wx (hT.next hb) sx ix sy iy
      clear hs hT fit ih e hp h4 ix iy
      go_enter Tryz.func46, Tryz.ntmps46
      go_wp2_with fail
      refine Calls.mono (HN.out _) ?_
      rintro e w1 ⟨ax, ay, rfl, sx, sy, b1⟩
      have B1 : Hid (Below w.heap.size w w1) := below_on (A _) b1 (by simp)
      have Sx := hid2 (sx.next b1)
      have Sy := hid2 (sy.next b1)
      clear b1 A sx sy
      go_wp2_with fail
      refine Calls.mono (HE.out ax ay _ B1.out Sx.out Sy.out) ?_
      rintro e w2 ⟨rfl, b2⟩
      have B2 : Hid (Below w.heap.size w w2) := below_on B1.out b2 B1.out.size
      clear b2
      go_wp2_with fail
      go_ret
      exact ⟨rfl, B2.out⟩
    · have e : formedB t = (plainB t.kind t.text t.n t.m 32 32 && (formedB x && (formedB y && formedB u))) := by rw [formedB_eq, hp]; simp [headB]
      rw [e]
      have ix := ih x (by rw [hp]; simp)
      have iy := ih y (by rw [hp]; simp)
      have iu := ih u (by rw [hp]; simp)
      have HN := hid2 (fun o => nodeOf_3 t x y u v (w.alloc o) (hs.next (A o)) hp)
      have HE : Hid (∀ ax ay au wx, Below w.heap.size w wx → Sits z wx x ax → Sits z wx y ay → Sits z wx u au → Calls Tryz.prog 79 #[tripleV t x y u ax ay au] wx fun e w' => e = .returned (.bool (plainB t.kind t.text t.n t.m 32 32 && (formedB x && (formedB y && formedB u)))) ∧ Below wx.heap.size wx w') := fun ax ay au wx hb sx sy su => expr_3 t x y u ax ay au wx (hT.next hb) sx ix sy iy su iu
      clear hs hT fit ih e hp h4 ix iy iu
      go_enter Tryz.func46, Tryz.ntmps46
      go_wp2_with fail
      refine Calls.mono (HN.out _) ?_
      rintro e w1 ⟨ax, ay, au, rfl, sx, sy, su, b1⟩
      have B1 : Hid (Below w.heap.size w w1) := below_on (A _) b1 (by simp)
      have Sx := hid2 (sx.next b1)
      have Sy := hid2 (sy.next b1)
      have Su := hid2 (su.next b1)
      clear b1 A sx sy su
      go_wp2_with fail
      refine Calls.mono (HE.out ax ay au _ B1.out Sx.out Sy.out Su.out) ?_
      rintro e w2 ⟨rfl, b2⟩
      have B2 : Hid (Below w.heap.size w w2) := below_on B1.out b2 B1.out.size
      clear b2
      go_wp2_with fail
      go_ret
      exact ⟨rfl, B2.out⟩
theorem all_false {n j : Nat} {f : Nat → Bool} (hj : j < n) (hf : f j = false) : (List.range n).all f = false := by
  rw [List.all_eq_false]
  exact ⟨j, List.mem_range.2 hj, by rw [hf]; decide⟩
theorem all_step {j : Nat} {f : Nat → Bool} (h : (List.range j).all f = true) (hf : f j = true) : (List.range (j + 1)).all f = true := by
  rw [List.range_succ, List.all_append, h]; simp [hf]
end Go.Proofs.YtbhmffgmbabkkaaGreatDoor
end
