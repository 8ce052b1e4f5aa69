/- Package tree: zeroItem, formedItem. -/
import Derived.Test.YtdikeicnefgjcaaDoorTqB
import Derived.Test.YtdikeicnefgjcaaDoorTrE
import Derived.Deep.RegionHeld3
namespace Go.Proofs.YtdikeicnefgjcaaDoor
open Go.RowKit

theorem ld_bx {w : World} {g : Nat} {L : List Value} {X : Array Value} (h : Box w g L) (hX : X = L.toArray) {n : Nat} (hn : n = L.length) : (loadCellsFrom ⟨g, 0, none⟩ 0 n #[]).run Tryd.prog w = .ok X w :=
  ld_at (fun q u hu => by rw [Nat.zero_add]; exact h.cell q u hu) hX hn
theorem st_itd (w : World) {X : Array Value} (hs : X.size = 19) (h1 : X.all (·.oneCell') = true) : (storeCells ⟨w.heap.size, 0, none⟩ X.toList 0).run Tryd.prog (w.alloc (.cells zeroI 32)).drew = .ok () (w.alloc (.cells X 32)).drew := by
  have hg : (w.alloc (.cells zeroI 32)).drew.heap[w.heap.size]? = some (.cells zeroI 32 (0, 0)) := heap_new w _
  have := run_storeCells_from (P := Tryd.prog) w.heap.size 32 X.toList 0 zeroI _ hg (by simp [hs]; rfl) (fun v hv => (Array.all_eq_true_iff_forall_mem.1 h1) v (by simpa using hv))
  rw [this]
  simp only [List.take_zero, List.nil_append, Array.toArray_toList]
  show Result.ok () ((w.alloc (.cells zeroI 32)).setRow w.heap.size X).drew = _
  rw [World.setRow_alloc_new]
set_option maxRecDepth 20000 in
set_option maxHeartbeats 2000000 in
theorem zeroItem_c {z : Nat} (i : It) (vx vy : Value) (w : World) (h : ItAt z w i vx vy) : Calls Tryd.prog 72 #[itA i vx vy] w fun e w' => e = .returned (.bool (restB i.name i.unit i.a i.b i.c i.x i.y)) ∧ Below w.heap.size w w' := by
  have HX := hid2 (fun wx (hb : Below w.heap.size w wx) => zeroTerm_c i.x vx wx (h.sx.next hb))
  have HY := hid2 (fun wx (hb : Below w.heap.size w wx) => zeroTerm_c i.y vy wx (h.sy.next hb))
  obtain ⟨a1, c1, rfl, -, -⟩ := h.sx.parts.shape
  obtain ⟨a2, c2, rfl, -, -⟩ := h.sy.parts.shape
  obtain ⟨q1, h1⟩ : ∃ q : Bool, Hid (q = voidB i.x) := ⟨_, rfl⟩
  obtain ⟨q2, h2⟩ : ∃ q : Bool, Hid (q = voidB i.y) := ⟨_, rfl⟩
  rw [← h1.out] at HX
  rw [← h2.out] at HY
  have HR : Hid (restB i.name i.unit i.a i.b i.c i.x i.y = (decide (i.name.toList = []) && (decide (i.unit.toList = []) && (decide (i.a = 0) && (decide (i.b = 0) && (decide (i.c = 0) && (q1 && q2))))))) := by rw [h1.out, h2.out]; rfl
  rw [HR.out]
  obtain ⟨X0, XB⟩ := one_box w 32 (itC i (.slice a1 i.x.parts.length c1) (.slice a2 i.y.parts.length c2))
  have BX := hid2 X0
  have BB := hid2 XB
  have HB : Hid (∀ o, Below w.heap.size w (w.alloc o)) := fun o => (Below.refl _ _).alloc (Nat.le_refl _) _
  clear h h1 h2 HR X0 XB
  by_cases hn : i.name.toList = [] ∧ i.unit.toList = [] ∧ i.a = 0 ∧ i.b = 0 ∧ i.c = 0
  · obtain ⟨e1, e2, e3, e4, e5⟩ := hn
    have f3 : (i.a != 0) = false := by simp [e3]
    have f4 : (i.b != 0) = false := by simp [e4]
    have f5 : (i.c != 0) = false := by simp [e5]
    have HE : Hid ((decide (i.name.toList = []) && (decide (i.unit.toList = []) && (decide (i.a = 0) && (decide (i.b = 0) && (decide (i.c = 0) && (q1 && q2)))))) = (q1 && q2)) := by show _ = _; simp [e1, e2, e3, e4, e5]
    rw [HE.out]
    clear e3 e4 e5 HE
    go_enter Tryd.func72, Tryd.ntmps72
    go_wp2_with fail
    refine Calls.mono (HX.out _ BB.out) ?_
    rintro e w1 ⟨rfl, b1⟩
    have B1 := hid2 (below_on BB.out b1 BB.out.size)
    have X1 := BX.out.next b1
    have k12 := X1.cell 12 _ rfl
    have k13 := X1.cell 13 _ rfl
    have k14 := X1.cell 14 _ rfl
    have k15 := X1.cell 15 _ rfl
    have k16 := X1.cell 16 _ rfl
    have k17 := X1.cell 17 _ rfl
    clear b1 X1 BX BB HX HB
    cases q1
    · go_wp2_with fail
      go_ret
      exact ⟨rfl, B1.out⟩
    · go_wp2_with fail
      refine Calls.mono (HY.out _ B1.out) ?_
      rintro e w2 ⟨rfl, b2⟩
      have B2 := hid2 (below_on B1.out b2 B1.out.size)
      clear b2
      go_wp2_with fail
      go_ret
      exact ⟨by simp, B2.out⟩
  · have HE : Hid ((decide (i.name.toList = []) && (decide (i.unit.toList = []) && (decide (i.a = 0) && (decide (i.b = 0) && (decide (i.c = 0) && (q1 && q2)))))) = false) := by
      show _ = _
      by_cases e1 : i.name.toList = []
      · by_cases e2 : i.unit.toList = []
        · by_cases e3 : i.a = 0
          · by_cases e4 : i.b = 0
            · by_cases e5 : i.c = 0
              · exact absurd ⟨e1, e2, e3, e4, e5⟩ hn
              · simp [e5]
            · simp [e4]
          · simp [e3]
        · simp [e2]
      · simp [e1]
    rw [HE.out]
    have hn2 := hid2 hn
    clear HX HY HE BX BB hn
    go_enter Tryd.func72, Tryd.ntmps72
    go_wp2_with fail
    all_goals first
      | (go_ret; exact ⟨rfl, HB.out _⟩)
      | (exfalso; exact hn2.out (by simp_all))
end Go.Proofs.YtdikeicnefgjcaaDoor
