/- Package tree: partsAs on no node: the panic is caught. Terms as a row of cells. -/
import Derived.Test.YtdikeicnefgjcaaDoorTrE
import Derived.Test.YtdikeicnefgjcaaDoorTcC
import Derived.Defers
import Derived.Recover
namespace Go.Proofs.YtdikeicnefgjcaaDoor
open Go.RowKit

theorem catch_p (p q : Addr) (x y : Value) (u : TypeId) (pv : Value) (older : List PanicEntry) (w : World) (hne : p.block ≠ q.block) (hc : w.cell? p = some x) (hz : w.frozen? p = false) (hc' : w.cell? q = some y) (hz' : w.frozen? q = false) :
    CallsD Tryd.prog 78 #[.pointer (some p), .pointer (some q)] (.panicking ({ v := .iface u pv, recovered := false } :: older)) w fun e u' w' =>
      e = .returned (.tuple #[]) ∧ u' = .panicking ({ v := .iface u pv, recovered := true } :: older) ∧ w' = (w.setCell p (.slice none 0 0)).setCell q (.bool false) := by
  have h2 : (w.setCell p (.slice none 0 0)).cell? q = some y := (World.cell?_setCell_far _ _ _ _ (by simpa using hne)).trans hc'
  refine callsD_of_wpS Tryd.func78 rfl fun c₀ cs hu => ?_
  apply wpS_seq
  apply wpS_region
  simp [wpOpsS, go_sem, recoverD, hu, Tryd.ntmps78, Exit.thenS]
  refine wpS_cond (t := true) (by simp [Act.eval, Array.replicate]) ?_
  simp only [if_true]
  apply wpS_region
  simp [wpOpsS, go_sem, hc, hz, hz', h2, bodyPostS, results, Tryd.results78]
theorem catch_idle (p q : Addr) (w : World) :
    CallsD Tryd.prog 78 #[.pointer (some p), .pointer (some q)] .returning w fun e u' w' => e = .returned (.tuple #[]) ∧ u' = .returning ∧ w' = w := by
  refine callsD_of_wpS Tryd.func78 rfl fun c₀ cs hu => ?_
  apply wpS_seq
  apply wpS_region
  simp [wpOpsS, go_sem, recoverD, hu, Tryd.ntmps78, Exit.thenS]
  refine wpS_cond (t := false) (by simp [Act.eval, Array.replicate]) ?_
  simp only [Bool.false_eq_true, if_false]
  refine wpS_of_wp (wp_skip ?_)
  cases c₀
  simp_all [bodyPostS, results, Tryd.results78]
theorem nil_leaf (w : World) : (Instr.typeAssert .nilIface 50 69 false).run Tryd.prog w = .halt (.panic (.iface Tryd.prog.rt.typeAssertionError (.pointer (some ⟨w.heap.size, 0, none⟩)))) (w.alloc (.cells #[typeHandle Tryd.prog 50, .pointer none, typeHandle Tryd.prog 69, .string ⟨#[]⟩] 131)) := by kernel_rfl
theorem nil_single (w : World) : (Instr.typeAssert .nilIface 50 78 false).run Tryd.prog w = .halt (.panic (.iface Tryd.prog.rt.typeAssertionError (.pointer (some ⟨w.heap.size, 0, none⟩)))) (w.alloc (.cells #[typeHandle Tryd.prog 50, .pointer none, typeHandle Tryd.prog 78, .string ⟨#[]⟩] 131)) := by kernel_rfl
theorem nil_double (w : World) : (Instr.typeAssert .nilIface 50 81 false).run Tryd.prog w = .halt (.panic (.iface Tryd.prog.rt.typeAssertionError (.pointer (some ⟨w.heap.size, 0, none⟩)))) (w.alloc (.cells #[typeHandle Tryd.prog 50, .pointer none, typeHandle Tryd.prog 81, .string ⟨#[]⟩] 131)) := by kernel_rfl
theorem nil_triple (w : World) : (Instr.typeAssert .nilIface 50 83 false).run Tryd.prog w = .halt (.panic (.iface Tryd.prog.rt.typeAssertionError (.pointer (some ⟨w.heap.size, 0, none⟩)))) (w.alloc (.cells #[typeHandle Tryd.prog 50, .pointer none, typeHandle Tryd.prog 83, .string ⟨#[]⟩] 131)) := by kernel_rfl
theorem nil_many (w : World) : (Instr.typeAssert .nilIface 50 85 false).run Tryd.prog w = .halt (.panic (.iface Tryd.prog.rt.typeAssertionError (.pointer (some ⟨w.heap.size, 0, none⟩)))) (w.alloc (.cells #[typeHandle Tryd.prog 50, .pointer none, typeHandle Tryd.prog 85, .string ⟨#[]⟩] 131)) := by kernel_rfl
theorem nil_no_double (w : World) : (Instr.typeAssert .nilIface 50 81 true).run Tryd.prog w = .ok (.tuple #[doubleZ, .bool false]) w := by kernel_rfl
set_option maxRecDepth 20000 in
set_option maxHeartbeats 1000000 in
theorem ladder_nil (w : World) : Calls Tryd.prog 79 #[.nilIface] w fun e w' => (∃ u pv, e = .panicked [{ v := .iface u pv, recovered := false }]) ∧ Below w.heap.size w w' := by
  have n1 := nil_no_double
  have n2 := nil_many
  generalize Tryd.prog.rt.typeAssertionError = U at n2
  generalize typeHandle Tryd.prog 50 = T0 at n2
  generalize typeHandle Tryd.prog 85 = T1 at n2
  go_enter Tryd.func79, Tryd.ntmps79
  go_wp2_with fail
  exact ⟨rfl, ⟨_, _, rfl⟩, ((Below.refl _ _).alloc (Nat.le_refl _) _).alloc (by simp) _⟩
set_option maxRecDepth 20000 in
set_option maxHeartbeats 1000000 in
theorem partsAs_nil (k : Int) (w : World) : Calls Tryd.prog 53 #[.nilIface, .int .i64 k] w fun e w' => e = .returned (.tuple #[.slice none 0 0, .bool false]) ∧ Below w.heap.size w w' := by
  have hmf : ∀ (fn : Fn) (first cap : Array Value) (w : World), (Instr.makeFunc fn first cap).run Tryd.prog w = .ok (.func fn first cap) w := fun _ _ _ _ => rfl
  have n0 := nil_leaf
  have n1 := nil_single
  have n2 := nil_double
  have n3 := nil_triple
  generalize Tryd.prog.rt.typeAssertionError = U at n0 n1 n2 n3
  generalize typeHandle Tryd.prog 50 = T0 at n0 n1 n2 n3
  generalize typeHandle Tryd.prog 69 = T1 at n0
  generalize typeHandle Tryd.prog 78 = T2 at n1
  generalize typeHandle Tryd.prog 81 = T3 at n2
  generalize typeHandle Tryd.prog 83 = T4 at n3
  have HL := hid2 ladder_nil
  go_enter_defers Tryd.func53, Tryd.ntmps53
  go_wp2_with fail
  all_goals first
    | (refine leaves_cons (f := 78) (args := #[.pointer (some ⟨w.heap.size, 0, none⟩), .pointer (some ⟨w.heap.size + 1, 0, none⟩)]) (by simp) (by simp [go_sem]) ?_
       refine (catch_p ⟨w.heap.size, 0, none⟩ ⟨w.heap.size + 1, 0, none⟩ (.slice none 0 0) (.bool false) _ _ [] _ (by simp) (by simp [go_sem]) (by simp [go_sem]) (by simp [go_sem]) (by simp [go_sem])).mono ?_
       rintro e u' w'' ⟨rfl, rfl, rfl⟩
       simp [Leaves, settle, results, Tryd.results53, go_sem]
       exact ((((Below.refl _ _).alloc (Nat.le_refl _) _).alloc (by simp) _).alloc (by simp; omega) _))
    | skip
  obtain ⟨X0, X1, XB⟩ := two_boxes w 22 4 [.slice none 0 0] [.bool false]
  refine Calls.mono (HL.out _) ?_
  rintro e w1 ⟨⟨u, pv, rfl⟩, b1⟩
  have Y0 := X0.next b1
  have Y1 := X1.next b1
  have B1 := below_on XB b1 XB.size
  have c0 := Y0.cell 0 _ rfl
  have c1 := Y1.cell 0 _ rfl
  have f0 := Y0.free 0 (by simp)
  have f1 := Y1.free 0 (by simp)
  have Z0 := (Y0.set 0 (by simp) (.slice none 0 0)).other (q := w.heap.size + 1) (j := 0) (v := .bool false) (by omega)
  have Z1 := (Y1.other (q := w.heap.size) (j := 0) (v := .slice none 0 0) (by omega)).set 0 (by simp) (.bool false)
  have z0 : ((w1.setCell ⟨w.heap.size, 0, none⟩ (.slice none 0 0)).setCell ⟨w.heap.size + 1, 0, none⟩ (.bool false)).cell? ⟨w.heap.size, 0, none⟩ = some (.slice none 0 0) := Z0.cell 0 _ rfl
  have z1 : ((w1.setCell ⟨w.heap.size, 0, none⟩ (.slice none 0 0)).setCell ⟨w.heap.size + 1, 0, none⟩ (.bool false)).cell? ⟨w.heap.size + 1, 0, none⟩ = some (.bool false) := Z1.cell 0 _ rfl
  refine leaves_cons (f := 78) (args := #[.pointer (some ⟨w.heap.size, 0, none⟩), .pointer (some ⟨w.heap.size + 1, 0, none⟩)]) (by simp) (by simp [go_sem]) ?_
  refine (catch_p ⟨w.heap.size, 0, none⟩ ⟨w.heap.size + 1, 0, none⟩ (.slice none 0 0) (.bool false) _ _ [] _ (by simp) c0 f0 c1 f1).mono ?_
  rintro e u' w'' ⟨rfl, rfl, rfl⟩
  simp [Leaves, settle, results, Tryd.results53, go_sem, z0, z1]
  exact (B1.setCell (Nat.le_refl _) _).setCell (Nat.le_succ _) _
def flatT (ts : List (Tm × Value)) : List Value := (ts.map fun p => tmL p.1 p.2).flatten
theorem flat6 : ∀ (L : List (List Value)), (∀ x, x ∈ L → x.length = 6) → ∀ (i q : Nat), q < 6 → (hi : i < L.length) → L.flatten[i * 6 + q]? = (L[i])[q]?
  | [], _, i, q, _, hi => by simp at hi
  | x :: r, h, 0, q, hq, hi => by
    rw [List.flatten_cons, Nat.zero_mul, Nat.zero_add, List.getElem?_append_left (by rw [h x (by simp)]; exact hq)]
    rfl
  | x :: r, h, i + 1, q, hq, hi => by
    rw [List.flatten_cons, List.getElem?_append_right (by rw [h x (by simp)]; omega), h x (by simp), show (i + 1) * 6 + q - 6 = i * 6 + q by omega]
    exact flat6 r (fun y hy => h y (by simp [hy])) i q hq (by simpa using hi)
theorem flatT_len (ts : List (Tm × Value)) : (flatT ts).length = ts.length * 6 := by
  unfold flatT
  induction ts with
  | nil => rfl
  | cons p r ih => simp only [List.map_cons, List.flatten_cons, List.length_append, ih, List.length_cons, List.length_nil]; omega
theorem flatT_get (ts : List (Tm × Value)) (i q : Nat) (hq : q < 6) (hi : i < ts.length) : (flatT ts)[i * 6 + q]? = (tmL ts[i].1 ts[i].2)[q]? := by
  unfold flatT
  rw [flat6 _ (fun x hx => by obtain ⟨p, _, rfl⟩ := List.mem_map.1 hx; rfl) i q hq (by simpa using hi)]
  simp
theorem flatT_append (a b : List (Tm × Value)) : flatT (a ++ b) = flatT a ++ flatT b := by simp [flatT]
theorem flatT_one (ts : List (Tm × Value)) : ∀ u ∈ flatT ts, (∀ p, p ∈ ts → p.2.oneCell' = true) → u.oneCell' = true := by
  intro u hu h
  unfold flatT at hu
  obtain ⟨l, hl, hm⟩ := List.mem_flatten.1 hu
  obtain ⟨p, hp, rfl⟩ := List.mem_map.1 hl
  simp only [List.mem_cons, List.not_mem_nil, or_false] at hm
  rcases hm with rfl | rfl | rfl | rfl | rfl | rfl
  · rfl
  · rfl
  · rfl
  · rfl
  · rfl
  · exact h p hp
theorem pat_flat {z : Nat} {w : World} {g off c : Nat} (ts : List (Tm × Value)) (hb : ∀ j u, (flatT ts)[j]? = some u → w.cell? ⟨g, off + j, none⟩ = some u) (hg : g < w.heap.size) (hs : ∀ p, p ∈ ts → Sits z w p.1 p.2) (hc : ts.length ≤ c) (hm : c ≤ 9223372036854775807) : PAt z w (.slice (some ⟨g, off, none⟩) ts.length c) (ts.map Prod.fst) := by
  refine ⟨_, c, by rw [List.length_map], by simpa using hc, hm, .inr ⟨g, off, rfl, hg, fun i hi => ?_⟩⟩
  have hi' : i < ts.length := by simpa using hi
  have h := fun q hq => hb (i * 6 + q) _ ((flatT_get ts i q hq hi').trans (List.getElem?_eq_getElem (by simpa using hq)))
  simp only [List.getElem_map]
  refine ⟨ts[i].2, ⟨?_, ?_, ?_, ?_, ?_, ?_⟩, hs _ (List.getElem_mem hi')⟩
  · simpa using h 0 (by omega)
  · simpa [Nat.add_assoc] using h 1 (by omega)
  · simpa [Nat.add_assoc] using h 2 (by omega)
  · simpa [Nat.add_assoc] using h 3 (by omega)
  · simpa [Nat.add_assoc] using h 4 (by omega)
  · simpa [Nat.add_assoc] using h 5 (by omega)
theorem PAt.list {z : Nat} {w : World} {v : Value} {l : List Tm} (h : PAt z w v l) (hpos : 0 < l.length) : ∃ (b off cap : Nat) (ts : List (Tm × Value)), v = .slice (some ⟨b, off, none⟩) l.length cap ∧ b < w.heap.size ∧ ts.map Prod.fst = l ∧ (∀ p, p ∈ ts → Sits z w p.1 p.2) ∧ ∀ j u, (flatT ts)[j]? = some u → w.cell? ⟨b, off + j, none⟩ = some u := by
  obtain ⟨b, off, cap, hv, _, _, hb, hx⟩ := h.open hpos
  refine ⟨b, off, cap, List.ofFn (fun i : Fin l.length => (l[i], (hx i i.2).choose)), hv, hb, ?_, ?_, ?_⟩
  · rw [List.map_ofFn]
    apply List.ext_getElem
    · simp
    · intro i h1 h2
      simp
  · intro p hp
    obtain ⟨i, rfl⟩ := (List.mem_ofFn ..).1 hp
    exact (hx i i.2).choose_spec.2
  · intro j u hu
    have hj : j < (flatT (List.ofFn (fun i : Fin l.length => (l[i], (hx i i.2).choose)))).length := (List.getElem?_eq_some_iff.1 hu).1
    rw [flatT_len] at hj
    simp only [List.length_ofFn] at hj
    have hq : j % 6 < 6 := Nat.mod_lt _ (by decide)
    have hi : j / 6 < l.length := by omega
    have e : j = j / 6 * 6 + j % 6 := by omega
    rw [e, flatT_get _ _ _ hq (by simpa using hi)] at hu
    simp only [List.getElem_ofFn] at hu
    have h6 := (hx (j / 6) hi).choose_spec.1
    rw [e, ← Nat.add_assoc]
    generalize j / 6 = i at *
    generalize j % 6 = q at *
    match q, hq with
    | 0, _ => rw [Nat.add_zero]; exact h6.c0.trans hu
    | 1, _ => exact h6.c1.trans hu
    | 2, _ => exact h6.c2.trans hu
    | 3, _ => exact h6.c3.trans hu
    | 4, _ => exact h6.c4.trans hu
    | 5, _ => exact h6.c5.trans hu
end Go.Proofs.YtdikeicnefgjcaaDoor
