/- The document's Literal. -/
import Derived.Test.YtdikeicnefgjcaaDoorTrS
import Derived.Test.YtdikeicnefgjcaaDoorTrE
namespace Go.Proofs.YtdikeicnefgjcaaDoor
open Go.RowKit

/-- What Literal answers. -/
def litOut (r : Option (Tm × Int)) : Value := match r with
  | some (x, s) => .tuple #[.int .i64 (s * x.n), .string x.text, .bool true]
  | none => .tuple #[.int .i64 0, .string ⟨#[]⟩, .bool false]
theorem num_formed {t : Tm} (h : numB t = true) : formedB t = true := by
  unfold numB at h
  simp only [Bool.and_eq_true, decide_eq_true_eq] at h
  obtain ⟨hk, hl, hf⟩ := h
  rw [formedB_eq, hl, List.eq_nil_of_length_eq_zero hl, headB, if_pos rfl, hf]; rfl
theorem plain_iff {k : Int} {s : ByteArray} {n m lo hi : Int} : plainB k s n m lo hi = true ↔ lo ≤ k ∧ k ≤ hi ∧ bareB s n m = true := by simp only [plainB, Bool.and_eq_true, decide_eq_true_eq]
theorem lit_none {t : Tm} (h : formedB t = false) : litR t = none := by
  have hn : ¬ numB t = true := fun e => by rw [num_formed e] at h; cases h
  unfold litR
  rw [if_neg hn]
  match hp : t.parts with
  | [] => rfl
  | [x] =>
    simp only
    rw [if_neg]
    rintro ⟨h1, h2⟩
    unfold negB at h1
    rw [Bool.and_eq_true, plain_iff] at h1
    rw [formedB_eq, hp, headB] at h
    simp only [List.length_singleton, Nat.one_ne_zero, if_false, if_true, List.all_cons, List.all_nil, Bool.and_true, num_formed h2] at h
    rw [show plainB t.kind t.text t.n t.m 13 17 = true from plain_iff.2 ⟨h1.1.1, by omega, h1.1.2.2⟩] at h
    cases h
  | _ :: _ :: _ => rfl
theorem formed_num {t : Tm} (h : formedB t = true) (hk : t.kind = 1) : numB t = true ∧ t.parts = [] := by
  rw [formedB_eq, Bool.and_eq_true] at h
  obtain ⟨h1, _⟩ := h
  unfold headB at h1
  have hl : t.parts.length = 0 := by
    rcases Nat.eq_zero_or_pos t.parts.length with e | e
    · exact e
    · rw [if_neg (by omega)] at h1
      exfalso
      split at h1
      · rw [plain_iff] at h1; omega
      · split at h1
        · rw [plain_iff] at h1; omega
        · split at h1
          · rw [plain_iff] at h1; omega
          · cases h1
  rw [if_pos hl] at h1
  unfold numB
  rw [decide_eq_true hk, decide_eq_true hl, h1]
  exact ⟨rfl, List.eq_nil_of_length_eq_zero hl⟩
theorem formed_neg {t : Tm} (h : formedB t = true) (hk : t.kind = 13) : ∃ x, t.parts = [x] ∧ formedB x = true ∧ negB t = true := by
  rw [formedB_eq, Bool.and_eq_true] at h
  obtain ⟨h1, h2⟩ := h
  rw [head_own] at h1
  simp only [Bool.and_eq_true, decide_eq_true_eq] at h1
  obtain ⟨_, _, h3, h4⟩ := h1
  rw [hk] at h3
  have hl : t.parts.length = 1 := h3.symm
  match hp : t.parts, hl with
  | [x], _ =>
    refine ⟨x, rfl, ?_, ?_⟩
    · rw [hp] at h2; simpa using h2
    · unfold negB
      rw [hp, Bool.and_eq_true, plain_iff]
      have hb : ownB t.kind t.text t.n t.m = bareB t.text t.n t.m := by
        unfold ownB
        rw [if_neg (by omega), if_neg (by omega), if_neg (by omega), if_neg (by omega), if_neg (by omega)]
      exact ⟨⟨by omega, by omega, by rw [← hb]; exact h4⟩, rfl⟩
theorem lit_other {t : Tm} (h1 : t.kind ≠ 1) (h2 : t.kind ≠ 13) : litR t = none := by
  unfold litR
  rw [if_neg (by unfold numB; rw [decide_eq_false h1]; simp)]
  match t.parts with
  | [] => rfl
  | [x] =>
    simp only
    rw [if_neg]
    rintro ⟨h, _⟩
    unfold negB at h
    rw [Bool.and_eq_true, plain_iff] at h
    omega
  | _ :: _ :: _ => rfl
theorem leaf_num_pos {t : Tm} (h : numB t = true) : 0 ≤ t.n := by
  unfold numB at h
  simp only [Bool.and_eq_true, decide_eq_true_eq] at h
  obtain ⟨hk, _, hf⟩ := h
  unfold leafB at hf
  rw [if_pos hk] at hf
  simp only [Bool.and_eq_true, decide_eq_true_eq] at hf
  exact hf.1
set_option maxHeartbeats 2000000 in
theorem rLiteral_c {z : Nat} (hz : z ≤ 1048576) (t : Tm) (v : Value) (w : World) (hs : Sits z w t v) : Calls Tryd.prog 26 #[tmV t v] w fun e w' => e = .returned (litOut (litR t)) ∧ Below w.heap.size w w' := by
  have A : ∀ o, Below w.heap.size w (w.alloc o) := fun o => (Below.refl _ _).alloc (Nat.le_refl _) _
  have HF := hid2 (fun o => rForm_all hz t v (w.alloc o) (hs.next (A o)))
  have HA := hid2 A
  have HS := hid2 hs
  have fit := hs.fit.n
  obtain ⟨ad, cap, rfl, hlc, hc⟩ := hs.parts.shape
  obtain ⟨R, hR⟩ : ∃ R, Hid (R = litOut (litR t)) := ⟨_, rfl⟩
  rw [← hR.out]
  clear A hs
  go_enter Tryd.func26, Tryd.ntmps26
  go_wp2_with fail
  refine Calls.mono (HF.out _) ?_
  rintro e w1 ⟨rfl, b1⟩
  have B1 := hid2 (below_on (HA.out _) b1 (by simp))
  have Y := (Box.new w (tmL t (.slice ad t.parts.length cap)) 24).next b1
  have y0 := Y.cell 0 _ rfl
  have y1 := Y.cell 1 _ rfl
  have y2 := Y.cell 2 _ rfl
  have y5 := Y.cell 5 _ rfl
  have ly := Y.lt
  clear b1 HF HA Y
  cases hf : formedB t with
  | false =>
    have hr : R = litOut none := by rw [hR.out, lit_none hf]
    subst hr
    clear hR hf
    go_wp2_with fail
    refine bodyPost_ret (v := litOut none) (by simp [results, Tryd.results26, go_sem, litOut]) rfl ⟨rfl, B1.out⟩
  | true =>
    by_cases k1 : t.kind = 1
    · obtain ⟨hn, hp⟩ := formed_num hf k1
      have hr : R = .tuple #[.int .i64 t.n, .string t.text, .bool true] := by
        rw [hR.out]; unfold litR; rw [if_pos hn]; show Value.tuple #[.int .i64 (1 * t.n), _, _] = _; rw [Int.one_mul]
      subst hr
      have d1 : (t.kind == 1) = true := by rw [k1]; rfl
      clear hR hf hn hp k1
      go_wp2_with fail
      go_quiet (fail)
      go_wp2_with fail
      refine bodyPost_ret (v := .tuple #[.int .i64 t.n, .string t.text, .bool true]) (by simp [results, Tryd.results26, go_sem]) rfl ⟨rfl, below_drewN B1.out _⟩
    have d1 : (t.kind == 1) = false := beq_eq_false_iff_ne.2 k1
    by_cases k13 : t.kind = 13
    · obtain ⟨x, hp, hx, hn⟩ := formed_neg hf k13
      have d2 : (t.kind == 13) = true := by rw [k13]; rfl
      obtain ⟨b, off, cap', hv, -, -, hbl, hxx⟩ := HS.out.parts.open (by rw [hp]; simp)
      simp only [Value.slice.injEq] at hv
      obtain ⟨rfl, -, rfl⟩ := hv
      obtain ⟨u, h6, hu⟩ := hxx 0 (by rw [hp]; simp)
      have e0 : t.parts[0]'(by rw [hp]; simp) = x := by simp [hp]
      rw [e0, Nat.zero_mul, Nat.add_zero] at h6
      rw [e0] at hu
      have xf := hu.fit.n
      obtain ⟨c0, c1, c2, c3, c4, c5⟩ := h6.keep (w' := w1) (fun q => B1.out.cell (p := ⟨b, q, none⟩) hbl)
      have hbl1 : b < w1.heap.size := Nat.lt_of_lt_of_le hbl B1.out.size
      have hl1 : t.parts.length = 1 := by rw [hp]; rfl
      rw [hl1] at y5 ⊢
      by_cases kx : x.kind = 1
      · obtain ⟨hnx, hpx⟩ := formed_num hx kx
        have pos := leaf_num_pos hnx
        have hr : R = .tuple #[.int .i64 (-x.n), .string x.text, .bool true] := by
          rw [hR.out]; unfold litR
          rw [if_neg (by unfold numB; rw [decide_eq_false k1]; simp), hp]
          simp only
          rw [if_pos ⟨hn, hnx⟩]
          show Value.tuple #[.int .i64 (-1 * x.n), _, _] = _
          rw [Int.neg_mul, Int.one_mul]
        subst hr
        have d3 : (x.kind == 1) = true := by rw [kx]; rfl
        have xb := xf.2
        clear hR hf hn hp hx k13 k1 kx hnx hpx h6 hu hxx e0 xf c3 c4 c5 HS hl1 fit
        go_wp2_with fail
        go_quiet (fail)
        go_wp2_with fail
        refine bodyPost_ret (v := .tuple #[.int .i64 (-x.n), .string x.text, .bool true]) (by simp [results, Tryd.results26, go_sem]) rfl ⟨rfl, below_drewN B1.out _⟩
      · have hr : R = litOut none := by
          rw [hR.out]; unfold litR
          rw [if_neg (by unfold numB; rw [decide_eq_false k1]; simp), hp]
          simp only
          rw [if_neg (by unfold numB; rw [decide_eq_false kx]; simp)]
        subst hr
        have d3 : (x.kind == 1) = false := beq_eq_false_iff_ne.2 kx
        clear hR hf hn hp hx k13 k1 kx h6 hu hxx e0 xf c1 c2 c3 c4 c5 HS hl1 fit
        go_wp2_with fail
        refine bodyPost_ret (v := litOut none) (by simp [results, Tryd.results26, go_sem, litOut]) rfl ⟨rfl, B1.out⟩
    · have hr : R = litOut none := by rw [hR.out, lit_other k1 k13]
      subst hr
      have d2 : (t.kind == 13) = false := beq_eq_false_iff_ne.2 k13
      clear hR hf k1 k13 HS fit
      go_wp2_with fail
      refine bodyPost_ret (v := litOut none) (by simp [results, Tryd.results26, go_sem, litOut]) rfl ⟨rfl, B1.out⟩
end Go.Proofs.YtdikeicnefgjcaaDoor
