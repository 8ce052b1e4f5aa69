/- Ladders of the law CoreLadders, plain. -/
import Derived.Test.YtaombbbblgfgdaaGreatDoorMgQ
import Derived.Test.YtaombbbblgfgdaaGreatDoorMgG
namespace Go.Proofs.YtaombbbblgfgdaaGreatDoor
open Go.RowKit

abbrev numC (n : Int) : Co := ⟨1, n, 0, []⟩
abbrev toC (n : Int) : Co := ⟨30, 0, 0, [numC n]⟩
abbrev byC : Co := ⟨31, 0, 0, [numC 1]⟩
/-- Rungs for the bounds, numbered from j on. -/
def rungsF : Nat → List Int → List Co
  | _, [] => []
  | j, b :: r => numC b :: toC (((j + 1 : Nat) : Int) * 1000000) :: rungsF (j + 1) r
theorem rungs_snoc : ∀ (bl : List Int) (j : Nat) (b : Int), rungsF j (bl ++ [b]) = rungsF j bl ++ [numC b, toC (((j + bl.length + 1 : Nat) : Int) * 1000000)]
  | [], j, b => by simp [rungsF]
  | c :: r, j, b => by
    have := rungs_snoc r (j + 1) b
    rw [show j + 1 + r.length + 1 = j + (c :: r).length + 1 by rw [List.length_cons]; omega] at this
    show numC c :: toC (((j + 1 : Nat) : Int) * 1000000) :: rungsF (j + 1) (r ++ [b]) = _
    rw [this]
    rfl
theorem rungs_len : ∀ (bl : List Int) (j : Nat), (rungsF j bl).length = 2 * bl.length
  | [], _ => rfl
  | c :: r, j => by simp only [rungsF, List.length_cons, rungs_len r]; omega
/-- The ladder's parts without the last action, and with it. -/
def psL (v : Int) (bl : List Int) : List Co := numC v :: rungsF 0 bl
def ladC (v : Int) (bl : List Int) : Co := ⟨32, 0, 0, psL v bl ++ [byC]⟩
theorem psL_len (v : Int) (bl : List Int) : (psL v bl).length = 2 * bl.length + 1 := by unfold psL; rw [List.length_cons, rungs_len]
theorem psL_snoc (v : Int) (bl : List Int) (b : Int) : psL v (bl ++ [b]) = psL v bl ++ [numC b, toC (((bl.length + 1 : Nat) : Int) * 1000000)] := by
  unfold psL
  rw [rungs_snoc, Nat.zero_add]
  rfl
theorem rungs_at : ∀ (bl : List Int) (j k : Nat) (hk : k < bl.length) (rest : List Co), (rungsF j bl ++ rest)[2 * k]? = some (numC bl[k]) ∧ (rungsF j bl ++ rest)[2 * k + 1]? = some (toC (((j + k + 1 : Nat) : Int) * 1000000))
  | b :: r, j, 0, _, rest => ⟨rfl, rfl⟩
  | b :: r, j, k + 1, h, rest => by
    have := rungs_at r (j + 1) k (by simpa using h) rest
    rw [show j + 1 + k + 1 = j + (k + 1) + 1 by omega] at this
    exact ⟨by rw [show 2 * (k + 1) = 2 * k + 1 + 1 by omega]; exact this.1, by rw [show 2 * (k + 1) + 1 = 2 * k + 1 + 1 + 1 by omega]; exact this.2⟩
theorem lad_at (v : Int) (bl : List Int) (k : Nat) (hk : k < bl.length) : (psL v bl ++ [byC])[2 * k + 1]? = some (numC bl[k]) ∧ (psL v bl ++ [byC])[2 * k + 2]? = some (toC (((k + 1 : Nat) : Int) * 1000000)) := by
  have := rungs_at bl 0 k hk [byC]
  rw [Nat.zero_add] at this
  exact this
theorem lad_end (v : Int) (bl : List Int) : (psL v bl ++ [byC])[2 * bl.length + 1]? = some byC := by
  rw [List.getElem?_append_right (by rw [psL_len]; omega), psL_len]
  simp
theorem lad_len (v : Int) (bl : List Int) : (psL v bl ++ [byC]).length = 2 * bl.length + 2 := by rw [List.length_append, psL_len]; rfl
/-- The bound taken last; whether the next one is taken. -/
def lastB (bl : List Int) : Int := bl.getLastD (-9223372036854775808)
def nextB (bl : List Int) (b : Int) : List Int := if b ≤ lastB bl then bl else bl ++ [b]
def selB : List Int → List Int → List Int
  | bl, [] => bl
  | bl, b :: r => selB (nextB bl b) r
theorem selB_snoc : ∀ (l bl : List Int) (b : Int), selB bl (l ++ [b]) = nextB (selB bl l) b
  | [], _, _ => rfl
  | c :: r, bl, b => by simp only [List.cons_append, selB]; exact selB_snoc r _ b
theorem lastB_snoc (bl : List Int) (b : Int) : lastB (bl ++ [b]) = b := by unfold lastB; simp
/-- Rising strictly. -/
def RisB (bl : List Int) : Prop := ∀ i (h : i + 1 < bl.length), bl[i] < bl[i + 1]
theorem ris_next {bl : List Int} (h : RisB bl) (b : Int) : RisB (nextB bl b) := by
  unfold nextB
  split
  · exact h
  · next hb =>
    intro i hi
    rw [List.length_append] at hi
    have hi' : i + 1 < bl.length + 1 := hi
    by_cases h1 : i + 1 < bl.length
    · rw [List.getElem_append_left (by omega), List.getElem_append_left h1]
      exact h i h1
    · have e : i + 1 = bl.length := by omega
      have hn : bl ≠ [] := fun e2 => by subst e2; simp at e
      rw [List.getElem_append_left (by omega), List.getElem_append_right (by omega)]
      have el : lastB bl = bl[i] := by
        unfold lastB
        rw [List.getLastD_eq_getLast?, List.getLast?_eq_getElem?, List.getElem?_eq_getElem (by omega)]
        simp only [Option.getD_some]
        congr 1
        omega
      rw [el] at hb
      simp
      omega
theorem ris_sel : ∀ (l bl : List Int), RisB bl → RisB (selB bl l)
  | [], _, h => h
  | b :: r, _, h => ris_sel r _ (ris_next h b)
theorem sel_len : ∀ (l bl : List Int), (selB bl l).length ≤ bl.length + l.length
  | [], _ => by simp [selB]
  | b :: r, bl => by
    have := sel_len r (nextB bl b)
    have h2 : (nextB bl b).length ≤ bl.length + 1 := by unfold nextB; split <;> simp
    simp only [selB, List.length_cons]
    omega
/-- The number of the first bound above v, from 1 on; -1, if there is none. -/
def wantF (v : Int) : Nat → List Int → Int
  | _, [] => -1
  | j, b :: r => if v < b then ((j + 1 : Nat) : Int) else wantF v (j + 1) r
theorem want_snoc (v b : Int) : ∀ (bl : List Int) (j : Nat), wantF v j (bl ++ [b]) = if wantF v j bl < 0 then (if v < b then ((j + bl.length + 1 : Nat) : Int) else -1) else wantF v j bl
  | [], j => by simp [wantF]
  | c :: r, j => by
    show wantF v j (c :: (r ++ [b])) = _
    by_cases h : v < c
    · have e1 : wantF v j (c :: r) = ((j + 1 : Nat) : Int) := by rw [wantF, if_pos h]
      have e2 : wantF v j (c :: (r ++ [b])) = ((j + 1 : Nat) : Int) := by rw [wantF, if_pos h]
      rw [e1, e2, if_neg (by omega)]
    · have e1 : wantF v j (c :: r) = wantF v (j + 1) r := by rw [wantF, if_neg h]
      have e2 : wantF v j (c :: (r ++ [b])) = wantF v (j + 1) (r ++ [b]) := by rw [wantF, if_neg h]
      rw [e1, e2, want_snoc v b r (j + 1), List.length_cons, show j + 1 + r.length + 1 = j + (r.length + 1) + 1 by omega]
theorem want_bd (v : Int) : ∀ (bl : List Int) (j : Nat), wantF v j bl = -1 ∨ ((j + 1 : Nat) : Int) ≤ wantF v j bl ∧ wantF v j bl ≤ ((j + bl.length : Nat) : Int)
  | [], j => .inl rfl
  | c :: r, j => by
    simp only [wantF, List.length_cons]
    split
    · exact .inr ⟨by omega, by omega⟩
    · rcases want_bd v r (j + 1) with h | ⟨h1, h2⟩
      · exact .inl h
      · exact .inr ⟨by omega, by omega⟩
theorem so_to (wn cn ln n : Int) : csort ladF wn cn ln (toC n) = 3 := by
  rw [csort_eq]
  simp only [List.map_cons, List.map_nil, soNum]
  rfl
theorem so_by (wn cn ln : Int) : csort ladF wn cn ln byC = 3 := by
  rw [csort_eq]
  simp only [List.map_cons, List.map_nil, soNum]
  rfl
theorem map_at {α β : Type} (f : α → β) {l : List α} {i : Nat} {a : α} (h : l[i]? = some a) (d : β) : (l.map f).getD i d = f a := by
  simp [List.getD, h]
theorem getD_of {α : Type} {l : List α} {i : Nat} {a d : α} (h : l[i]? = some a) : l.getD i d = a := by simp [List.getD, h]
theorem so_lad (wn cn ln v : Int) (bl : List Int) (hr : RisB bl) : csort ladF wn cn ln (ladC v bl) = 3 := by
  have hL := lad_len v bl
  have hok : LadOk (ladC v bl) ((psL v bl ++ [byC]).map (csort ladF wn cn ln)) := by
    refine ⟨by rw [List.length_map, hL]; omega, by rw [List.length_map, hL]; omega, ?_, ?_, fun i hi1 hi2 => ?_⟩
    · rw [map_at (csort ladF wn cn ln) (show (psL v bl ++ [byC])[0]? = some (numC v) from rfl), soNum]
    · rw [List.length_map, hL, show 2 * bl.length + 2 - 1 = 2 * bl.length + 1 by omega, map_at (csort ladF wn cn ln) (lad_end v bl), so_by]
    · rw [List.length_map, hL] at hi2
      obtain ⟨k, rfl⟩ : ∃ k, i = 2 * k + 1 := ⟨i / 2, by omega⟩
      have hk : k < bl.length := by omega
      obtain ⟨a1, a2⟩ := lad_at v bl k hk
      refine ⟨?_, ?_, fun h1 => ?_⟩
      · show ((psL v bl ++ [byC]).getD (2 * k + 1) co0).op = 1
        rw [getD_of a1]
      · rw [show 2 * k + 1 + 1 = 2 * k + 2 by omega, map_at (csort ladF wn cn ln) a2, so_to]
      · show ((psL v bl ++ [byC]).getD (2 * k + 1 - 2) co0).n < ((psL v bl ++ [byC]).getD (2 * k + 1) co0).n
        obtain ⟨b1, -⟩ := lad_at v bl (k - 1) (by omega)
        rw [show 2 * k + 1 - 2 = 2 * (k - 1) + 1 by omega, getD_of b1, getD_of a1]
        have := hr (k - 1) (by omega)
        simp only [show k - 1 + 1 = k by omega] at this
        exact this
  have hc : ((psL v bl ++ [byC]).map (csort ladF wn cn ln)).contains 0 = false := by
    rw [List.contains_eq_any_beq, List.any_eq_false]
    intro x hx
    obtain ⟨y, hy, rfl⟩ := List.mem_map.1 hx
    have : csort ladF wn cn ln y = 1 ∨ csort ladF wn cn ln y = 3 := by
      rcases List.mem_append.1 hy with hy | hy
      · unfold psL at hy
        rcases List.mem_cons.1 hy with rfl | hy
        · exact .inl (soNum _ _ _ _)
        · have key : ∀ (bl : List Int) (j : Nat), y ∈ rungsF j bl → csort ladF wn cn ln y = 1 ∨ csort ladF wn cn ln y = 3 := by
            intro bl
            induction bl with
            | nil => intro j h; cases h
            | cons b r ih =>
              intro j h
              rw [rungsF] at h
              rcases List.mem_cons.1 h with rfl | h
              · exact .inl (soNum _ _ _ _)
              · rcases List.mem_cons.1 h with rfl | h
                · exact .inr (so_to _ _ _ _)
                · exact ih _ h
          exact key bl 0 hy
      · rw [List.mem_singleton.1 hy]; exact .inr (so_by _ _ _)
    rcases this with h | h <;> rw [h] <;> decide
  rw [csort_eq]
  have e1 : (ladC v bl).parts = psL v bl ++ [byC] := rfl
  rw [if_pos (by show (1 : Int) ≤ 32 ∧ (32 : Int) ≤ 32; decide), if_pos (by show fitsB 32 wn cn ln (ladC v bl) = true; rfl), e1, if_neg (by rw [hc]; simp)]
  show ladF _ _ = 3
  exact ladF_yes hok
theorem te_to (E : EnvP) (k : Nat) (hk : k ≤ 100) : telV E (toC ((k : Int) * 1000000)) = okR (k : Int) := by
  rw [telV_eq]
  show ofOneR countF (telV E (numC ((k : Int) * 1000000))) = _
  rw [teNum]
  show okR (countF ((k : Int) * 1000000)) = _
  congr 1
  unfold countF
  have e : -((-((k : Int) * 1000000)) / 1000000) * 1000000 = (k : Int) * 1000000 := by omega
  rw [e]
  unfold held
  split <;> (try split) <;> omega
theorem te_by (E : EnvP) (h0 : 0 ≤ E.rep) (h1 : E.rep ≤ 65535) : telV E byC = okR (E.rep + 1) := by
  rw [telV_eq]
  show ofOneR (fun a => held (E.rep + countF a)) (telV E (numC 1)) = _
  rw [teNum]
  show okR (held (E.rep + countF 1)) = _
  have e : countF 1 = 1 := by rfl
  rw [e]
  congr 1
  unfold held
  split <;> (try split) <;> omega
theorem te_lad (E : EnvP) (h0 : 0 ≤ E.rep) (h1 : E.rep ≤ 65535) (v : Int) (bl : List Int) (hb : bl.length ≤ 60) : telV E (ladC v bl) = okR (if wantF v 0 bl < 0 then E.rep + 1 else wantF v 0 bl) := by
  rw [telV_eq]
  show ladR (psL v bl ++ [byC]) ((psL v bl ++ [byC]).map (telV E)) = _
  unfold ladR
  have e0 : ((psL v bl ++ [byC]).map (telV E)).getD 0 (0, 0) = okR v := by
    rw [map_at (telV E) (show (psL v bl ++ [byC])[0]? = some (numC v) from rfl), teNum]
  rw [e0, if_pos rfl, lad_len]
  show ((psL v bl ++ [byC]).map (telV E)).getD (ladI (psL v bl ++ [byC]) v (2 * bl.length + 2) (2 * bl.length + 2) 1) (0, 0) = _
  -- where the ladder goes on
  have key : ∀ (n k f : Nat), n + k = bl.length → 2 * n + 2 ≤ f → ((psL v bl ++ [byC]).map (telV E)).getD (ladI (psL v bl ++ [byC]) v (2 * bl.length + 2) f (2 * k + 1)) (0, 0) = okR (if wantF v k (bl.drop k) < 0 then E.rep + 1 else wantF v k (bl.drop k)) := by
    intro n
    induction n with
    | zero =>
      intro k f hk hf
      rw [ladI_end (by omega) (by omega), show 2 * bl.length + 2 - 1 = 2 * bl.length + 1 by omega, map_at (telV E) (lad_end v bl), te_by E h0 h1, List.drop_eq_nil_of_le (by omega)]
      rfl
    | succ n ih =>
      intro k f hk hf
      have hkl : k < bl.length := by omega
      obtain ⟨a1, a2⟩ := lad_at v bl k hkl
      rw [List.drop_eq_getElem_cons hkl]
      by_cases hv : v < bl[k]
      · rw [ladI_hit (by omega) (by rw [getD_of a1]; exact hv) (by omega), show 2 * k + 1 + 1 = 2 * k + 2 by omega, map_at (telV E) a2, te_to E (k + 1) (by omega)]
        have e : wantF v k (bl[k] :: bl.drop (k + 1)) = ((k + 1 : Nat) : Int) := by rw [wantF, if_pos hv]
        rw [e, if_neg (by omega)]
      · obtain ⟨f', rfl⟩ : ∃ f', f = f' + 1 := ⟨f - 1, by omega⟩
        rw [ladI_on (by omega) (by rw [getD_of a1]; exact hv), show 2 * k + 1 + 2 = 2 * (k + 1) + 1 by omega, ih (k + 1) f' (by omega) (by omega)]
        have e : wantF v k (bl[k] :: bl.drop (k + 1)) = wantF v (k + 1) (bl.drop (k + 1)) := by rw [wantF, if_neg hv]
        rw [e]
  have := key bl.length 0 (2 * bl.length + 2) (by omega) (by omega)
  rw [List.drop_zero] at this
  exact this
theorem nodes_rungs : ∀ (bl : List Int) (j : Nat), cnodesL (rungsF j bl) = 3 * bl.length
  | [], _ => rfl
  | b :: r, j => by
    rw [rungsF, cnodesL_cons, cnodesL_cons, nodes_rungs r (j + 1), List.length_cons]
    have e1 : cnodes (numC b) = 1 := by rw [cnodes_eq]; rfl
    have e2 : cnodes (toC (((j + 1 : Nat) : Int) * 1000000)) = 2 := by rw [cnodes_eq, cnodesL_cons, cnodesL_nil, cnodes_eq]; rfl
    rw [e1, e2]; omega
theorem nodes_lad (v : Int) (bl : List Int) : cnodes (ladC v bl) = 3 * bl.length + 4 := by
  rw [cnodes_eq]
  show 1 + cnodesL (psL v bl ++ [byC]) = _
  rw [cnodesL_append]
  unfold psL
  rw [cnodesL_cons, nodes_rungs, cnodesL_cons, cnodesL_nil]
  have e1 : cnodes (numC v) = 1 := by rw [cnodes_eq]; rfl
  have e2 : cnodes byC = 2 := by rw [cnodes_eq, cnodesL_cons, cnodesL_nil, cnodes_eq]; rfl
  rw [e1, e2]; omega
/-- The plan of the law. -/
abbrev planL (v : Int) (bl : List Int) : PlP := ⟨[], ⟨0, 1, 1, 0, 0⟩, [], [], 0, [], ladC v bl⟩
theorem ops_rungs (y : Co) : ∀ (bl : List Int) (j : Nat), y ∈ ((rungsF j bl).map cpord).flatten → y.op ≠ 7
  | [], _, h => by cases h
  | b :: r, j, h => by
    rw [rungsF, List.map_cons, List.flatten_cons, List.map_cons, List.flatten_cons, cpord_eq (numC b), cpord_eq (toC _)] at h
    simp only [List.map_nil, List.flatten_nil, List.map_cons, List.flatten_cons, List.append_nil, List.cons_append, List.nil_append, List.mem_cons] at h
    rcases h with rfl | rfl | h
    · show (1 : Int) ≠ 7; decide
    · show (30 : Int) ≠ 7; decide
    · rw [cpord_eq] at h
      simp only [List.map_nil, List.flatten_nil, List.cons_append, List.nil_append, List.mem_cons] at h
      rcases h with rfl | h
      · show (1 : Int) ≠ 7; decide
      · exact ops_rungs y r (j + 1) h
theorem no_memo (q : Co → Co → Bool) : ∀ (l : List Co) (s : List (Int × Co)), (∀ x, x ∈ l → x.op ≠ 7) → (crunV (memV q) l s).2 = true
  | [], _, _ => rfl
  | x :: r, s, h => by
    have e : memV q s x = (s, true) := if_neg (h x (by simp))
    rw [crunV, e, if_pos rfl]
    exact no_memo q r s (fun y hy => h y (List.mem_cons_of_mem _ hy))
theorem formed_lad (q : Co → Co → Bool) (v : Int) (bl : List Int) (hb : bl.length ≤ 60) (hr : RisB bl) : formedP q (planL v bl) = true := by
  have h1 : sizesB (planL v bl) = true := rfl
  have h2 : fewB (planL v bl) = true := by
    apply decide_eq_true
    show (([].map gord).flatten ++ cpord (ladC v bl)).length ≤ 4096
    have := nodes_lad v bl
    unfold cnodes at this
    simp only [List.map_nil, List.flatten_nil, List.nil_append]
    omega
  have h3 : ruB (planL v bl).ru = true := rfl
  have h4 : listsB (planL v bl) = true := rfl
  have h5 : sortsB (planL v bl) = true := by
    show (true && decide (csort ladF 0 0 0 (ladC v bl) = 3)) = true
    rw [so_lad 0 0 0 v bl hr]
    rfl
  have h6 : alikeB q (planL v bl) = true := by
    unfold alikeB
    apply no_memo
    intro x hx
    have hx2 : x ∈ cpord (ladC v bl) := by simpa [plord] using hx
    rw [cpord_eq] at hx2
    rcases List.mem_cons.1 hx2 with rfl | hx2
    · show (32 : Int) ≠ 7; decide
    · change x ∈ ((psL v bl ++ [byC]).map cpord).flatten at hx2
      unfold psL at hx2
      rw [List.map_append, List.flatten_append, List.map_cons, List.flatten_cons] at hx2
      rcases List.mem_append.1 hx2 with h | h
      · rcases List.mem_append.1 h with h | h
        · rw [cpord_eq] at h
          simp at h
          rw [h]; show (1 : Int) ≠ 7; decide
        · exact ops_rungs x bl 0 h
      · simp only [List.map_cons, List.map_nil, List.flatten_cons, List.flatten_nil, List.append_nil] at h
        rw [cpord_eq] at h
        simp only [List.map_cons, List.map_nil, List.flatten_cons, List.flatten_nil, List.append_nil, List.mem_cons] at h
        rcases h with rfl | h
        · show (31 : Int) ≠ 7; decide
        · rw [cpord_eq] at h
          simp at h
          rw [h]; show (1 : Int) ≠ 7; decide
  unfold formedP
  rw [h1, h2, h3, h4, h5, h6]
  rfl
end Go.Proofs.YtaombbbblgfgdaaGreatDoor
