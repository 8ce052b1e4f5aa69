/- Tokens that are alike are read alike, plain. An expression's text within brackets, blanks and remarks, plain. An expression's text within others: its tokens, plain. Blanks, remarks and brackets about an expression change nothing but places, plain. -/
import Derived.Test.YtbhmffgmbabkkaaGreatDoorPyT
import Derived.Test.YtbhmffgmbabkkaaGreatDoorTsP
section
namespace Go.Proofs.YtbhmffgmbabkkaaGreatDoor
open Go.Lib

def Ak (t t' : Tk) : Prop := t.kind = t'.kind ∧ t.text = t'.text ∧ t.n = t'.n
def Al (t t' : Tm) : Prop := sameB t t' = true
def AlL (l l' : List Tm) : Prop := sameL l l' = true
theorem al_mk {k n m : Int} {s : ByteArray} {a a' : Int} {ps ps' : List Tm} (h : AlL ps ps') : Al ⟨k, s, n, m, a, ps⟩ ⟨k, s, n, m, a', ps'⟩ := by
  unfold Al
  rw [sameB_eq]
  unfold AlL at h
  rw [h]
  simp [hdEq]
theorem al_nil : AlL [] [] := rfl
theorem al_len {l l' : List Tm} (h : AlL l l') : l.length = l'.length := by
  unfold AlL sameL at h
  simp only [Bool.and_eq_true, decide_eq_true_eq] at h
  exact h.1
theorem al_snoc {l l' : List Tm} {x x' : Tm} (h : AlL l l') (hx : Al x x') : AlL (l ++ [x]) (l' ++ [x']) := by
  have hl := al_len h
  unfold AlL sameL at h ⊢
  simp only [Bool.and_eq_true, decide_eq_true_eq] at h ⊢
  refine ⟨by simp [hl], ?_⟩
  rw [List.length_append, List.length_cons, List.length_nil, Nat.zero_add]
  refine all_step' ?_ ?_
  · rw [List.all_eq_true]
    intro i hi
    have hi' : i < l.length := by simpa using hi
    have h2 := List.all_eq_true.1 h.2 i hi
    unfold samePt at h2 ⊢
    rw [List.getElem?_append_left hi', List.getElem?_append_left (by omega)]
    exact h2
  · unfold samePt
    rw [List.getElem?_append_right (Nat.le_refl _), List.getElem?_append_right (by omega), Nat.sub_self, show l.length - l'.length = 0 by omega]
    exact hx
theorem al_one {x x' : Tm} (hx : Al x x') : AlL [x] [x'] := al_snoc al_nil hx
theorem al_two {x x' y y' : Tm} (hx : Al x x') (hy : Al y y') : AlL [x, y] [x', y'] := al_snoc (al_one hx) hy
theorem nxt0 (L : List Tk) : nxt 0 L = .ok (hdT L) := by unfold nxt; rw [if_neg (fun h => h.2 rfl)]
theorem isT_ak {x : ByteArray} {t t' : Tk} (h : Ak t t') : isT x t = isT x t' := by unfold isT; rw [h.1, h.2.1]
theorem isT_end {x : ByteArray} {t : Tk} (h : t.kind = 7) : isT x t = false := by unfold isT; rw [h]; simp
/-- What may stand behind an expression. -/
def StopT (t : Tk) : Prop := t.kind = 5 ∧ (t.text = k_rp ∨ t.text = k_sem)
theorem isT_stop {x : ByteArray} {t : Tk} (h : StopT t) (h1 : x ≠ k_rp) (h2 : x ≠ k_sem) : isT x t = false := by
  unfold isT
  have hne : ¬ t.text = x := fun he => by
    rcases h.2 with hh | hh
    · exact h1 (he ▸ hh)
    · exact h2 (he ▸ hh)
  rw [decide_eq_false hne, Bool.false_and]
/-- How two lists of tokens stand to one another. -/
structure Lk (total : Prop) (Rl : List Tk → List Tk → Prop) : Prop where
  ne : ∀ {L L'}, Rl L L' → L ≠ [] ∧ L' ≠ []
  hd : ∀ {L L'}, Rl L L' → (Ak (hdT L) (hdT L') ∧ ((hdT L).kind ≠ 7 → Rl L.tail L'.tail)) ∨ (¬ total ∧ (hdT L).kind = 7 ∧ StopT (hdT L'))
def Res (deep total : Prop) (Rl : List Tk → List Tk → Prop) {α β : Type} (V : α → β → Prop) (r : Rs α) (r' : Rs β) : Prop :=
  match r with
  | .ok y => (∃ y', r' = .ok y' ∧ V y.1 y'.1 ∧ Rl y.2 y'.2) ∨ (deep ∧ ∃ a, r' = .error (a, 15))
  | .error f => total → ∃ a, r' = .error (a, f.2)
theorem Res.ok {deep total : Prop} {Rl : List Tk → List Tk → Prop} {α β : Type} {V : α → β → Prop} {y : α × List Tk} {y' : β × List Tk} (hv : V y.1 y'.1) (hr : Rl y.2 y'.2) : Res deep total Rl V (.ok y) (.ok y') := .inl ⟨y', rfl, hv, hr⟩
theorem Res.no {deep total : Prop} {Rl : List Tk → List Tk → Prop} {α β : Type} {V : α → β → Prop} {r : Rs α} {r' : Rs β} {f : Flt} (h : r = .error f) (hn : ¬ total) : Res deep total Rl V r r' := by
  subst h
  exact fun ht => absurd ht hn
theorem Res.deep {deep total : Prop} {Rl : List Tk → List Tk → Prop} {α β : Type} {V : α → β → Prop} {r : Rs α} {r' : Rs β} {a : Nat} (hx : deep → ¬ total) (hd : deep) (h : r' = .error (a, 15)) : Res deep total Rl V r r' := by
  cases r with
  | error e => exact fun ht => absurd ht (hx hd)
  | ok z => exact .inr ⟨hd, a, h⟩
theorem Res.bind {deep total : Prop} {Rl : List Tk → List Tk → Prop} {α β γ δ : Type} {V : α → β → Prop} {W : γ → δ → Prop} (hx : deep → ¬ total) {r : Rs α} {r' : Rs β} (h : Res deep total Rl V r r') {f : α × List Tk → Rs γ} {f' : β × List Tk → Rs δ} (hf : ∀ y y', r = .ok y → r' = .ok y' → V y.1 y'.1 → Rl y.2 y'.2 → Res deep total Rl W (f y) (f' y')) : Res deep total Rl W (bnd r f) (bnd r' f') := by
  cases r with
  | error e =>
    intro ht
    obtain ⟨a, rfl⟩ := h ht
    exact ⟨a, rfl⟩
  | ok y =>
    rcases h with ⟨y', rfl, hv, hr⟩ | ⟨hd, a, rfl⟩
    · exact hf y y' rfl rfl hv hr
    · exact Res.deep hx hd rfl
theorem sgT_ak {sg : Sg} {t t' : Tk} (ha : Ak t t') : sgT sg t = sgT sg t' := by
  unfold sgT
  congr 2
  funext s
  exact isT_ak ha
theorem sgT_none {sg : Sg} {t : Tk} (h : ∀ s, s ∈ sg → isT s.1 t = false) : sgT sg t = none := by
  unfold sgT
  rw [List.find?_eq_none.2 (fun s hs => by rw [h s hs]; simp)]
  rfl
section
set_option linter.unusedVariables false
theorem res_take {deep total : Prop} {Rl : List Tk → List Tk → Prop} (hx : deep → ¬ total) (K : Lk total Rl) {k : Int} (hk : k ≠ 7) {L L' : List Tk} (h : Rl L L') : Res deep total Rl Ak (takeK 0 k L) (takeK 0 k L') := by
  have _ := hx
  unfold takeK
  rw [nxt0, nxt0, bnd_ok, bnd_ok]
  rcases K.hd h with ⟨ha, ht⟩ | ⟨hn, h7, hs⟩
  · by_cases hh : (hdT L).kind = k
    · rw [if_pos hh, if_pos (ha.1 ▸ hh)]
      exact Res.ok ha (ht (by rw [hh]; exact hk))
    · rw [if_neg hh, if_neg (ha.1 ▸ hh)]
      exact fun _ => ⟨_, rfl⟩
  · exact Res.no (if_neg (by rw [h7]; exact fun he => hk he.symm)) hn
theorem res_must {deep total : Prop} {Rl : List Tk → List Tk → Prop} (hx : deep → ¬ total) (K : Lk total Rl) {x : ByteArray} {L L' : List Tk} (h : Rl L L') : Res deep total Rl (fun (_ _ : Nat) => True) (mustS 0 x L) (mustS 0 x L') := by
  have _ := hx
  unfold mustS
  rw [nxt0, nxt0, bnd_ok, bnd_ok]
  rcases K.hd h with ⟨ha, ht⟩ | ⟨hn, h7, hs⟩
  · rw [← isT_ak ha]
    cases hh : isT x (hdT L) with
    | true =>
      rw [if_pos rfl, if_pos rfl]
      exact Res.ok trivial (ht (isT_kind hh))
    | false =>
      rw [if_neg (by simp), if_neg (by simp)]
      exact fun _ => ⟨_, rfl⟩
  · exact Res.no (if_neg (by rw [isT_end h7]; simp)) hn
theorem res_unit {deep total : Prop} {Rl : List Tk → List Tk → Prop} (hx : deep → ¬ total) (K : Lk total Rl) {L L' : List Tk} (h : Rl L L') : Res deep total Rl (fun (a b : ByteArray) => a = b) (unitP 0 L) (unitP 0 L') := by
  have _ := hx
  unfold unitP
  rw [nxt0, nxt0, bnd_ok, bnd_ok]
  rcases K.hd h with ⟨ha, ht⟩ | ⟨hn, h7, hs⟩
  · by_cases hh : (hdT L).kind = 8
    · rw [if_pos hh, if_pos (ha.1 ▸ hh)]
      exact Res.ok ha.2.1 (ht (by rw [hh]; decide))
    · rw [if_neg hh, if_neg (ha.1 ▸ hh)]
      exact Res.ok rfl h
  · rw [if_neg (by rw [h7]; decide), if_neg (by rw [hs.1]; decide)]
    exact Res.ok rfl h
theorem res_number {deep total : Prop} {Rl : List Tk → List Tk → Prop} (hx : deep → ¬ total) (K : Lk total Rl) {L L' : List Tk} (h : Rl L L') : Res deep total Rl Al (numberP 0 L) (numberP 0 L') := by
  refine Res.bind hx (res_take hx K (by decide) h) (fun t t' _ _ ha hr => ?_)
  refine Res.bind hx (res_unit hx K hr) (fun u u' _ _ hu hr2 => ?_)
  refine Res.ok ?_ hr2
  show Al ⟨1, u.1, t.1.n, 0, _, []⟩ ⟨1, u'.1, t'.1.n, 0, _, []⟩
  rw [hu, ha.2.2]
  exact al_mk al_nil
theorem res_close {deep total : Prop} {Rl : List Tk → List Tk → Prop} (hx : deep → ¬ total) (K : Lk total Rl) {α β : Type} {V : α → β → Prop} {x : ByteArray} {y : α × List Tk} {y' : β × List Tk} (hv : V y.1 y'.1) (h : Rl y.2 y'.2) : Res deep total Rl V (closeP 0 x y) (closeP 0 x y') :=
  Res.bind hx (res_must hx K h) (fun _ _ _ _ _ hr => Res.ok hv hr)
/-- Two readers that read alike. -/
def RP (deep total : Prop) (Rl : List Tk → List Tk → Prop) (p p' : Ps) : Prop := ∀ L L', Rl L L' → Res deep total Rl Al (p L) (p' L')
structure XR (deep total : Prop) (Rl : List Tk → List Tk → Prop) (X X' : Option Ps) : Prop where
  no : X = none → X' = none
  yes : ∀ E, X = some E → (∃ E', X' = some E' ∧ RP deep total Rl E E') ∨ (deep ∧ X' = none)
theorem res_begin {deep total : Prop} {Rl : List Tk → List Tk → Prop} (hx : deep → ¬ total) (K : Lk total Rl) {α β : Type} {V : α → β → Prop} {x : ByteArray} {X X' : Option Ps} (H : XR deep total Rl X X') {L L' : List Tk} (h : Rl L L') {f : Ps → List Tk → Rs α} {f' : Ps → List Tk → Rs β} (hf : ∀ E E' L L', RP deep total Rl E E' → Rl L L' → Res deep total Rl V (f E L) (f' E' L')) : Res deep total Rl V (beginP 0 x X L f) (beginP 0 x X' L' f') := by
  refine Res.bind hx (res_must hx K h) (fun a a' _ _ _ hr => ?_)
  cases X with
  | none =>
    rw [H.no rfl]
    exact fun _ => ⟨_, rfl⟩
  | some E =>
    rcases H.yes E rfl with ⟨E', rfl, hE⟩ | ⟨hd, rfl⟩
    · exact hf E E' _ _ hE hr
    · exact Res.deep hx hd rfl
theorem res_more {deep total : Prop} {Rl : List Tk → List Tk → Prop} (hx : deep → ¬ total) (K : Lk total Rl) {E E' : Ps} (hE : RP deep total Rl E E') : ∀ n ps ps' L L', AlL ps ps' → Rl L L' → Res deep total Rl AlL (moreP 0 E n ps L) (moreP 0 E' n ps' L')
  | 0, _, _, _, _, hp, h => Res.ok hp h
  | n + 1, ps, ps', L, L', hp, h => by
    refine Res.bind hx (res_must hx K h) (fun a a' _ _ _ hr => ?_)
    refine Res.bind hx (hE _ _ hr) (fun y y' _ _ hy hr2 => ?_)
    exact res_more hx K hE n _ _ _ _ (al_snoc hp hy) hr2
theorem res_call {deep total : Prop} {Rl : List Tk → List Tk → Prop} (hx : deep → ¬ total) (K : Lk total Rl) {X X' : Option Ps} (H : XR deep total Rl X X') (k : Int) (n a a' : Nat) {L L' : List Tk} (h : Rl L L') : Res deep total Rl Al (callP 0 X k n a L) (callP 0 X' k n a' L') :=
  res_begin hx K H h fun _ _ _ _ hE h => Res.bind hx (hE _ _ h) (fun _ _ _ _ hy hr => Res.bind hx (res_more hx K hE n _ _ _ _ (al_one hy) hr) (fun _ _ _ _ hz hr2 => res_close hx K (al_mk hz) hr2))
theorem res_cron {deep total : Prop} {Rl : List Tk → List Tk → Prop} (hx : deep → ¬ total) (K : Lk total Rl) {X X' : Option Ps} (H : XR deep total Rl X X') (a a' : Nat) {L L' : List Tk} (h : Rl L L') : Res deep total Rl Al (cronP 0 X a L) (cronP 0 X' a' L') :=
  res_begin hx K H h fun _ _ L L' _ h => Res.bind hx (res_take hx K (by decide) h) (fun t t' _ _ ht hr => res_close hx K (by show Al ⟨6, t.1.text, 0, 0, _, []⟩ ⟨6, t'.1.text, 0, 0, _, []⟩; rw [ht.2.1]; exact al_mk al_nil) hr)
theorem res_win {deep total : Prop} {Rl : List Tk → List Tk → Prop} (hx : deep → ¬ total) (K : Lk total Rl) {X X' : Option Ps} (H : XR deep total Rl X X') (k : Int) (a a' : Nat) {L L' : List Tk} (h : Rl L L') : Res deep total Rl Al (winP 0 X k a L) (winP 0 X' k a' L') := by
  refine res_begin hx K H h fun _ _ L L' _ h => ?_
  refine Res.bind hx (res_take hx K (by decide) h) (fun t t' _ _ ht hr => ?_)
  refine Res.bind hx (res_must hx K hr) (fun b b' _ _ _ hr2 => ?_)
  refine Res.bind hx (res_take hx K (by decide) hr2) (fun d d' _ _ hd hr3 => ?_)
  by_cases hk : k = 12
  · rw [if_pos hk, if_pos hk]
    refine Res.bind hx (res_must hx K hr3) (fun e e' _ _ _ hr4 => ?_)
    refine Res.bind hx (res_take hx K (by decide) hr4) (fun m m' _ _ hm hr5 => ?_)
    exact res_close hx K (by show Al ⟨k, t.1.text, d.1.n, m.1.n, _, []⟩ ⟨k, t'.1.text, d'.1.n, m'.1.n, _, []⟩; rw [ht.2.1, hd.2.2, hm.2.2]; exact al_mk al_nil) hr5
  · rw [if_neg hk, if_neg hk]
    exact res_close hx K (by show Al ⟨k, t.1.text, d.1.n, 0, _, []⟩ ⟨k, t'.1.text, d'.1.n, 0, _, []⟩; rw [ht.2.1, hd.2.2]; exact al_mk al_nil) hr3
theorem res_word {deep total : Prop} {Rl : List Tk → List Tk → Prop} (hx : deep → ¬ total) (K : Lk total Rl) {X X' : Option Ps} (H : XR deep total Rl X X') {t t' : Tk} (ha : Ak t t') {L L' : List Tk} (h : Rl L L') : Res deep total Rl Al (wordP 0 X t L) (wordP 0 X' t' L') := by
  unfold wordP
  rw [← ha.2.1]
  by_cases h0 : t.text = k_true
  · rw [if_pos h0, if_pos h0]; exact Res.ok (al_mk al_nil) h
  rw [if_neg h0, if_neg h0]
  by_cases h1 : t.text = k_false
  · rw [if_pos h1, if_pos h1]; exact Res.ok (al_mk al_nil) h
  rw [if_neg h1, if_neg h1]
  by_cases h2 : t.text = k_reps
  · rw [if_pos h2, if_pos h2]; exact Res.ok (al_mk al_nil) h
  rw [if_neg h2, if_neg h2]
  by_cases h3 : t.text = k_if
  · rw [if_pos h3, if_pos h3]; exact res_call hx K H _ _ _ _ h
  rw [if_neg h3, if_neg h3]
  by_cases h4 : t.text = k_min
  · rw [if_pos h4, if_pos h4]; exact res_call hx K H _ _ _ _ h
  rw [if_neg h4, if_neg h4]
  by_cases h5 : t.text = k_max
  · rw [if_pos h5, if_pos h5]; exact res_call hx K H _ _ _ _ h
  rw [if_neg h5, if_neg h5]
  by_cases h6 : t.text = k_either
  · rw [if_pos h6, if_pos h6]; exact res_call hx K H _ _ _ _ h
  rw [if_neg h6, if_neg h6]
  by_cases h7 : t.text = k_abs
  · rw [if_pos h7, if_pos h7]; exact res_call hx K H _ _ _ _ h
  rw [if_neg h7, if_neg h7]
  by_cases h8 : t.text = k_ceil
  · rw [if_pos h8, if_pos h8]; exact res_call hx K H _ _ _ _ h
  rw [if_neg h8, if_neg h8]
  by_cases h9 : t.text = k_floor
  · rw [if_pos h9, if_pos h9]; exact res_call hx K H _ _ _ _ h
  rw [if_neg h9, if_neg h9]
  by_cases h10 : t.text = k_cron
  · rw [if_pos h10, if_pos h10]; exact res_cron hx K H _ _ h
  rw [if_neg h10, if_neg h10]
  by_cases h11 : winK t.text = 0
  · rw [if_pos h11, if_pos h11]; exact fun _ => ⟨_, rfl⟩
  rw [if_neg h11, if_neg h11]
  exact res_win hx K H _ _ _ h
theorem res_atom {deep total : Prop} {Rl : List Tk → List Tk → Prop} (hx : deep → ¬ total) (K : Lk total Rl) {X X' : Option Ps} (H : XR deep total Rl X X') : RP deep total Rl (atomP 0 X) (atomP 0 X') := by
  intro L L' h
  unfold atomP
  rw [nxt0, nxt0, bnd_ok, bnd_ok]
  rcases K.hd h with ⟨ha, ht⟩ | ⟨hn, h7, hs⟩
  · rw [← ha.1]
    by_cases h2 : (hdT L).kind = 2
    · rw [if_pos h2, if_pos h2]; exact res_number hx K h
    rw [if_neg h2, if_neg h2]
    by_cases h1 : (hdT L).kind = 1
    · rw [if_pos h1, if_pos h1]
      refine Res.ok ?_ (ht (by rw [h1]; decide))
      show Al ⟨2, (hdT L).text, 0, 0, _, []⟩ ⟨2, (hdT L').text, 0, 0, _, []⟩
      rw [ha.2.1]
      exact al_mk al_nil
    rw [if_neg h1, if_neg h1]
    by_cases h6 : (hdT L).kind = 6
    · rw [if_pos h6, if_pos h6]; exact res_word hx K H ha (ht (by rw [h6]; decide))
    rw [if_neg h6, if_neg h6]
    exact res_begin hx K H h fun _ _ _ _ hE h => Res.bind hx (hE _ _ h) (fun _ _ _ _ hy hr => res_close hx K hy hr)
  · refine Res.no (f := ((hdT L).at_, 16)) ?_ hn
    rw [if_neg (by rw [h7]; decide), if_neg (by rw [h7]; decide), if_neg (by rw [h7]; decide)]
    unfold beginP mustS
    rw [nxt0, bnd_ok, if_neg (by rw [isT_end h7]; simp)]
    rfl
theorem res_fac {deep total : Prop} {Rl : List Tk → List Tk → Prop} (hx : deep → ¬ total) (K : Lk total Rl) {A A' : Ps} (hA : RP deep total Rl A A') : RP deep total Rl (facP 0 A) (facP 0 A') := by
  intro L L' h
  unfold facP
  rw [nxt0, nxt0, bnd_ok, bnd_ok]
  rcases K.hd h with ⟨ha, ht⟩ | ⟨hn, h7, hs⟩
  · have e1 := isT_ak (x := k_sub) ha
    have e2 := isT_ak (x := k_not) ha
    rw [← e1, ← e2]
    cases h1 : isT k_sub (hdT L) with
    | true =>
      simp only [if_true]
      exact Res.bind hx (hA _ _ (ht (isT_kind h1))) (fun _ _ _ _ hy hr => Res.ok (al_mk (al_one hy)) hr)
    | false =>
      simp only [Bool.false_eq_true, if_false]
      cases h2 : isT k_not (hdT L) with
      | true =>
        simp only [if_true]
        exact Res.bind hx (hA _ _ (ht (isT_kind h2))) (fun _ _ _ _ hy hr => Res.ok (al_mk (al_one hy)) hr)
      | false =>
        simp only [Bool.false_eq_true, if_false]
        exact hA _ _ h
  · rw [isT_end h7, isT_end h7, isT_stop hs (by decide) (by decide), isT_stop hs (by decide) (by decide)]
    simp only [Bool.false_eq_true, if_false]
    exact hA _ _ h
def SgOk (sg : Sg) : Prop := ∀ s, s ∈ sg → s.1 ≠ k_rp ∧ s.1 ≠ k_sem
theorem res_join {deep total : Prop} {Rl : List Tk → List Tk → Prop} (hx : deep → ¬ total) (K : Lk total Rl) {sg : Sg} (hs : SgOk sg) {S S' : Ps} (hS : RP deep total Rl S S') {x x' : Tm} (hxx : Al x x') {L L' : List Tk} (h : Rl L L') : Res deep total Rl (fun (a b : Tm × Bool) => Al a.1 b.1 ∧ a.2 = b.2) (joinP 0 sg S x L) (joinP 0 sg S' x' L') := by
  unfold joinP
  rw [nxt0, nxt0, bnd_ok, bnd_ok]
  rcases K.hd h with ⟨ha, ht⟩ | ⟨hn, h7, hst⟩
  · rw [← sgT_ak ha]
    cases hk : sgT sg (hdT L) with
    | none => exact Res.ok ⟨hxx, rfl⟩ h
    | some k =>
      have h7 : (hdT L).kind ≠ 7 := fun h7 => by
        rw [sgT_none (fun s _ => isT_end h7)] at hk
        cases hk
      exact Res.bind hx (hS _ _ (ht h7)) (fun y y' _ _ hy hr => Res.ok ⟨al_mk (al_two hxx hy), rfl⟩ hr)
  · rw [sgT_none (fun s _ => isT_end h7), sgT_none (fun s hm => isT_stop hst (hs s hm).1 (hs s hm).2)]
    exact Res.ok ⟨hxx, rfl⟩ h
theorem res_leftL {deep total : Prop} {Rl : List Tk → List Tk → Prop} (hx : deep → ¬ total) (K : Lk total Rl) {sg : Sg} (hs : SgOk sg) {S S' : Ps} (hS : RP deep total Rl S S') (hD : Dec S) (hD' : Dec S') : ∀ f f' x x' L L', Al x x' → Rl L L' → L.length ≤ f → L'.length ≤ f' → Res deep total Rl Al (leftL 0 sg S f x L) (leftL 0 sg S' f' x' L')
  | 0, _, _, _, L, _, _, h, hl, _ => absurd (List.length_pos_iff.2 (K.ne h).1) (by omega)
  | _ + 1, 0, _, _, _, L', _, h, _, hl => absurd (List.length_pos_iff.2 (K.ne h).2) (by omega)
  | f + 1, f' + 1, x, x', L, L', hxx, h, hl, hl' => by
    have p1 := List.length_pos_iff.2 (K.ne h).1
    have p2 := List.length_pos_iff.2 (K.ne h).2
    refine Res.bind hx (res_join hx K hs hS hxx h) (fun y y' e1 e2 hy hr => ?_)
    rw [← hy.2]
    have d1 := (dec_join hD e1).2
    have d2 := (dec_join hD' e2).2
    rw [List.length_tail] at d1 d2
    cases hb : y.1.2 with
    | true =>
      rw [if_pos rfl, if_pos rfl]
      have := d1 hb
      have := d2 (by rw [← hy.2]; exact hb)
      exact res_leftL hx K hs hS hD hD' f f' _ _ _ _ hy.1 hr (by omega) (by omega)
    | false =>
      rw [if_neg (by simp), if_neg (by simp)]
      exact Res.ok hy.1 hr
theorem res_left {deep total : Prop} {Rl : List Tk → List Tk → Prop} (hx : deep → ¬ total) (K : Lk total Rl) {sg : Sg} (hs : SgOk sg) {S S' : Ps} (hS : RP deep total Rl S S') (hD : Dec S) (hD' : Dec S') : RP deep total Rl (leftP 0 sg S) (leftP 0 sg S') := fun _ _ h =>
  Res.bind hx (hS _ _ h) (fun _ _ _ _ hy hr => res_leftL hx K hs hS hD hD' _ _ _ _ _ _ hy hr (Nat.le_refl _) (Nat.le_refl _))
theorem res_cmp {deep total : Prop} {Rl : List Tk → List Tk → Prop} (hx : deep → ¬ total) (K : Lk total Rl) {sg : Sg} (hs : SgOk sg) {S S' : Ps} (hS : RP deep total Rl S S') : RP deep total Rl (cmpP 0 sg S) (cmpP 0 sg S') := fun _ _ h =>
  Res.bind hx (hS _ _ h) (fun _ _ _ _ hy hr => Res.bind hx (res_join hx K hs hS hy hr) (fun _ _ _ _ hz hr2 => Res.ok hz.1 hr2))
theorem res_lv0 {deep total : Prop} {Rl : List Tk → List Tk → Prop} (hx : deep → ¬ total) (K : Lk total Rl) {X X' : Option Ps} (H : XR deep total Rl X X') (hD : DecO X) (hD' : DecO X') : RP deep total Rl (lv0 0 X) (lv0 0 X') :=
  res_left hx K (by unfold SgOk; decide) (res_left hx K (by unfold SgOk; decide) (res_cmp hx K (by unfold SgOk; decide) (res_left hx K (by unfold SgOk; decide) (res_left hx K (by unfold SgOk; decide) (res_fac hx K (res_atom hx K H)) (dec_lv5 hD) (dec_lv5 hD')) (dec_lv4 hD) (dec_lv4 hD'))) (dec_lv2 hD) (dec_lv2 hD')) (dec_lv1 hD) (dec_lv1 hD')
theorem res_expr {deep total : Prop} {Rl : List Tk → List Tk → Prop} (hx : deep → ¬ total) (K : Lk total Rl) : ∀ d d', (d = d' ∨ (deep ∧ d' ≤ d)) → RP deep total Rl (exprD 0 d) (exprD 0 d')
  | 0, d', h => by
    obtain rfl : d' = 0 := by omega
    exact res_lv0 hx K ⟨fun _ => rfl, fun _ h => by cases h⟩ (fun _ h => by cases h) (fun _ h => by cases h)
  | d + 1, 0, h => by
    have hd : deep := by
      rcases h with h | h
      · omega
      · exact h.1
    exact res_lv0 hx K ⟨(fun h => by cases h), fun E h => .inr ⟨hd, rfl⟩⟩ (fun E h => by cases h; exact dec_expr 0 d) (fun _ h => by cases h)
  | d + 1, d' + 1, h => by
    have hd : d = d' ∨ (deep ∧ d' ≤ d) := by
      rcases h with h | h
      · exact .inl (by omega)
      · exact .inr ⟨h.1, by omega⟩
    exact res_lv0 hx K ⟨(fun h => by cases h), fun E h => by cases h; exact .inl ⟨_, rfl, res_expr hx K d d' hd⟩⟩ (fun E h => by cases h; exact dec_expr 0 d) (fun E h => by cases h; exact dec_expr 0 d')
end
end Go.Proofs.YtbhmffgmbabkkaaGreatDoor
end
section
namespace Go.Proofs.YtbhmffgmbabkkaaGreatDoor
open Go.Lib

def All2 : List Tk → List Tk → Prop
  | [], [] => True
  | t :: l, t' :: l' => (Ak t t' ∧ t.kind ≠ 7) ∧ All2 l l'
  | _, _ => False
/-- The same tokens, up to an end E and up to K. -/
def Cx (E : Tk) (K : List Tk) (L L' : List Tk) : Prop := ∃ M M', L = M ++ [E] ∧ L' = M' ++ K ∧ All2 M M'
theorem lk_cx {total : Prop} {E : Tk} {K : List Tk} (hE : E.kind = 7) (hK : K ≠ []) (h : (¬ total ∧ StopT (hdT K)) ∨ Ak E (hdT K)) : Lk total (Cx E K) := by
  refine ⟨fun {L L'} hr => ?_, fun {L L'} hr => ?_⟩
  · obtain ⟨M, M', rfl, rfl, _⟩ := hr
    exact ⟨by simp, by simp [hK]⟩
  · obtain ⟨M, M', rfl, rfl, hm⟩ := hr
    match M, M', hm with
    | [], [], _ =>
      rcases h with ⟨h1, h2⟩ | h1
      · exact .inr ⟨h1, hE, h2⟩
      · exact .inl ⟨h1, fun hn => absurd hE hn⟩
    | t :: M, t' :: M', hm => exact .inl ⟨hm.1.1, fun _ => ⟨M, M', rfl, rfl, hm.2⟩⟩
theorem cx_end {E : Tk} {K L L' : List Tk} (h : Cx E K L L') (h7 : (hdT L).kind = 7) : L = [E] ∧ L' = K := by
  obtain ⟨M, M', rfl, rfl, hm⟩ := h
  match M, M', hm with
  | [], [], _ => exact ⟨rfl, rfl⟩
  | t :: M, t' :: M', hm => exact absurd h7 hm.1.2
theorem all2_shift (j : Nat) : ∀ l : List Tk, (∀ t, t ∈ l → t.kind ≠ 7) → All2 l (l.map (shT j))
  | [], _ => trivial
  | t :: l, h => ⟨⟨⟨rfl, rfl, rfl⟩, h t (by simp)⟩, all2_shift j l (fun x hx => h x (by simp [hx]))⟩
theorem all2_two (j k : Nat) : ∀ l : List Tk, (∀ t, t ∈ l → t.kind ≠ 7) → All2 (l.map (shT j)) (l.map (shT k))
  | [], _ => trivial
  | t :: l, h => ⟨⟨⟨rfl, rfl, rfl⟩, h t (by simp)⟩, all2_two j k l (fun x hx => h x (by simp [hx]))⟩
theorem all2_app : ∀ {a a' b b' : List Tk}, All2 a a' → All2 b b' → All2 (a ++ b) (a' ++ b')
  | [], [], _, _, _, hb => hb
  | _ :: _, _ :: _, _, _, ha, hb => ⟨ha.1, all2_app ha.2 hb⟩
abbrev eoT (a : Nat) : Tk := ⟨7, ofL [], 0, a⟩
theorem rn_len {s : ByteArray} : ∀ (l : List Tk) (i : Nat), Rn s i l → i + l.length ≤ s.size
  | [], i, h => by simpa using h.1
  | x :: l, i, h => by
    obtain ⟨k1, k2, k3, e, k4, k5⟩ := h
    have hp := tok_past k3 (skp_vd i k1 k2) k4
    have hs := skp_in i k1
    have := rn_len l e k5
    simp only [List.length_cons]
    omega
theorem rn_cut {s : ByteArray} {l : List Tk} (h : Rn s 0 l) (hv : Vd s 0) (hz : s.size ≤ 16384) : cutS s = (l ++ [eoT s.size], 0, 0) := by
  have hl := rn_len l 0 h
  rw [cut_ok (by omega) hv, rn_lexS h [] (by simp; omega)]
  simp
theorem rn_rdS {s : ByteArray} {l : List Tk} (h : Rn s 0 l) (hv : Vd s 0) (hz : s.size ≤ 16384) : rdS s = some (l ++ [eoT s.size], 0) := by
  unfold rdS
  rw [rn_cut h hv hz]
  simp
theorem nxt_inv2 {c : Int} {L : List Tk} {t : Tk} (h : nxt c L = .ok t) : t = hdT L := by
  unfold nxt at h
  split at h
  · cases h
  · cases h; rfl
theorem all2_self : ∀ l : List Tk, (∀ t, t ∈ l → t.kind ≠ 7) → All2 l l
  | [], _ => trivial
  | t :: l, h => ⟨⟨⟨rfl, rfl, rfl⟩, h t (by simp)⟩, all2_self l (fun x hx => h x (by simp [hx]))⟩
theorem all2_kind : ∀ {l l' : List Tk}, All2 l l' → ∀ t, t ∈ l → t.kind ≠ 7
  | _ :: _, _ :: _, h, t, ht => by
    rcases List.mem_cons.1 ht with rfl | ht
    · exact h.1.2
    · exact all2_kind h.2 t ht
/-- What is left of tokens that end is an end of them. -/
theorem expr_ends {E : Tk} {l : List Tk} {d : Nat} {y : Tm × List Tk} (h : exprD 0 d (l ++ [E]) = .ok y) (hl : ∀ x, x ∈ l → x.kind ≠ 7) (hE : E.kind = 7) : ∃ M, y.2 = M ++ [E] ∧ ∀ x, x ∈ M → x.kind ≠ 7 := by
  have hr := res_expr (deep := False) (total := True) (Rl := Cx E [E]) (fun hd => hd.elim) (lk_cx hE (by simp) (.inr ⟨rfl, rfl, rfl⟩)) d d (.inl rfl) _ _ ⟨l, l, rfl, rfl, all2_self l hl⟩
  rw [h] at hr
  rcases hr with ⟨y', e1, _, M, M', hM, _, h2⟩ | ⟨hd, _⟩
  · exact ⟨M, hM, all2_kind h2⟩
  · exact hd.elim
/-- What is told of a text that is an expression. -/
theorem exprS_ok {s : ByteArray} {t : Tm} (h : exprS s = .ok t) : Vd s 0 ∧ ∃ l, Rn s 0 l ∧ (∀ x, x ∈ l → x.kind ≠ 7) ∧ exprD 0 64 (l ++ [eoT s.size]) = .ok (t, [eoT s.size]) := by
  have hTL := fun (L : List Tk) (c : Int) (h : rdS s = some (L, c)) => rdS_tl h
  have hg := cutS_good (s := s)
  unfold exprS at h
  rcases hr : rdS s with _ | r
  · rw [hr] at h
    cases h
  · rw [hr] at h
    obtain ⟨y, h1, h2⟩ := bnd_inv h
    obtain ⟨k, h3, h4⟩ := bnd_inv h2
    by_cases hk : k.kind = 7
    · rw [if_pos hk] at h4
      have hkh := nxt_inv2 h3
      have hc : r.2 = 0 := by
        unfold nxt at h3
        by_cases hc : r.2 = 0
        · exact hc
        · rw [if_pos ⟨by rw [← hkh]; exact hk, hc⟩] at h3
          cases h3
      unfold rdS at hr
      generalize cutS s = cs at *
      by_cases hn : cs.2.2 = 2 ∨ cs.2.2 = 10 ∨ cs.2.2 = 11
      · rw [if_pos hn] at hr
        cases hr
      · rw [if_neg hn] at hr
        by_cases h0 : cs.2.2 = 0
        · rw [if_pos h0] at hr
          obtain ⟨hz, hv, l, k1, k2⟩ := hg h0
          cases hr
          cases h4
          have hkk : ∀ x, x ∈ l → x.kind ≠ 7 := fun x hx => (rn_good l 0 k1 x hx).2
          refine ⟨hv, l, k1, hkk, ?_⟩
          simp only [k2] at h1
          rw [h1]
          have hsuf := expr_ends h1 hkk rfl
          obtain ⟨M, hM, hM2⟩ := hsuf
          match M, hM, hM2 with
          | [], hM, _ => rw [show y = (y.1, y.2) from rfl, hM]; rfl
          | m :: M, hM, hM2 =>
            rw [hM] at hkh
            exact absurd (by rw [← show k = m from hkh]; exact hk) (hM2 m (by simp))
        · rw [if_neg h0] at hr
          cases hr
          exact absurd hc h0
    · rw [if_neg hk] at h4
      cases h4
/-- Nothing goes on at the end. -/
theorem join_end {sg : Sg} {S : Ps} {x : Tm} {E : Tk} (hE : E.kind = 7) : joinP 0 sg S x [E] = .ok ((x, false), [E]) := by
  unfold joinP
  rw [nxt0, bnd_ok]
  rw [sgT_none (t := hdT [E]) (fun s _ => isT_end hE)]
theorem left_end {sg : Sg} {S : Ps} {L : List Tk} {x : Tm} {E : Tk} (hE : E.kind = 7) (h : S L = .ok (x, [E])) : leftP 0 sg S L = .ok (x, [E]) := by
  unfold leftP
  rw [h, bnd_ok]
  show leftL 0 sg S 1 x [E] = _
  show bnd (joinP 0 sg S x [E]) _ = _
  rw [join_end hE, bnd_ok]
  rfl
theorem cmp_end {sg : Sg} {S : Ps} {L : List Tk} {x : Tm} {E : Tk} (hE : E.kind = 7) (h : S L = .ok (x, [E])) : cmpP 0 sg S L = .ok (x, [E]) := by
  unfold cmpP
  rw [h, bnd_ok, join_end hE, bnd_ok]
theorem left_err {sg : Sg} {S : Ps} {L : List Tk} {f : Flt} (h : S L = .error f) : leftP 0 sg S L = .error f := by unfold leftP; rw [h]; rfl
theorem cmp_err {sg : Sg} {S : Ps} {L : List Tk} {f : Flt} (h : S L = .error f) : cmpP 0 sg S L = .error f := by unfold cmpP; rw [h]; rfl
theorem lv0_end {X : Option Ps} {L : List Tk} {x : Tm} {E : Tk} (hE : E.kind = 7) (h : lv4 0 X L = .ok (x, [E])) : lv0 0 X L = .ok (x, [E]) :=
  left_end hE (left_end hE (cmp_end hE (left_end hE h)))
theorem lv0_err {X : Option Ps} {L : List Tk} {f : Flt} (h : lv4 0 X L = .error f) : lv0 0 X L = .error f := left_err (left_err (cmp_err (left_err h)))
theorem isT_lit {x y : ByteArray} {k n : Int} {a : Nat} (h : y ≠ x) : isT x ⟨k, y, n, a⟩ = false := by
  unfold isT
  rw [decide_eq_false h, Bool.false_and]
/-- A bracket: what is inside it. -/
theorem lv4_br {E : Ps} {a b : Nat} {L : List Tk} : ∀ Ee : Tk, Ee.kind = 7 → (∀ x, E L = .ok (x, [⟨5, k_rp, 0, b⟩, Ee]) → lv4 0 (some E) (⟨5, k_lp, 0, a⟩ :: L) = .ok (x, [Ee])) ∧ (∀ f, E L = .error f → lv4 0 (some E) (⟨5, k_lp, 0, a⟩ :: L) = .error f) := by
  intro Ee hE
  have e5 : lv5 0 (some E) (⟨5, k_lp, 0, a⟩ :: L) = bnd (E L) fun y => closeP 0 k_rp y := by
    unfold lv5 facP
    rw [nxt0, bnd_ok]
    show (if isT k_sub ⟨5, k_lp, 0, a⟩ = true then _ else if isT k_not ⟨5, k_lp, 0, a⟩ = true then _ else _) = _
    rw [isT_lit (by decide), isT_lit (by decide)]
    simp only [Bool.false_eq_true, if_false]
    unfold atomP
    rw [nxt0, bnd_ok]
    show (if (5 : Int) = 2 then _ else if (5 : Int) = 1 then _ else if (5 : Int) = 6 then _ else _) = _
    rw [if_neg (by decide), if_neg (by decide), if_neg (by decide)]
    unfold beginP mustS
    rw [nxt0, bnd_ok]
    show bnd (if isT k_lp ⟨5, k_lp, 0, a⟩ = true then _ else _) _ = _
    rw [show isT k_lp ⟨5, k_lp, 0, a⟩ = true by unfold isT; simp, if_pos rfl]
    rfl
  refine ⟨fun x h => left_end hE ?_, fun f h => left_err ?_⟩
  · rw [e5, h, bnd_ok]
    unfold closeP mustS
    rw [nxt0, bnd_ok]
    show bnd (if isT k_rp ⟨5, k_rp, 0, b⟩ = true then _ else _) _ = _
    rw [show isT k_rp ⟨5, k_rp, 0, b⟩ = true by unfold isT; simp, if_pos rfl]
    rfl
  · rw [e5, h]
    rfl
end Go.Proofs.YtbhmffgmbabkkaaGreatDoor
end
section
namespace Go.Proofs.YtbhmffgmbabkkaaGreatDoor
open Go.Lib

theorem mid_pre {pre s post : ByteArray} (x : Nat) (h : x < pre.size) : ((pre ++ s) ++ post).get! x = pre.get! x := by
  rw [gd_left _ _ _ (by rw [ByteArray.size_append]; omega), gd_left _ _ _ h]
theorem mid_s {pre s post : ByteArray} (x : Nat) (h : x < s.size) : ((pre ++ s) ++ post).get! (pre.size + x) = s.get! x := by
  rw [gd_left _ _ _ (by rw [ByteArray.size_append]; omega), gd_right]
theorem mid_post {pre s post : ByteArray} (x : Nat) : ((pre ++ s) ++ post).get! (pre.size + s.size + x) = post.get! x := by
  have := gd_right (pre ++ s) post x
  rw [ByteArray.size_append] at this
  exact this
theorem mid_size {pre s post : ByteArray} : ((pre ++ s) ++ post).size = pre.size + s.size + post.size := by rw [ByteArray.size_append, ByteArray.size_append]
theorem seg_n {T : ByteArray} {p : Nat → Bool} {k : Nat} (b : UInt8) (h : T.get! k = b) (b0 : b ≠ 0) (b1 : b.toNat < 128) (hp : p b.toNat = false) : seg T p k = [] := by
  have hd := dec_low (s := T) (i := k) (by rw [h]; exact b1)
  exact seg_no (s := T) (p := p) (i := k) (get_in (by rw [h]; exact b0)) (by rw [hd, h]; exact hp)
theorem emb_mid {pre s post : ByteArray} {b : UInt8} (hb : post.get! 0 = b) (h : b = 9 ∨ b = 10 ∨ b = 41) : Emb s s.size ((pre ++ s) ++ post) pre.size := by
  have hp := mid_post (pre := pre) (s := s) (post := post) 0
  rw [Nat.add_zero, hb] at hp
  refine ⟨Nat.le_refl _, Vd.end_ (by omega), by rw [mid_size]; omega, fun x hx => mid_s x hx, fun c hc => ?_, ?_⟩
  · rcases h with rfl | rfl | rfl <;> rcases hc with rfl | rfl | rfl <;> exact ⟨rn_n _ hp (by decide) (by decide) (by decide), seg_n _ hp (by decide) (by decide) (by decide)⟩
  · rw [hp]
    rcases h with rfl | rfl | rfl <;> decide
theorem cut_1b {T : ByteArray} {i : Nat} {b : UInt8} (h : T.get! i = b) (h0 : b ≠ 0) : T.extract i (i + 1) = ⟨#[b]⟩ := by
  have hi := get_in (s := T) (i := i) (by rw [h]; exact h0)
  have hz := size_cut T i (i + 1) (by omega)
  refine ext_get (by rw [hz]; show i + 1 - i = 1; omega) (fun k hk => ?_)
  rw [hz] at hk
  have : k = 0 := by omega
  subst this
  rw [gd_cut T i (i + 1) 0 (by omega) (by omega), Nat.add_zero, h]
  rfl
/-- A sign of one byte. -/
theorem tok_one {T : ByteArray} {i : Nat} {b : UInt8} (h : T.get! i = b) (hb : b = 40 ∨ b = 41 ∨ b = 43 ∨ b = 59) : tok T i = .ok (⟨5, ⟨#[b]⟩, 0, i⟩, i + 1) := by
  have hx := cut_1b h (by rcases hb with rfl | rfl | rfl | rfl <;> decide)
  have c1 : cls T 1 i = i := by rcases hb with rfl | rfl | rfl | rfl <;> exact rn_n _ h (by decide) (by decide) (by decide)
  have c2 : cls T 2 i = i := by rcases hb with rfl | rfl | rfl | rfl <;> exact rn_n _ h (by decide) (by decide) (by decide)
  unfold tok
  rw [if_neg (by rw [c1]; simp), if_neg (by rw [c2]; simp), if_neg (by rw [h]; rcases hb with rfl | rfl | rfl | rfl <;> decide), if_neg (by rw [h]; rcases hb with rfl | rfl | rfl | rfl <;> decide)]
  unfold sigT
  rw [h, if_neg (by unfold two; rcases hb with rfl | rfl | rfl | rfl <;> simp), if_pos (by rcases hb with rfl | rfl | rfl | rfl <;> decide), hx]
theorem skp_at {T : ByteArray} {i : Nat} {b : UInt8} (h : T.get! i = b) (h0 : b ≠ 0) (h1 : b.toNat < 128) (h35 : b ≠ 35) (hp : isC (b.toNat : Int) 4 = false) : skp T i = i := by
  have hi := get_in (s := T) (i := i) (by rw [h]; exact h0)
  have c : cls T 4 i = i := rn_n _ h h0 h1 hp
  rw [skp_eq (by omega), c, if_neg (by rw [h]; exact h35)]
theorem skp_32 {T : ByteArray} {i : Nat} (h : T.get! i = 32) : skp T i = skp T (i + 1) := by
  have hi := get_in (s := T) (i := i) (by rw [h]; decide)
  have c : cls T 4 i = cls T 4 (i + 1) := rn_y _ h (by decide) (by decide) (by decide)
  rw [skp_eq (by omega), skp_eq (s := T) (i := i + 1) (by omega), c]
theorem rn_end0 {T : ByteArray} : Rn T T.size [] := by
  refine ⟨Nat.le_refl _, ?_⟩
  have := skp_in (s := T) T.size (Nat.le_refl _)
  omega
theorem rn_sig {T : ByteArray} {i j : Nat} {b : UInt8} {l : List Tk} (hsk : skp T i = j) (hi : i ≤ T.size) (hv : Vd T i) (h : T.get! j = b) (hb : b = 40 ∨ b = 41 ∨ b = 43 ∨ b = 59) (hr : Rn T (j + 1) l) : Rn T i (⟨5, ⟨#[b]⟩, 0, j⟩ :: l) :=
  ⟨hi, hv, by rw [hsk]; exact get_in (by rw [h]; rcases hb with rfl | rfl | rfl | rfl <;> decide), j + 1, by rw [hsk]; exact tok_one h hb, hr⟩
abbrev pre1 : ByteArray := ⟨#[32, 35, 32, 40, 10]⟩
abbrev post1 : ByteArray := ⟨#[9, 35, 32, 41]⟩
abbrev b40 : ByteArray := ⟨#[40]⟩
abbrev b41 : ByteArray := ⟨#[41]⟩
abbrev pre3 : ByteArray := ⟨#[49, 32, 43, 32, 40]⟩
section
set_option linter.unusedVariables false
/-- Blanks and remarks about it. -/
theorem toks_1 {s : ByteArray} {l : List Tk} (hv : Vd s 0) (hr : Rn s 0 l) (h35 : ∀ c, s.get! c ≠ 35) : Vd ((pre1 ++ s) ++ post1) 0 ∧ Rn ((pre1 ++ s) ++ post1) 0 (l.map (shT 5)) := by
  have em := emb_mid (pre := pre1) (s := s) (post := post1) (b := 9) rfl (.inl rfl)
  have hp := fun x h => mid_pre (pre := pre1) (s := s) (post := post1) x h
  have hq := mid_post (pre := pre1) (s := s) (post := post1)
  have hz : ((pre1 ++ s) ++ post1).size = 5 + s.size + 4 := mid_size
  change Emb s s.size ((pre1 ++ s) ++ post1) 5 at em
  generalize (pre1 ++ s) ++ post1 = T at *
  have p0 : T.get! 0 = 32 := hp 0 (by decide)
  have p1 : T.get! 1 = 35 := hp 1 (by decide)
  have p2 : T.get! 2 = 32 := hp 2 (by decide)
  have p3 : T.get! 3 = 40 := hp 3 (by decide)
  have p4 : T.get! 4 = 10 := hp 4 (by decide)
  have q0 : T.get! (5 + s.size) = 9 := hq 0
  have q1 : T.get! (5 + s.size + 1) = 35 := hq 1
  have q2 : T.get! (5 + s.size + 2) = 32 := hq 2
  have q3 : T.get! (5 + s.size + 3) = 41 := hq 3
  have v4 : Vd T (5 + s.size + 4) := Vd.end_ (by omega)
  have vE : Vd T (5 + s.size) := vd_y 9 q0 (by decide) (by decide) (by decide) <| vd_y 35 q1 (by decide) (by decide) (by decide) <| vd_y 32 q2 (by decide) (by decide) (by decide) <| vd_y 41 q3 (by decide) (by decide) (by decide) v4
  have rE : Rn T (5 + s.size) [] := by
    refine ⟨by omega, ?_⟩
    have c1 : cls T 4 (5 + s.size) = 5 + s.size + 1 := (rn_y _ q0 (by decide) (by decide) (by decide)).trans (rn_n _ q1 (by decide) (by decide) (by decide))
    have c2 : lineEnd T (5 + s.size + 1) = T.size := (rn_y _ q1 (by decide) (by decide) (by decide)).trans <| (rn_y _ q2 (by decide) (by decide) (by decide)).trans <| (rn_y _ q3 (by decide) (by decide) (by decide)).trans (rn_end (by omega))
    rw [skp_eq (by omega), c1, if_pos q1, c2]
    have := skp_in (s := T) T.size (Nat.le_refl _)
    omega
  have r5 := em.run (fun c hc => absurd hc (h35 c)) vE rE l 0 (Nat.zero_le _) hv hr
  have v5 := em.vd vE 0 (Nat.zero_le _) hv
  rw [Nat.add_zero] at r5 v5
  rw [List.append_nil] at r5
  have v0 : Vd T 0 := vd_y 32 p0 (by decide) (by decide) (by decide) <| vd_y 35 p1 (by decide) (by decide) (by decide) <| vd_y 32 p2 (by decide) (by decide) (by decide) <| vd_y 40 p3 (by decide) (by decide) (by decide) <| vd_y 10 p4 (by decide) (by decide) (by decide) v5
  have sk : skp T 0 = skp T 5 := by
    have c1 : cls T 4 0 = 1 := (rn_y _ p0 (by decide) (by decide) (by decide)).trans (rn_n _ p1 (by decide) (by decide) (by decide))
    have c2 : lineEnd T 1 = 4 := (rn_y _ p1 (by decide) (by decide) (by decide)).trans <| (rn_y _ p2 (by decide) (by decide) (by decide)).trans <| (rn_y _ p3 (by decide) (by decide) (by decide)).trans (rn_n _ p4 (by decide) (by decide) (by decide))
    have c3 : cls T 4 4 = cls T 4 5 := rn_y _ p4 (by decide) (by decide) (by decide)
    rw [skp_eq (Nat.zero_le _), c1, if_pos p1, c2, skp_eq (by omega), c3, skp_eq (s := T) (i := 5) (by omega)]
  refine ⟨v0, ?_⟩
  cases l with
  | nil => exact ⟨Nat.zero_le _, by rw [sk]; exact r5.2⟩
  | cons x l =>
    obtain ⟨k1, k2, k3, e, k4, k5⟩ := r5
    exact ⟨Nat.zero_le _, v0, by rw [sk]; exact k3, e, by rw [sk]; exact k4, k5⟩
/-- Brackets about it. -/
theorem toks_2 {s : ByteArray} {l : List Tk} (hv : Vd s 0) (hr : Rn s 0 l) (h35 : ∀ c, s.get! c ≠ 35) : Vd ((b40 ++ s) ++ b41) 0 ∧ Rn ((b40 ++ s) ++ b41) 0 (⟨5, k_lp, 0, 0⟩ :: (l.map (shT 1) ++ [⟨5, k_rp, 0, 1 + s.size⟩])) := by
  have em := emb_mid (pre := b40) (s := s) (post := b41) (b := 41) rfl (.inr (.inr rfl))
  have hp := fun x h => mid_pre (pre := b40) (s := s) (post := b41) x h
  have hq := mid_post (pre := b40) (s := s) (post := b41)
  have hz : ((b40 ++ s) ++ b41).size = 1 + s.size + 1 := mid_size
  change Emb s s.size ((b40 ++ s) ++ b41) 1 at em
  generalize (b40 ++ s) ++ b41 = T at *
  have p0 : T.get! 0 = 40 := hp 0 (by decide)
  have q0 : T.get! (1 + s.size) = 41 := hq 0
  have vE : Vd T (1 + s.size) := vd_y 41 q0 (by decide) (by decide) (by decide) (Vd.end_ (by omega))
  have rE : Rn T (1 + s.size) [⟨5, k_rp, 0, 1 + s.size⟩] := rn_sig (skp_at q0 (by decide) (by decide) (by decide) (by decide)) (by omega) vE q0 (.inr (.inl rfl)) (by rw [← hz]; exact rn_end0)
  have r1 := em.run (fun c hc => absurd hc (h35 c)) vE rE l 0 (Nat.zero_le _) hv hr
  have v1 := em.vd vE 0 (Nat.zero_le _) hv
  rw [Nat.add_zero] at r1 v1
  have v0 : Vd T 0 := vd_y 40 p0 (by decide) (by decide) (by decide) v1
  exact ⟨v0, rn_sig (skp_at p0 (by decide) (by decide) (by decide) (by decide)) (Nat.zero_le _) v0 p0 (.inl rfl) r1⟩
/-- One more than it. -/
theorem toks_3 {s : ByteArray} {l : List Tk} (hv : Vd s 0) (hr : Rn s 0 l) (h35 : ∀ c, s.get! c ≠ 35) : Vd ((pre3 ++ s) ++ b41) 0 ∧ Rn ((pre3 ++ s) ++ b41) 0 (⟨2, ⟨#[49]⟩, 1000000, 0⟩ :: ⟨5, k_add, 0, 2⟩ :: ⟨5, k_lp, 0, 4⟩ :: (l.map (shT 5) ++ [⟨5, k_rp, 0, 5 + s.size⟩])) := by
  have em := emb_mid (pre := pre3) (s := s) (post := b41) (b := 41) rfl (.inr (.inr rfl))
  have hp := fun x h => mid_pre (pre := pre3) (s := s) (post := b41) x h
  have hq := mid_post (pre := pre3) (s := s) (post := b41)
  have hz : ((pre3 ++ s) ++ b41).size = 5 + s.size + 1 := mid_size
  change Emb s s.size ((pre3 ++ s) ++ b41) 5 at em
  generalize (pre3 ++ s) ++ b41 = T at *
  have p0 : T.get! 0 = 49 := hp 0 (by decide)
  have p1 : T.get! 1 = 32 := hp 1 (by decide)
  have p2 : T.get! 2 = 43 := hp 2 (by decide)
  have p3 : T.get! 3 = 32 := hp 3 (by decide)
  have p4 : T.get! 4 = 40 := hp 4 (by decide)
  have q0 : T.get! (5 + s.size) = 41 := hq 0
  have vE : Vd T (5 + s.size) := vd_y 41 q0 (by decide) (by decide) (by decide) (Vd.end_ (by omega))
  have rE : Rn T (5 + s.size) [⟨5, k_rp, 0, 5 + s.size⟩] := rn_sig (skp_at q0 (by decide) (by decide) (by decide) (by decide)) (by omega) vE q0 (.inr (.inl rfl)) (by rw [← hz]; exact rn_end0)
  have r5 := em.run (fun c hc => absurd hc (h35 c)) vE rE l 0 (Nat.zero_le _) hv hr
  have v5 := em.vd vE 0 (Nat.zero_le _) hv
  rw [Nat.add_zero] at r5 v5
  have v4 : Vd T 4 := vd_y 40 p4 (by decide) (by decide) (by decide) v5
  have v3 : Vd T 3 := vd_y 32 p3 (by decide) (by decide) (by decide) v4
  have v2 : Vd T 2 := vd_y 43 p2 (by decide) (by decide) (by decide) v3
  have v1 : Vd T 1 := vd_y 32 p1 (by decide) (by decide) (by decide) v2
  have v0 : Vd T 0 := vd_y 49 p0 (by decide) (by decide) (by decide) v1
  have s3 : skp T 3 = 4 := (skp_32 p3).trans (skp_at p4 (by decide) (by decide) (by decide) (by decide))
  have s1 : skp T 1 = 2 := (skp_32 p1).trans (skp_at p2 (by decide) (by decide) (by decide) (by decide))
  have r3 := rn_sig s3 (by omega) v3 p4 (.inl rfl) r5
  have r1 := rn_sig s1 (by omega) v1 p2 (.inr (.inr (.inl rfl))) r3
  have s0 : skp T 0 = 0 := skp_at p0 (by decide) (by decide) (by decide) (by decide)
  refine ⟨v0, Nat.zero_le _, v0, by rw [s0]; omega, 1, ?_, r1⟩
  rw [s0]
  have hx := cut_1b p0 (by decide)
  have c1 : cls T 1 0 = 0 := rn_n _ p0 (by decide) (by decide) (by decide)
  have c2 : cls T 2 0 = 1 := (rn_y _ p0 (by decide) (by decide) (by decide)).trans (rn_n _ p1 (by decide) (by decide) (by decide))
  have c3 : cls T 3 1 = 1 := rn_n _ p1 (by decide) (by decide) (by decide)
  have hn : numE T 0 = 1 := by
    unfold numE
    rw [c2, if_neg (by rw [p1]; exact fun h => absurd h.1 (by decide))]
  unfold tok
  rw [if_neg (by rw [c1]; simp), if_pos (by rw [c2]; simp)]
  unfold numT
  rw [hn, c3, if_neg (by omega)]
  rw [Nat.zero_add] at hx
  rw [hx, show readN (⟨#[49]⟩ : ByteArray).data.toList = some 1000000 from by decide]
  show (Except.ok (⟨2, T.extract 0 1, ((1000000 : Nat) : Int), 0⟩, 1) : TR) = _
  rw [hx]
  rfl
end
end Go.Proofs.YtbhmffgmbabkkaaGreatDoor
end
section
namespace Go.Proofs.YtbhmffgmbabkkaaGreatDoor
open Go.Lib

theorem al_symm (t : Tm) : ∀ y, Al t y → Al y t := by
  induction t using Tm.ind with
  | h t ih =>
    intro y h
    unfold Al at h ⊢
    rw [sameB_eq] at h ⊢
    simp only [Bool.and_eq_true] at h ⊢
    obtain ⟨h1, h2⟩ := h
    have hl := al_len (l := t.parts) (l' := y.parts) h2
    refine ⟨?_, ?_⟩
    · unfold hdEq at h1 ⊢
      simp only [Bool.and_eq_true, decide_eq_true_eq] at h1 ⊢
      exact ⟨h1.1.symm, h1.2.1.symm, h1.2.2.1.symm, h1.2.2.2.symm⟩
    · unfold sameL at h2 ⊢
      simp only [Bool.and_eq_true, decide_eq_true_eq, List.all_eq_true, List.mem_range] at h2 ⊢
      refine ⟨hl.symm, fun i hi => ?_⟩
      have hi' : i < t.parts.length := by omega
      have h3 := h2.2 i hi'
      rw [samePt_at hi' hi] at h3
      rw [samePt_at hi hi']
      exact ih _ (List.getElem_mem hi') _ h3
theorem end_of {t : Tm} {a : Nat} : endP 0 (t, [eoT a]) = .ok t := by
  unfold endP
  rw [nxt0, bnd_ok]
  exact if_pos rfl
theorem exprS_of {T : ByteArray} {L : List Tk} (h : rdS T = some (L, 0)) : exprS T = bnd (exprD 0 64 L) (endP 0) := by
  unfold exprS
  rw [h]
theorem lv4_pos {X : Option Ps} {L : List Tk} {y : Tm × List Tk} (hx : lv4 0 X L = .ok y) : 1 ≤ L.length := by
  cases L with
  | nil =>
    exfalso
    have e5 : lv5 0 X [] = .error (0, 16) := by
      unfold lv5 facP
      rw [nxt0, bnd_ok]
      rw [isT_end rfl, isT_end rfl]
      simp only [Bool.false_eq_true, if_false]
      unfold atomP
      rw [nxt0, bnd_ok]
      rw [if_neg (by decide), if_neg (by decide), if_neg (by decide)]
      unfold beginP mustS
      rw [nxt0, bnd_ok, if_neg (by rw [isT_end rfl]; simp)]
      rfl
    unfold lv4 at hx
    rw [left_err e5] at hx
    cases hx
  | cons t L => simp
theorem ak_eo (a b : Nat) : Ak (eoT a) (eoT b) := ⟨rfl, rfl, rfl⟩
theorem sum_num {X : Option Ps} {L : List Tk} {E : Tk} (hE : E.kind = 7) : (∀ x, lv4 0 X L = .ok (x, [E]) → lv0 0 X (⟨2, ⟨#[49]⟩, 1000000, 0⟩ :: ⟨5, k_add, 0, 2⟩ :: L) = .ok (tm 18 2 [⟨1, ⟨#[]⟩, 1000000, 0, 0, []⟩, x], [E])) ∧ (∀ f, lv4 0 X L = .error f → lv0 0 X (⟨2, ⟨#[49]⟩, 1000000, 0⟩ :: ⟨5, k_add, 0, 2⟩ :: L) = .error f) := by
  have e5 : lv5 0 X (⟨2, ⟨#[49]⟩, 1000000, 0⟩ :: ⟨5, k_add, 0, 2⟩ :: L) = .ok (⟨1, ⟨#[]⟩, 1000000, 0, 0, []⟩, ⟨5, k_add, 0, 2⟩ :: L) := by
    unfold lv5 facP
    rw [nxt0, bnd_ok]
    show (if isT k_sub ⟨2, ⟨#[49]⟩, 1000000, 0⟩ = true then _ else if isT k_not ⟨2, ⟨#[49]⟩, 1000000, 0⟩ = true then _ else _) = _
    rw [isT_lit (by decide), isT_lit (by decide)]
    simp only [Bool.false_eq_true, if_false]
    unfold atomP
    rw [nxt0, bnd_ok]
    show (if (2 : Int) = 2 then _ else _) = _
    rw [if_pos rfl]
    unfold numberP takeK
    rw [nxt0, bnd_ok]
    show bnd (if (2 : Int) = 2 then _ else _) _ = _
    rw [if_pos rfl, bnd_ok]
    unfold unitP
    rw [nxt0, bnd_ok]
    show bnd (if (5 : Int) = 8 then _ else _) _ = _
    rw [if_neg (by decide), bnd_ok]
    rfl
  have e4 : lv4 0 X (⟨2, ⟨#[49]⟩, 1000000, 0⟩ :: ⟨5, k_add, 0, 2⟩ :: L) = .ok (⟨1, ⟨#[]⟩, 1000000, 0, 0, []⟩, ⟨5, k_add, 0, 2⟩ :: L) := by
    unfold lv4 leftP
    rw [e5, bnd_ok]
    show bnd (joinP 0 sgMul (lv5 0 X) ⟨1, ⟨#[]⟩, 1000000, 0, 0, []⟩ (⟨5, k_add, 0, 2⟩ :: L)) _ = _
    unfold joinP
    rw [nxt0, bnd_ok]
    rw [sgT_none (t := hdT (⟨5, k_add, 0, 2⟩ :: L)) (fun s hs => by
      simp only [List.mem_cons, List.not_mem_nil, or_false] at hs
      rcases hs with rfl | rfl <;> exact isT_lit (by decide))]
    rfl
  have e3 : lv3 0 X (⟨2, ⟨#[49]⟩, 1000000, 0⟩ :: ⟨5, k_add, 0, 2⟩ :: L) = bnd (bnd (lv4 0 X L) fun y => .ok ((tm 18 2 [⟨1, ⟨#[]⟩, 1000000, 0, 0, []⟩, y.1], true), y.2)) fun y => if y.1.2 = true then leftL 0 sgSum (lv4 0 X) L.length y.1.1 y.2 else .ok (y.1.1, y.2) := by
    unfold lv3 leftP
    rw [e4, bnd_ok]
    show bnd (joinP 0 sgSum (lv4 0 X) ⟨1, ⟨#[]⟩, 1000000, 0, 0, []⟩ (⟨5, k_add, 0, 2⟩ :: L)) _ = _
    congr 1
  refine ⟨fun x hx => left_end hE (left_end hE (cmp_end hE ?_)), fun f hf => left_err (left_err (cmp_err ?_))⟩
  · rw [e3, hx, bnd_ok, bnd_ok, if_pos rfl]
    have hD : 1 ≤ L.length := lv4_pos hx
    match L, hD with
    | y :: L, _ =>
      show bnd (joinP 0 sgSum (lv4 0 X) _ [E]) _ = _
      rw [join_end hE, bnd_ok]
      rfl
  · rw [e3, hf]
    rfl
section
set_option linter.unusedVariables false
theorem blanks_1 {s : ByteArray} {t : Tm} (h : exprS s = .ok t) (hz : s.size ≤ 2000) (h35 : ∀ c, s.get! c ≠ 35) : ∃ u, exprS ((pre1 ++ s) ++ post1) = .ok u ∧ Al t u := by
  obtain ⟨hv, l, hr, hk, he⟩ := exprS_ok h
  obtain ⟨v1, r1⟩ := toks_1 hv hr h35
  have hs : ((pre1 ++ s) ++ post1).size = 5 + s.size + 4 := mid_size
  rw [exprS_of (rn_rdS r1 v1 (by omega))]
  generalize ((pre1 ++ s) ++ post1).size = N at *
  have hR := res_expr (deep := False) (total := False) (Rl := Cx (eoT s.size) [eoT N]) (fun hd => hd.elim) (lk_cx rfl (by simp) (.inr (ak_eo _ _))) 64 64 (.inl rfl) (l ++ [eoT s.size]) (l.map (shT 5) ++ [eoT N]) ⟨_, _, rfl, rfl, all2_shift 5 l hk⟩
  rw [he] at hR
  rcases hR with ⟨y', e1, ha, hc⟩ | ⟨hd, _⟩
  · obtain ⟨_, e2⟩ := cx_end hc rfl
    rw [e1, bnd_ok]
    refine ⟨y'.1, ?_, ha⟩
    rw [show y' = (y'.1, y'.2) from rfl, e2]
    exact end_of
  · exact hd.elim
theorem blanks_2 {s : ByteArray} {t : Tm} (h : exprS s = .ok t) (hz : s.size ≤ 2000) (h35 : ∀ c, s.get! c ≠ 35) : (∃ a b, exprS ((b40 ++ s) ++ b41) = .error (a, 15) ∧ exprS ((pre3 ++ s) ++ b41) = .error (b, 15)) ∨
    (∃ v x, exprS ((b40 ++ s) ++ b41) = .ok v ∧ Al t v ∧ exprS ((pre3 ++ s) ++ b41) = .ok (tm 18 2 [⟨1, ⟨#[]⟩, 1000000, 0, 0, []⟩, x]) ∧ Al x t) := by
  obtain ⟨hv, l, hr, hk, he⟩ := exprS_ok h
  obtain ⟨v2, r2⟩ := toks_2 hv hr h35
  obtain ⟨v3, r3⟩ := toks_3 hv hr h35
  have hs2 : ((b40 ++ s) ++ b41).size = 1 + s.size + 1 := mid_size
  have hs3 : ((pre3 ++ s) ++ b41).size = 5 + s.size + 1 := mid_size
  rw [exprS_of (rn_rdS r2 v2 (by omega)), exprS_of (rn_rdS r3 v3 (by omega))]
  generalize ((b40 ++ s) ++ b41).size = N2 at *
  generalize ((pre3 ++ s) ++ b41).size = N3 at *
  have ea : ∀ (j p N : Nat), l.map (shT j) ++ [⟨5, k_rp, 0, p⟩] ++ [eoT N] = l.map (shT j) ++ [⟨5, k_rp, 0, p⟩, eoT N] := fun j p N => by simp
  rw [List.cons_append, ea, List.cons_append, List.cons_append, List.cons_append, ea]
  have B := fun (j p N : Nat) => res_expr (deep := True) (total := False) (Rl := Cx (eoT s.size) [⟨5, k_rp, 0, p⟩, eoT N]) (fun _ hf => hf) (lk_cx rfl (by simp) (.inl ⟨fun hf => hf, rfl, .inl rfl⟩)) 64 63 (.inr ⟨trivial, by decide⟩) (l ++ [eoT s.size]) (l.map (shT j) ++ [⟨5, k_rp, 0, p⟩, eoT N]) ⟨_, _, rfl, rfl, all2_shift j l hk⟩
  have A := res_expr (deep := False) (total := True) (Rl := Cx (eoT N2) [eoT N3]) (fun hd => hd.elim) (lk_cx rfl (by simp) (.inr (ak_eo _ _))) 63 63 (.inl rfl) (l.map (shT 1) ++ [⟨5, k_rp, 0, 1 + s.size⟩, eoT N2]) (l.map (shT 5) ++ [⟨5, k_rp, 0, 5 + s.size⟩, eoT N3])
    ⟨l.map (shT 1) ++ [⟨5, k_rp, 0, 1 + s.size⟩], l.map (shT 5) ++ [⟨5, k_rp, 0, 5 + s.size⟩], by simp, by simp, all2_app (all2_two 1 5 l hk) ⟨⟨⟨rfl, rfl, rfl⟩, by show (5 : Int) ≠ 7; decide⟩, trivial⟩⟩
  have b2 := B 1 (1 + s.size) N2
  have b3 := B 5 (5 + s.size) N3
  rw [he] at b2 b3
  have x64 : exprD 0 64 = lv0 0 (some (exprD 0 63)) := rfl
  rw [x64]
  obtain ⟨g1, g2⟩ := lv4_br (E := exprD 0 63) (a := 0) (b := 1 + s.size) (L := l.map (shT 1) ++ [⟨5, k_rp, 0, 1 + s.size⟩, eoT N2]) (eoT N2) rfl
  obtain ⟨f1, f2⟩ := lv4_br (E := exprD 0 63) (a := 4) (b := 5 + s.size) (L := l.map (shT 5) ++ [⟨5, k_rp, 0, 5 + s.size⟩, eoT N3]) (eoT N3) rfl
  obtain ⟨q1, q2⟩ := sum_num (X := some (exprD 0 63)) (L := ⟨5, k_lp, 0, 4⟩ :: (l.map (shT 5) ++ [⟨5, k_rp, 0, 5 + s.size⟩, eoT N3])) (E := eoT N3) rfl
  rcases b2 with ⟨y2, e2, ha2, hc2⟩ | ⟨_, a, e2⟩
  · right
    obtain ⟨_, c2⟩ := cx_end hc2 rfl
    have e2' : exprD 0 63 (l.map (shT 1) ++ [⟨5, k_rp, 0, 1 + s.size⟩, eoT N2]) = .ok (y2.1, [⟨5, k_rp, 0, 1 + s.size⟩, eoT N2]) := by rw [e2, ← c2]
    rw [e2'] at A
    rcases b3 with ⟨y3, e3, ha3, hc3⟩ | ⟨_, a, e3⟩
    · obtain ⟨_, c3⟩ := cx_end hc3 rfl
      have e3' : exprD 0 63 (l.map (shT 5) ++ [⟨5, k_rp, 0, 5 + s.size⟩, eoT N3]) = .ok (y3.1, [⟨5, k_rp, 0, 5 + s.size⟩, eoT N3]) := by rw [e3, ← c3]
      refine ⟨y2.1, y3.1, ?_, ha2, ?_, al_symm _ _ ha3⟩
      · rw [lv0_end rfl (g1 _ e2'), bnd_ok]
        exact end_of
      · rw [q1 _ (f1 _ e3'), bnd_ok]
        exact end_of
    · rcases A with ⟨y', e1, _⟩ | ⟨hd, _⟩
      · rw [e3] at e1
        cases e1
      · exact hd.elim
  · left
    rw [e2] at A
    obtain ⟨b, e3⟩ := A trivial
    refine ⟨a, b, ?_, ?_⟩
    · rw [lv0_err (g2 _ e2)]
      rfl
    · rw [q2 _ (f2 _ e3)]
      rfl
end
end Go.Proofs.YtbhmffgmbabkkaaGreatDoor
end
