/- An expression within a policy's line is read as it is read alone, plain. -/
import Derived.Test.YtbhmffgmbabkkaaGreatDoorMgE
import Derived.Test.YtbhmffgmbabkkaaGreatDoorPyW
namespace Go.Proofs.YtbhmffgmbabkkaaGreatDoor
open Go.Lib

/-- policy p; let x = -/
abbrev preL : ByteArray := ⟨#[112, 111, 108, 105, 99, 121, 32, 112, 59, 32, 108, 101, 116, 32, 120, 32, 61]⟩
abbrev preM : ByteArray := ⟨#[112, 111, 108, 105, 99, 121, 32, 112, 59, 32, 108, 101, 116, 32, 120, 32, 61, 32]⟩
/-- ; decide hold; on the next line -/
abbrev posL : ByteArray := ⟨#[10, 59, 32, 100, 101, 99, 105, 100, 101, 32, 104, 111, 108, 100, 59]⟩
abbrev tksA : List Tk := [⟨6, k_policy, 0, 0⟩, ⟨1, ⟨#[112]⟩, 0, 7⟩, ⟨5, k_sem, 0, 8⟩, ⟨6, k_let, 0, 10⟩, ⟨1, ⟨#[120]⟩, 0, 14⟩, ⟨5, k_eq, 0, 16⟩]
abbrev tksB : List Tk := [⟨5, k_sem, 0, 1⟩, ⟨6, k_decide, 0, 3⟩, ⟨6, k_hold, 0, 10⟩, ⟨5, k_sem, 0, 14⟩]
theorem cut_pre : cutS preL = (tksA ++ [⟨7, ofL [], 0, 17⟩], 0, 0) := by kernel_rfl
theorem cut_pos : cutS posL = (tksB ++ [⟨7, ofL [], 0, 15⟩], 0, 0) := by kernel_rfl
theorem rn_of_cut {s : ByteArray} {l : List Tk} {a : Nat} (h : cutS s = (l ++ [⟨7, ofL [], 0, a⟩], 0, 0)) : Vd s 0 ∧ Rn s 0 l := by
  obtain ⟨_, hv, k, h1, h2⟩ := cutS_good (s := s) (by rw [h])
  rw [h] at h2
  have h3 : l ++ [⟨7, ofL [], 0, a⟩] = k ++ [⟨7, ofL [], 0, s.size⟩] := h2
  have h4 := (List.append_inj' h3 rfl).1
  rw [h4]
  exact ⟨hv, h1⟩
/-- Blanks ahead. -/
theorem rn_32 {T : ByteArray} {i : Nat} {l : List Tk} (h : T.get! i = 32) (hr : Rn T (i + 1) l) (hv : Vd T (i + 1)) : Rn T i l := by
  have hi := get_in (s := T) (i := i) (by rw [h]; decide)
  have hs := skp_32 h
  have hv0 : Vd T i := vd_y 32 h (by decide) (by decide) (by decide) hv
  cases l with
  | nil => exact ⟨Nat.le_of_lt hi, by rw [hs]; exact hr.2⟩
  | cons t l =>
    obtain ⟨_, _, k3, e, k4, k5⟩ := hr
    exact ⟨Nat.le_of_lt hi, hv0, by rw [hs]; exact k3, e, by rw [hs]; exact k4, k5⟩
theorem emb_end {s t : ByteArray} {j : Nat} (hz : t.size = j + s.size) (hb : ∀ x, x < s.size → t.get! (j + x) = s.get! x) : Emb s s.size t j := by
  have h0 : t.get! (j + s.size) = 0 := by
    rw [gd, List.getElem?_eq_none]
    · rfl
    · show t.data.toList.length ≤ _
      rw [Array.length_toList]
      show t.size ≤ _
      omega
  refine ⟨Nat.le_refl _, Vd.end_ (by omega), by omega, hb, fun c _ => ⟨?_, seg_end (by omega)⟩, by rw [h0]; decide⟩
  rw [rn_end (by omega), hz]
theorem emb_32 {s t : ByteArray} (h : t.get! s.size = 32) (hb : ∀ x, x < s.size → t.get! x = s.get! x) : Emb s s.size t 0 := by
  have hi := get_in (s := t) (i := s.size) (by rw [h]; decide)
  have h' : t.get! (0 + s.size) = 32 := by rw [Nat.zero_add]; exact h
  refine ⟨Nat.le_refl _, Vd.end_ (by omega), by omega, fun x hx => by rw [Nat.zero_add]; exact hb x hx, fun c hc => ?_, by rw [h']; decide⟩
  rcases hc with rfl | rfl | rfl <;> exact ⟨rn_n _ h' (by decide) (by decide) (by decide), seg_n _ h' (by decide) (by decide) (by decide)⟩
theorem toks_L {s : ByteArray} {l : List Tk} (hv : Vd s 0) (hr : Rn s 0 l) : Vd ((preM ++ s) ++ posL) 0 ∧ Rn ((preM ++ s) ++ posL) 0 (tksA ++ (l.map (shT 18) ++ tksB.map (shT (18 + s.size)))) := by
  have em := emb_mid (pre := preM) (s := s) (post := posL) (b := 10) rfl (.inr (.inl rfl))
  have hp := fun x h => mid_pre (pre := preM) (s := s) (post := posL) x h
  have hq := mid_post (pre := preM) (s := s) (post := posL)
  have hz : ((preM ++ s) ++ posL).size = 18 + s.size + 15 := mid_size
  change Emb s s.size ((preM ++ s) ++ posL) 18 at em
  generalize (preM ++ s) ++ posL = T at *
  have p17 : T.get! 17 = 32 := hp 17 (by decide)
  have q0 : T.get! (18 + s.size) = 10 := hq 0
  obtain ⟨vp, rp⟩ := rn_of_cut cut_pos
  have ep : Emb posL posL.size T (18 + s.size) := emb_end hz (fun x _ => hq x)
  have hze : 18 + s.size + posL.size = T.size := by rw [hz]; rfl
  have r1 := ep.run (fun c hc => by rw [hze]; exact rn_end (by omega)) (Vd.end_ (by omega)) (l2 := []) (by rw [hze]; exact rn_end0) tksB 0 (Nat.zero_le _) vp rp
  have v1 := ep.vd (Vd.end_ (by omega)) 0 (Nat.zero_le _) vp
  rw [Nat.add_zero] at r1 v1
  rw [List.append_nil] at r1
  have r2 := em.run (fun c _ => rn_n _ q0 (by decide) (by decide) (by decide)) v1 r1 l 0 (Nat.zero_le _) hv hr
  have v2 := em.vd v1 0 (Nat.zero_le _) hv
  rw [Nat.add_zero] at r2 v2
  have r3 := rn_32 p17 r2 v2
  have v3 : Vd T 17 := vd_y 32 p17 (by decide) (by decide) (by decide) v2
  have e0 : Emb preL preL.size T 0 := emb_32 p17 (fun x hx => by
    have hx' : x < 17 := hx
    rw [hp x (by show x < 18; omega)]
    have : ∀ x, x < 17 → preM.get! x = preL.get! x := by decide
    exact this x hx')
  obtain ⟨va, ra⟩ := rn_of_cut cut_pre
  have n35 : ∀ c, preL.get! c ≠ 35 := fun c h => by
    have hc : c < 17 := get_in (s := preL) (by rw [h]; decide)
    revert h
    have : ∀ c, c < 17 → ¬ preL.get! c = 35 := by decide
    exact this c hc
  have r4 := e0.run (fun c hc => absurd hc (n35 c)) (by rw [Nat.zero_add]; exact v3) (l2 := l.map (shT 18) ++ tksB.map (shT (18 + s.size))) (by rw [Nat.zero_add]; exact r3) tksA 0 (Nat.zero_le _) va ra
  have v4 := e0.vd (by rw [Nat.zero_add]; exact v3) 0 (Nat.zero_le _) va
  refine ⟨v4, ?_⟩
  have : tksA.map (shT 0) = tksA := by simp [shT]
  rw [this] at r4
  exact r4
theorem take_k {k : Int} {t : Tk} {L : List Tk} (h : t.kind = k) : takeK 0 k (t :: L) = .ok (t, L) := by
  unfold takeK
  rw [nxt0, bnd_ok]
  exact if_pos h
theorem must_k {x : ByteArray} {t : Tk} {L : List Tk} (h : isT x t = true) : mustS 0 x (t :: L) = .ok (t.at_, L) := by
  unfold mustS
  rw [nxt0, bnd_ok]
  exact if_pos h
theorem isT_5 (x : ByteArray) (n : Int) (a : Nat) : isT x ⟨5, x, n, a⟩ = true := by unfold isT; simp
theorem isT_6 (x : ByteArray) (n : Int) (a : Nat) : isT x ⟨6, x, n, a⟩ = true := by unfold isT; simp
theorem item_let_is {E A : Ps} {a : Nat} {L : List Tk} : itemP 0 E A (⟨6, k_let, 0, a⟩ :: L) = letP 0 E a L := by
  unfold itemP
  rw [nxt0, bnd_ok]
  show (if isT k_metric ⟨6, k_let, 0, a⟩ = true then _ else if isT k_reps ⟨6, k_let, 0, a⟩ = true then _ else if isT k_cooldown ⟨6, k_let, 0, a⟩ = true then _ else if isT k_let ⟨6, k_let, 0, a⟩ = true then _ else _) = _
  rw [isT_lit (by decide), isT_lit (by decide), isT_lit (by decide), isT_6]
  rfl
theorem item_dec_is {E A : Ps} {a : Nat} {L : List Tk} : itemP 0 E A (⟨6, k_decide, 0, a⟩ :: L) = decideP A a L := by
  unfold itemP
  rw [nxt0, bnd_ok]
  show (if isT k_metric ⟨6, k_decide, 0, a⟩ = true then _ else if isT k_reps ⟨6, k_decide, 0, a⟩ = true then _ else if isT k_cooldown ⟨6, k_decide, 0, a⟩ = true then _ else if isT k_let ⟨6, k_decide, 0, a⟩ = true then _ else if isT k_guard ⟨6, k_decide, 0, a⟩ = true then _ else if isT k_decide ⟨6, k_decide, 0, a⟩ = true then _ else _) = _
  rw [isT_lit (by decide), isT_lit (by decide), isT_lit (by decide), isT_lit (by decide), isT_lit (by decide), isT_6]
  rfl
theorem act_hold_is {d : Nat} {a : Nat} {L : List Tk} : actD 0 d (⟨6, k_hold, 0, a⟩ :: L) = .ok (tm 33 a [], L) := by
  rw [actD_eq]
  unfold actP
  rw [nxt0, bnd_ok]
  show (if isT k_hold ⟨6, k_hold, 0, a⟩ = true then _ else _) = _
  rw [isT_6]
  rfl
theorem lines {s : ByteArray} {t : Tm} (h : exprS s = .ok t) (hz : s.size ≤ 2000) : ∃ u a b c, polS ((preM ++ s) ++ posL) = .ok (⟨#[112]⟩, [⟨5, ⟨#[120]⟩, noB, 0, 0, 0, u, nilM, a⟩, ⟨7, noB, noB, 0, 0, 0, nilM, tm 33 b [], c⟩]) ∧ Al t u := by
  obtain ⟨hv, l, hr, hk, he⟩ := exprS_ok h
  obtain ⟨v1, r1⟩ := toks_L hv hr
  have hs : ((preM ++ s) ++ posL).size = 18 + s.size + 15 := mid_size
  have hrd := rn_rdS r1 v1 (by omega)
  unfold polS
  rw [hrd]
  simp only
  generalize ((preM ++ s) ++ posL).size = N at *
  generalize hj : 18 + s.size = j at *
  have hR := res_expr (deep := False) (total := False) (Rl := Cx (eoT s.size) (tksB.map (shT j) ++ [eoT N])) (fun hd => hd.elim) (lk_cx rfl (by simp) (.inl ⟨fun hf => hf, rfl, .inr rfl⟩)) 64 64 (.inl rfl) (l ++ [eoT s.size]) (l.map (shT 18) ++ (tksB.map (shT j) ++ [eoT N])) ⟨_, _, rfl, rfl, all2_shift 18 l hk⟩
  rw [he] at hR
  rcases hR with ⟨y', e1, ha, hc⟩ | ⟨hd, _⟩
  · obtain ⟨_, e2⟩ := cx_end hc rfl
    refine ⟨y'.1, 10, j + 10, j + 3, ?_, ha⟩
    have e3 : exprD 0 64 (l.map (shT 18) ++ (tksB.map (shT j) ++ [eoT N])) = .ok (y'.1, tksB.map (shT j) ++ [eoT N]) := by rw [e1, ← e2]
    have hL : tksA ++ (l.map (shT 18) ++ tksB.map (shT j)) ++ [eoT N] = ⟨6, k_policy, 0, 0⟩ :: ⟨1, ⟨#[112]⟩, 0, 7⟩ :: ⟨5, k_sem, 0, 8⟩ :: ⟨6, k_let, 0, 10⟩ :: ⟨1, ⟨#[120]⟩, 0, 14⟩ :: ⟨5, k_eq, 0, 16⟩ :: (l.map (shT 18) ++ (tksB.map (shT j) ++ [eoT N])) := by simp
    rw [hL]
    generalize hM : l.map (shT 18) ++ (tksB.map (shT j) ++ [eoT N]) = M at *
    unfold polP
    rw [must_k (isT_6 _ _ _), bnd_ok]
    dsimp only
    rw [take_k (k := 1) rfl, bnd_ok]
    dsimp only
    rw [must_k (isT_5 _ _ _), bnd_ok]
    have e4 : letP 0 (exprD 0 64) 10 (⟨1, ⟨#[120]⟩, 0, 14⟩ :: ⟨5, k_eq, 0, 16⟩ :: M) = .ok (itm 5 ⟨#[120]⟩ noB 0 0 0 y'.1 nilM 10, tksB.map (shT j) ++ [eoT N]) := by
      unfold letP
      rw [take_k (k := 1) rfl, bnd_ok]
      dsimp only
      rw [must_k (isT_5 _ _ _), bnd_ok]
      dsimp only
      rw [e3]
      rfl
    have e5 : tksB.map (shT j) ++ [eoT N] = ⟨5, k_sem, 0, j + 1⟩ :: ⟨6, k_decide, 0, j + 3⟩ :: ⟨6, k_hold, 0, j + 10⟩ :: ⟨5, k_sem, 0, j + 14⟩ :: [eoT N] := by simp [shT]
    show bnd (bnd (itemsP 0 (exprD 0 64) (actD 0 64) (M.length + 1 + 1 + 1) [] (⟨6, k_let, 0, 10⟩ :: ⟨1, ⟨#[120]⟩, 0, 14⟩ :: ⟨5, k_eq, 0, 16⟩ :: M)) _) _ = _
    rw [itemsP_succ, item_let_is, e4, bnd_ok]
    dsimp only
    rw [e5, must_k (isT_5 _ _ _), bnd_ok]
    show bnd (bnd (itemsP 0 (exprD 0 64) (actD 0 64) (M.length + 1 + 1) [itm 5 ⟨#[120]⟩ noB 0 0 0 y'.1 nilM 10] _) _) _ = _
    rw [itemsP_succ, item_dec_is]
    unfold decideP
    rw [act_hold_is, bnd_ok, bnd_ok]
    dsimp only
    rw [must_k (isT_5 _ _ _), bnd_ok]
    show bnd (bnd (.ok _) _) _ = _
    rw [bnd_ok, bnd_ok]
    unfold endP
    rw [nxt0, bnd_ok]
    exact if_pos rfl
  · exact hd.elim
end Go.Proofs.YtbhmffgmbabkkaaGreatDoor
