/- The document's answer: an item of a text. -/
import Derived.Test.YtddinknnaakmmaaDoorRCroS
import Derived.Deep.CutRange
namespace Go.Proofs.YtddinknnaakmmaaDoor
open Go.RowKit Go.Deep

/-- Between an item's head and what may stand behind it. -/
structure Mid (l : List UInt8) (n lo hi i a b : Nat) (wide : Bool) : Prop where
  eq : itemS l n lo hi = if wide = true then stepsS l i a b else .ok (2 ^ a, i)
  le : i ≤ l.length
  ab : a ≤ b
  lt : b < 64
  one : wide = false → a = b
/-- An item's numbers are known. -/
structure Fin2 (l : List UInt8) (n lo hi e a b k : Nat) : Prop where
  eq : itemS l n lo hi = .ok (evS a b k, e)
  k1 : 1 ≤ k
  k2 : k ≤ 99
theorem Mid.star {l : List UInt8} {n lo hi : Nat} (h : isB l n 42 = true) (hlh : lo ≤ hi) (h64 : hi < 64) : Mid l n lo hi (n + 1) lo hi true :=
  ⟨by unfold itemS; rw [if_pos h, if_pos rfl], by have := (isB_iff _ _ _).1 h; omega, hlh, h64, (fun e => by cases e)⟩
theorem item_none {l : List UInt8} {n lo hi : Nat} (h : isB l n 42 = false) (k : numS l n lo hi = none) : itemS l n lo hi = .error n := by
  unfold itemS; rw [if_neg (by rw [h]; decide), k]
theorem item_dash {l : List UInt8} {n lo hi a e : Nat} (h : isB l n 42 = false) (k : numS l n lo hi = some (a, e)) (hd : isB l e 45 = true) : itemS l n lo hi = match numS l (e + 1) a hi with | none => .error (e + 1) | some (b, f) => stepsS l f a b := by
  unfold itemS; rw [if_neg (by rw [h]; decide), k]; exact if_pos hd
theorem item_dash_no {l : List UInt8} {n lo hi a e : Nat} (h : isB l n 42 = false) (k : numS l n lo hi = some (a, e)) (hd : isB l e 45 = true) (q : numS l (e + 1) a hi = none) : itemS l n lo hi = .error (e + 1) := by
  rw [item_dash h k hd, q]
theorem Mid.range {l : List UInt8} {n lo hi a e b f : Nat} (h : isB l n 42 = false) (k : numS l n lo hi = some (a, e)) (hd : isB l e 45 = true) (q : numS l (e + 1) a hi = some (b, f)) (h64 : hi < 64) : Mid l n lo hi f a b true := by
  have := numS_some q
  exact ⟨by rw [item_dash h k hd, q, if_pos rfl], by omega, by omega, by omega, (fun e => by cases e)⟩
theorem Mid.single {l : List UInt8} {n lo hi a e : Nat} (h : isB l n 42 = false) (k : numS l n lo hi = some (a, e)) (hd : isB l e 45 = false) (h64 : hi < 64) : Mid l n lo hi e a a false := by
  have := numS_some k
  refine ⟨?_, by omega, Nat.le_refl _, by omega, fun _ => rfl⟩
  unfold itemS; rw [if_neg (by rw [h]; decide), k, if_neg (by decide)]; exact if_neg (by rw [hd]; decide)
theorem Mid.thin {l : List UInt8} {n lo hi i a b : Nat} (h : Mid l n lo hi i a b false) : Fin2 l n lo hi i a b 1 := by
  obtain rfl := h.one rfl
  refine ⟨?_, by decide, by decide⟩
  have := h.lt
  rw [h.eq, if_neg (by decide), evS_one h.lt]
theorem Mid.bare {l : List UInt8} {n lo hi i a b : Nat} (h : Mid l n lo hi i a b true) (k : isB l i 47 = false) : Fin2 l n lo hi i a b 1 := by
  refine ⟨?_, by decide, by decide⟩
  rw [h.eq, if_pos rfl]; unfold stepsS; rw [if_neg (by rw [k]; decide)]
theorem Mid.step {l : List UInt8} {n lo hi i a b k e : Nat} (h : Mid l n lo hi i a b true) (q : isB l i 47 = true) (r : numS l (i + 1) 1 99 = some (k, e)) : Fin2 l n lo hi e a b k := by
  have := numS_some r
  refine ⟨?_, by omega, by omega⟩
  rw [h.eq, if_pos rfl]; unfold stepsS; rw [if_pos q, r]
theorem Mid.bad {l : List UInt8} {n lo hi i a b : Nat} (h : Mid l n lo hi i a b true) (q : isB l i 47 = true) (r : numS l (i + 1) 1 99 = none) : itemS l n lo hi = .error (i + 1) := by
  rw [h.eq, if_pos rfl]; unfold stepsS; rw [if_pos q, r]
theorem Mid.thin' {l : List UInt8} {n lo hi i a b : Nat} (h : Mid l n lo hi i a b false) : itemS l n lo hi = .ok (evS a b 1, i) ∧ 1 ≤ 1 ∧ 1 ≤ 99 := ⟨h.thin.eq, h.thin.k1, h.thin.k2⟩
theorem Mid.bare' {l : List UInt8} {n lo hi i a b : Nat} (h : Mid l n lo hi i a b true) (k : isB l i 47 = false) : itemS l n lo hi = .ok (evS a b 1, i) ∧ 1 ≤ 1 ∧ 1 ≤ 99 := ⟨(h.bare k).eq, (h.bare k).k1, (h.bare k).k2⟩
theorem Mid.step' {l : List UInt8} {n lo hi i a b k e : Nat} (h : Mid l n lo hi i a b true) (q : isB l i 47 = true) (r : numS l (i + 1) 1 99 = some (k, e)) : itemS l n lo hi = .ok (evS a b k, e) ∧ 1 ≤ k ∧ k ≤ 99 := ⟨(h.step q r).eq, (h.step q r).k1, (h.step q r).k2⟩
theorem Mid.bad' {l : List UInt8} {n lo hi i a b : Nat} (h : Mid l n lo hi i a b true) (q : isB l i 47 = true) (r : numS l (i + 1) 1 99 = none) : itemS l n lo hi = .error (i + 1) := h.bad q r
theorem RItemPost.bad {x : Except Nat (Nat × Nat)} {S g p : Nat} {w : World} (h : x = .error p) (hb : Box w g (boolCells S)) : RItemPost x S g w (.returned (.tuple #[.int .i64 (p : Nat), .bool false])) w := by
  subst h; exact ⟨rfl, Marked.refl hb⟩
theorem RItemPost.good {x : Except Nat (Nat × Nat)} {S g z q : Nat} {w w' : World} (h : x = .ok (z, q)) (hm : Marked w g (S ||| z) w') : RItemPost x S g w (.returned (.tuple #[.int .i64 (q : Nat), .bool true])) w' := by
  subst h; exact ⟨rfl, hm⟩
theorem is_yes {s : ByteArray} {l : List UInt8} (hl : s.data.toList = l) {n : Nat} {c : Int} (h : isB l n c = true) : ∃ h0 : n < s.size, ((s[n]'h0).toNat : Int) = bt l n ∧ bt l n = c := by
  have hs : l.length = s.size := by rw [← hl]; rfl
  obtain ⟨h1, h2⟩ := (isB_iff _ _ _).1 h
  refine ⟨by omega, ?_, h2⟩
  have := bt_get s n (by omega)
  rwa [hl] at this
theorem is_no {s : ByteArray} {l : List UInt8} (hl : s.data.toList = l) {n : Nat} {c : Int} (h : isB l n c = false) : s.size ≤ n ∨ ∃ h0 : n < s.size, ((s[n]'h0).toNat : Int) = bt l n ∧ bt l n ≠ c := by
  have hs : l.length = s.size := by rw [← hl]; rfl
  have h1 := (isB_no _ _ _).1 h
  by_cases hn : n < s.size
  · right
    have := bt_get s n hn
    rw [hl] at this
    exact ⟨hn, this, fun k => h1 ⟨by omega, k⟩⟩
  · exact .inl (by omega)
set_option maxRecDepth 20000 in
set_option maxHeartbeats 8000000 in
theorem ritem_any (s : ByteArray) (l : List UInt8) (hl : s.data.toList = l) (hz : s.size ≤ 256) (n f : Nat) (hn : n ≤ s.size) (hf : f < 5) (S g : Nat) (w : World) (hb : Box w g (boolCells S)) :
    Calls Tryd.prog 23 #[.string s, .int .i64 n, .int .i64 f, boolsV g] w (RItemPost (itemS l n (lowN f) (highN f)) S g w) := by
  have hs : l.length = s.size := by rw [← hl]; rfl
  have hL := Low_any f hf
  have hH := High_any f hf
  have hlh := low_high f
  have h64 := highN_lt f
  generalize lowN f = lo at *
  generalize highN f = hi at *
  have HL : Hid _ := hL
  have HH : Hid _ := hH
  have hnum := fun i lo hi hi0 h1 h2 wx => rnumber_any s l hl hz i lo hi hi0 h1 h2 wx
  have HNUM : Hid _ := hnum
  have HB : Hid _ := hb
  clear hL hH hnum hb
  go_enter Tryd.func23, Tryd.ntmps23
  go_wp2_with fail
  refine (HL.out _).mono ?_
  rintro e w1 ⟨rfl, rfl⟩
  go_wp2_with fail
  refine (HH.out _).mono ?_
  rintro e w1 ⟨rfl, rfl⟩
  clear HL HH
  go_upto_region 6 with fail
  generalize hxb : isB l n 42 = xb at *
  have HXB : Hid _ := hxb
  clear hxb
  go_cut [29] from 16 (fun s29 wc => s29 = .bool xb ∧ w = wc)
  case first =>
    cases xb with
    | true =>
      obtain ⟨x0, x1, x2⟩ := is_yes hl HXB.out
      have x3 : (n : Int) < (s.size : Int) := by omega
      have x4 : (bt l n == 42) = true := beq_iff_eq.2 x2
      clear x2 HXB
      generalize bt l n = cx at *
      go_wp2_with fail
      go_meet
      exact ⟨rfl, rfl⟩
    | false =>
      rcases is_no hl HXB.out with x0 | ⟨x0, x1, x2⟩
      · have x3 : ¬ (n : Int) < (s.size : Int) := by omega
        clear HXB
        go_wp2_with fail
        go_meet
        exact ⟨rfl, rfl⟩
      · have x3 : (n : Int) < (s.size : Int) := by omega
        have x4 : (bt l n == 42) = false := beq_eq_false_iff_ne.2 x2
        clear x2 HXB
        generalize bt l n = cx at *
        go_wp2_with fail
        go_meet
        exact ⟨rfl, rfl⟩
  case rest =>
    obtain ⟨rfl, rfl⟩ := hcut
    go_upto_if 29 with fail
    go_cut [1, 10, 11, 12, 14] from 16 (fun s1 s10 s11 s12 s14 wc => ∃ (i a b : Nat) (wd : Bool), s1 = .int .i64 i ∧ s10 = .int .i64 a ∧ s11 = .int .i64 b ∧ s12 = .int .i64 1 ∧ s14 = .bool wd ∧ Mid l n lo hi i a b wd ∧ w = wc)
    case first =>
      cases xb with
      | true =>
        have HM : Hid _ := Mid.star (lo := lo) (hi := hi) HXB.out hlh h64
        clear HXB HNUM
        go_wp2_with fail
        go_meet
        exact ⟨n + 1, lo, hi, true, by go_num, rfl, rfl, rfl, rfl, HM.out, rfl⟩
      | false =>
        have hN := fun wx => HNUM.out n lo hi hn (by omega) (by omega) wx
        unfold RNumPost at hN
        cases hk : numS l n lo hi with
        | none =>
          rw [hk] at hN
          simp only [rnumV] at hN
          have H1 : Hid _ := hN
          have HE : Hid _ := item_none HXB.out hk
          clear hN hk HXB HNUM
          go_wp2_with fail
          refine (H1.out _).mono ?_
          rintro e w2 ⟨rfl, rfl⟩
          go_wp2_with fail
          go_ret2
          exact RItemPost.bad HE.out HB.out
        | some af =>
          obtain ⟨a, e⟩ := af
          rw [hk] at hN
          simp only [rnumV] at hN
          have hq := numS_some hk
          have H1 : Hid _ := hN
          have HK : Hid _ := hk
          have ha64 : a < 64 := by omega
          have hel : e ≤ s.size := by omega
          clear hN hk hq
          go_wp2_with fail
          refine (H1.out _).mono ?_
          rintro e2 w2 ⟨rfl, rfl⟩
          go_upto_region 11 with fail
          generalize hyb : isB l e 45 = yb at *
          have HYB : Hid _ := hyb
          clear hyb H1
          go_cut [14] from 16 (fun s14 wc => s14 = .bool yb ∧ w = wc)
          case first =>
            cases yb with
            | true =>
              obtain ⟨y0, y1, y2⟩ := is_yes hl HYB.out
              have y3 : (e : Int) < (s.size : Int) := by omega
              have y4 : (bt l e == 45) = true := beq_iff_eq.2 y2
              clear y2 HYB
              generalize bt l e = cy at *
              go_wp2_with fail
              go_meet
              exact ⟨rfl, rfl⟩
            | false =>
              rcases is_no hl HYB.out with y0 | ⟨y0, y1, y2⟩
              · have y3 : ¬ (e : Int) < (s.size : Int) := by omega
                clear HYB
                go_wp2_with fail
                go_meet
                exact ⟨rfl, rfl⟩
              · have y3 : (e : Int) < (s.size : Int) := by omega
                have y4 : (bt l e == 45) = false := beq_eq_false_iff_ne.2 y2
                clear y2 HYB
                generalize bt l e = cy at *
                go_wp2_with fail
                go_meet
                exact ⟨rfl, rfl⟩
          case rest =>
            obtain ⟨rfl, rfl⟩ := hcut
            cases yb with
            | false =>
              have HM : Hid _ := Mid.single HXB.out HK.out HYB.out h64
              clear HXB HK HYB HNUM
              go_wp2_with fail
              go_meet
              exact ⟨e, a, a, false, rfl, rfl, rfl, rfl, rfl, HM.out, rfl⟩
            | true =>
              have hel2 := ((isB_iff _ _ _).1 HYB.out).1
              have h2 := fun wx => HNUM.out (e + 1) a hi (by omega) (by omega) (by omega) wx
              rw [show ((e + 1 : Nat) : Int) = (e : Int) + 1 by omega] at h2
              unfold RNumPost at h2
              cases hk2 : numS l (e + 1) a hi with
              | none =>
                rw [hk2] at h2
                simp only [rnumV] at h2
                have H2 : Hid _ := h2
                have HE : Hid _ := item_dash_no HXB.out HK.out HYB.out hk2
                clear h2 hk2 HXB HK HYB HNUM
                go_wp2_with fail
                refine (H2.out _).mono ?_
                rintro e2 w2 ⟨rfl, rfl⟩
                go_wp2_with fail
                go_ret2
                exact RItemPost.bad HE.out HB.out
              | some bf =>
                obtain ⟨b, f2⟩ := bf
                rw [hk2] at h2
                simp only [rnumV] at h2
                have H2 : Hid _ := h2
                have HM : Hid _ := Mid.range HXB.out HK.out HYB.out hk2 h64
                clear h2 hk2 HXB HK HYB HNUM
                go_wp2_with fail
                refine (H2.out _).mono ?_
                rintro e2 w2 ⟨rfl, rfl⟩
                go_wp2_with fail
                go_meet
                exact ⟨f2, a, b, true, rfl, rfl, rfl, rfl, rfl, HM.out, rfl⟩
    case rest =>
      obtain ⟨i, a, b, wd, rfl, rfl, rfl, rfl, rfl, hmid, rfl⟩ := hcut
      have hil := hmid.le
      have hab := hmid.ab
      have hb64 := hmid.lt
      have HMID : Hid _ := hmid
      clear hmid HXB
      go_upto_region 17 with fail
      generalize hzb : isB l i 47 = zb at *
      have HZB : Hid _ := hzb
      clear hzb
      go_cut [81] from 16 (fun s81 wc => s81 = .bool (wd && zb) ∧ w = wc)
      case first =>
        cases wd with
        | false =>
          clear HZB
          go_wp2_with fail
          go_meet
          exact ⟨rfl, rfl⟩
        | true =>
          cases zb with
          | true =>
            obtain ⟨z0, z1, z2⟩ := is_yes hl HZB.out
            have z3 : (i : Int) < (s.size : Int) := by omega
            have z4 : (bt l i == 47) = true := beq_iff_eq.2 z2
            clear z2 HZB
            generalize bt l i = cz at *
            go_wp2_with fail
            go_meet
            exact ⟨rfl, rfl⟩
          | false =>
            rcases is_no hl HZB.out with z0 | ⟨z0, z1, z2⟩
            · have z3 : ¬ (i : Int) < (s.size : Int) := by omega
              clear HZB
              go_wp2_with fail
              go_meet
              exact ⟨rfl, rfl⟩
            · have z3 : (i : Int) < (s.size : Int) := by omega
              have z4 : (bt l i == 47) = false := beq_eq_false_iff_ne.2 z2
              clear z2 HZB
              generalize bt l i = cz at *
              go_wp2_with fail
              go_meet
              exact ⟨rfl, rfl⟩
      case rest =>
        obtain ⟨rfl, rfl⟩ := hcut
        go_upto_if 81 with fail
        go_cut [1, 12] from 16 (fun s1 s12 wc => ∃ (e k : Nat), s1 = .int .i64 e ∧ s12 = .int .i64 k ∧ (itemS l n lo hi = .ok (evS a b k, e) ∧ 1 ≤ k ∧ k ≤ 99) ∧ w = wc)
        case first =>
          cases wd with
          | false =>
            have HF : Hid _ := HMID.out.thin'
            clear HZB HMID HNUM
            rw [Bool.false_and]
            go_wp2_with fail
            go_meet
            exact ⟨i, 1, rfl, rfl, HF.out, rfl⟩
          | true =>
            cases zb with
            | false =>
              have HF : Hid _ := HMID.out.bare' HZB.out
              clear HZB HMID HNUM
              go_wp2_with fail
              go_meet
              exact ⟨i, 1, rfl, rfl, HF.out, rfl⟩
            | true =>
              have hil2 := ((isB_iff _ _ _).1 HZB.out).1
              have h2 := fun wx => HNUM.out (i + 1) 1 99 (by omega) (by omega) (by omega) wx
              rw [show ((i + 1 : Nat) : Int) = (i : Int) + 1 by omega] at h2
              unfold RNumPost at h2
              cases hk2 : numS l (i + 1) 1 99 with
              | none =>
                rw [hk2] at h2
                simp only [rnumV] at h2
                have H2 : Hid _ := h2
                have HE : Hid _ := HMID.out.bad' HZB.out hk2
                clear h2 hk2 HZB HMID HNUM
                go_wp2_with fail
                refine (H2.out _).mono ?_
                rintro e2 w2 ⟨rfl, rfl⟩
                go_wp2_with fail
                go_ret2
                exact RItemPost.bad HE.out HB.out
              | some bf =>
                obtain ⟨k, f2⟩ := bf
                rw [hk2] at h2
                simp only [rnumV] at h2
                have H2 : Hid _ := h2
                have HF : Hid _ := HMID.out.step' HZB.out hk2
                clear h2 hk2 HZB HMID HNUM
                go_wp2_with fail
                refine (H2.out _).mono ?_
                rintro e2 w2 ⟨rfl, rfl⟩
                go_wp2_with fail
                go_meet
                exact ⟨f2, k, rfl, rfl, HF.out, rfl⟩
        case rest =>
          obtain ⟨e, k, rfl, rfl, ⟨hX, hk1, hk9⟩, rfl⟩ := hcut
          have HX : Hid _ := hX
          clear hX HMID HZB HNUM
          go_wp2_with fail
          go_loopw [15] (fun p wr => ∃ m : Nat, p = .int .i64 m ∧ a ≤ m ∧ (m - a) % k = 0 ∧ m ≤ b + k ∧ Marked w g (S ||| evUp a k m) wr) (fun p _ => (300 - intOf p).toNat)
          case atStart => exact ⟨a, rfl, Nat.le_refl _, by simp, by omega, by rw [evUp_first, Nat.or_zero]; exact Marked.refl HB.out⟩
          case round =>
            obtain ⟨m, rfl, m0, hmod, m1, hmk⟩ := hrel
            by_cases hlt : m ≤ b
            · have k1 : (m : Int) ≤ (b : Int) := by omega
              have k2 : (m : Int) < 64 := by omega
              obtain ⟨c0, c1⟩ := hmk.at m (by omega)
              have hp := hmk.put m (by omega)
              have en := evUp_next a k m m0 hmod hk1 (by omega)
              rw [Nat.or_assoc, en] at hp
              have hm' : (m + k - a) % k = 0 := by rw [show m + k - a = (m - a) + k by omega, Nat.add_mod_right]; exact hmod
              have HP : Hid _ := hp
              have HM' : Hid _ := hm'
              clear hp hm' en hmod hmk
              generalize (S ||| evUp a k m).testBit m = bb at *
              go_wp2_with fail
              exact ⟨⟨m + k, by go_num, by omega, HM'.out, by omega, HP.out⟩, by simp [intOf]; omega⟩
            · have k1 : ¬ (m : Int) ≤ (b : Int) := by omega
              have ee := evUp_end a b k m m0 hmod (by omega) m1 hab
              rw [ee] at hmk
              have HM2 : Hid _ := hmk
              clear hmk ee hmod
              go_wp2_with fail
              go_ret2
              exact RItemPost.good HX.out HM2.out
end Go.Proofs.YtddinknnaakmmaaDoor
