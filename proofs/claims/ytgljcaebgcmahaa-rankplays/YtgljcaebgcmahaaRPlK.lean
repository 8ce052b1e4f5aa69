/- The walk of the statement RankPlays. -/
import Derived.Test.YtgljcaebgcmahaaRkL
import Derived.Test.YtgljcaebgcmahaaRfW
namespace Go.Proofs.Ytgljcaebgcmahaa
open Go.RowKit

/-- A rank of the call's own, and beside it a list of the call's own. -/
structure Duo (B : Nat) (w : World) (b g : Nat) (S : List Int) (lv : Value) (L : List Int) : Prop where
  own : Own B w b g S
  ls : (lv = .slice none 0 0 ∧ L = []) ∨ ∃ gl J, gl ≠ b ∧ gl ≠ g ∧ B ≤ gl ∧ BAt w gl lv L J
theorem Duo.next {B : Nat} {w w' : World} {b g : Nat} {S L : List Int} {lv : Value} (x : Duo B w b g S lv L) (t : Below w.heap.size w w') : Duo B w' b g S lv L :=
  ⟨x.own.next t, x.ls.imp_right (fun h => h.elim fun gl h => h.elim fun J h => ⟨gl, J, h.1, h.2.1, h.2.2.1, h.2.2.2.next t⟩)⟩
theorem Duo.turns {B : Nat} {w w' : World} {b g : Nat} {S S' L : List Int} {lv : Value} (x : Duo B w b g S lv L) (ha : Asc S') (t : Turns w b g S' w') : ∃ g', Duo B w' b g' S' lv L ∧ Below B w w' := by
  obtain ⟨g', h1, h2, h3⟩ := t
  have o := x.own.own
  have s := x.own.start
  have z := h2.size
  refine ⟨g', ⟨⟨h1, ha, by omega, by omega⟩, ?_⟩, h2.below (by simp; omega) s⟩
  rcases x.ls with e | ⟨gl, J, e1, e2, e3, e4⟩
  · exact .inl e
  · have := e4.blk.lt
    exact .inr ⟨gl, J, e1, by omega, e3, e4.turn h2 (by simp [e1, e2])⟩
theorem Duo.rd {B : Nat} {w : World} {b g : Nat} {S L : List Int} {lv : Value} (x : Duo B w b g S lv L) : Rd w lv L := by
  rcases x.ls with ⟨rfl, rfl⟩ | ⟨gl, J, _, _, _, e⟩
  · exact ⟨none, 0, rfl, .inl rfl⟩
  · exact e.rd
theorem Duo.shape {B : Nat} {w : World} {b g : Nat} {S L : List Int} {lv : Value} (x : Duo B w b g S lv L) : ∃ a c, lv = .slice a L.length c ∧ L.length ≤ c := by
  rcases x.ls with ⟨rfl, rfl⟩ | ⟨gl, J, _, _, _, e⟩
  · exact ⟨none, 0, rfl, Nat.le_refl _⟩
  · exact ⟨_, _, e.val, by omega⟩
theorem Duo.pick {B : Nat} {w : World} {b g : Nat} {S L : List Int} {lv : Value} (x : Duo B w b g S lv L) : ∃ gl, (gl ≠ b ∧ gl ≠ g ∧ B ≤ gl) ∧ ((lv = .slice none 0 0 ∧ L = []) ∨ ∃ J, BAt w gl lv L J) := by
  have l1 := x.own.rk.lt
  have l2 := x.own.rk.glt
  have l3 := x.own.start
  rcases x.ls with e | ⟨gl, J, e1, e2, e3, e4⟩
  · exact ⟨w.heap.size, ⟨by omega, by omega, l3⟩, .inl e⟩
  · exact ⟨gl, ⟨e1, e2, e3⟩, .inr ⟨J, e4⟩⟩
theorem Duo.grown {B : Nat} {w wa w2 : World} {b g gl : Nat} {S L X : List Int} {lv lv2 : Value} (x : Duo B w b g S lv L) (hg : gl ≠ b ∧ gl ≠ g ∧ B ≤ gl) (hwa : Below w.heap.size w wa) (h3 : Apd wa gl lv lv2 X w2) : Duo B w2 b g S lv2 X ∧ Below B w w2 := by
  have l1 := x.own.rk.lt
  have l2 := x.own.rk.glt
  have l3 := x.own.start
  have sa := hwa.size
  have xa := x.own.next hwa
  rcases h3 with ⟨e1, e2, rfl⟩ | ⟨J', h4, h5, _⟩ | ⟨g', J', h4, h5, h6⟩
  · exact ⟨⟨xa, .inl ⟨e1, e2⟩⟩, hwa.mono l3⟩
  · exact ⟨⟨⟨xa.rk.turn h5 (by simp; omega) (by simp; omega), x.own.asc, x.own.own, by have := h5.size; omega⟩, .inr ⟨gl, J', hg.1, hg.2.1, hg.2.2, h4⟩⟩, (hwa.mono l3).trans (h5.below (by simpa using hg.2.2) (by omega))⟩
  · exact ⟨⟨xa.next h5, .inr ⟨g', J', by omega, by omega, by omega, h4⟩⟩, (hwa.mono l3).trans (h5.mono (by omega))⟩
theorem Duo.renew {B : Nat} {w w2 : World} {b g : Nat} {S L X : List Int} {lv lv2 : Value} (x : Duo B w b g S lv L) (h : Sorts w.heap.size w2 lv2 X) (t : Below w.heap.size w w2) : Duo B w2 b g S lv2 X := by
  have l1 := x.own.rk.lt
  have l2 := x.own.rk.glt
  have l3 := x.own.start
  refine ⟨x.own.next t, ?_⟩
  rcases h with h | ⟨gl, J, h1, h2⟩
  · exact .inl h
  · exact .inr ⟨gl, J, by omega, by omega, by omega, h2⟩
/-- The argument is a slice of calls: kinds O and numbers V. -/
def IsOps (w : World) (a : Option Addr) (len : Nat) (O V : Nat → Int) : Prop := len = 0 ∨ ∃ b off, a = some ⟨b, off, none⟩ ∧ b < w.heap.size ∧ ∀ i, i < len → w.cell? ⟨b, off + i * 2, none⟩ = some (.int .i64 (O i)) ∧ w.cell? ⟨b, off + i * 2 + 1, none⟩ = some (.int .i64 (V i))
/-- The state ahead of each round. -/
def Plays (w : World) (len b : Nat) (p q : Value) (wr : World) : Prop := ∃ (k g : Nat) (L : List Int), q = .int .i64 (k : Nat) ∧ k ≤ len ∧ L.length ≤ 300 ∧ Duo w.heap.size wr b g (srt L) p L ∧ Below w.heap.size w wr
set_option maxRecDepth 20000 in
set_option maxHeartbeats 4000000 in
theorem rankPlays_any (a : Option Addr) (len cap : Nat) (O V : Nat → Int) (w : World) (hO : IsOps w a len O V) (hl : len ≤ 8796093022208) :
    Calls Try.prog 3 #[.slice a len cap] w fun e w' => e = .returned (.bool true) ∧ Below w.heap.size w w' := by
  have HO := hid hO
  clear hO
  go_enter Try.func3, Try.ntmps3
  go_wp2_with fail
  refine (awake_any w).mono ?_
  rintro e w1 ⟨rfl, hb1⟩
  go_wp2_with fail
  refine Calls.mono (oNew w1 w.heap.size hb1.size) ?_
  rintro e w2 ⟨rfl, hm2, hb2⟩
  obtain ⟨b, hb⟩ : ∃ b, b = w1.heap.size := ⟨_, rfl⟩
  have HW2 := hid (hb1.trans (hb2.mono hb1.size))
  rw [← hb] at hm2 ⊢
  have HM2 := hid hm2
  clear hm2 hb1 hb2 hb
  go_wp2_with fail
  go_loopw [4, 5] (fun p q wr => Plays w len b p q wr) (fun _ q _ => len - (intOf q).toNat)
  case atStart => exact ⟨0, b, [], rfl, by omega, by simp, ⟨HM2.out, .inl ⟨rfl, rfl⟩⟩, HW2.out⟩
  case round =>
    obtain ⟨k, g, L, rfl, hk, hL, hD, hB⟩ := hrel
    obtain ⟨al, cl, rfl, hcl⟩ := hD.shape
    obtain ⟨n, hn⟩ : ∃ n, n = L.length := ⟨_, rfl⟩
    rw [← hn] at hL hcl hD ⊢
    have HD := hid hD
    have HB := hid hB
    have HN := hid hn
    have HSL := hid (show (srt L).length = n by rw [srt_length, hn])
    clear hD hB hn HM2 HW2
    by_cases hend : k < len ∧ n < 300
    · obtain ⟨hlt, hn3⟩ := hend
      have hlt' : (k : Int) < (len : Int) := by omega
      have hn3' : (n : Int) < 300 := by omega
      rcases HO.out with h0 | ⟨sb, off, rfl, hbl, hcell⟩
      · omega
      obtain ⟨e0, e1⟩ := hcell k hlt
      have c0 := (HB.out.cell (p := ⟨sb, off + k * 2, none⟩) hbl).trans e0
      have c1 := (HB.out.cell (p := ⟨sb, off + k * 2 + 1, none⟩) hbl).trans e1
      obtain ⟨v, hv⟩ : ∃ v, v = V k := ⟨_, rfl⟩
      obtain ⟨kd, hkd⟩ : ∃ kd, kd = O k := ⟨_, rfl⟩
      rw [← hv] at c1
      rw [← hkd] at c0
      clear e0 e1 hcell hv hkd
      by_cases k1 : kd = 1
      · subst k1
        go_wp2_with fail
        refine Calls.mono (rPut b g (srt L) v wr HD.out.own.rk HD.out.own.asc (by rw [HSL.out]; omega)) ?_
        rintro e w4 ⟨rfl, h4⟩
        obtain ⟨g4, d4, t4⟩ := HD.out.turns (ins_asc HD.out.own.asc v) h4
        rw [← srt_snoc] at d4
        have HD4 := hid d4
        have HT4 := hid t4
        obtain ⟨gl, hgl, hso⟩ := d4.pick
        have HSO := hid hso
        clear h4 d4 t4 c0 c1 hso
        go_wp2_with (at_builtin; refine wpList_append_b _ rfl _ _ rfl gl (.slice al n cl) L rfl (HSO.out.imp_right (fun h => h.elim fun J h => ⟨J, h.next ((Below.refl _ _).alloc (Nat.le_refl _) _)⟩)) (.slice (some ⟨w4.heap.size, 0, none⟩) 1 1) [v] rfl (cell_arg_one w4 v) (by have := HN.out; simp; omega) ?_; intro lv2 w5 h2; obtain ⟨d5, t5⟩ := HD4.out.grown hgl ((Below.refl _ _).alloc (Nat.le_refl _) _) h2; obtain ⟨al5, cl5, hv5⟩ := h2.shape; rw [List.length_append, ← HN.out] at hv5; simp only [List.length_cons, List.length_nil, Nat.zero_add] at hv5; subst hv5; have HD5 := hid d5; have HT5 := hid t5; clear h2 d5 t5 HSO)
        refine Calls.mono (rLen b g4 _ w5 HD5.out.own.rk) ?_
        rintro e w6 ⟨rfl, rfl⟩
        rw [show ((srt (L ++ [v])).length : Int) = ((n + 1 : Nat) : Int) by rw [srt_length, List.length_append, ← HN.out]; rfl]
        go_wp2_with fail
        exact ⟨⟨k + 1, g4, L ++ [v], by simp, by omega, by have := HN.out; simp; omega, HD5.out, (HB.out.trans HT4.out).trans HT5.out⟩, by simp [intOf]; omega⟩
      by_cases k2 : kd = 2
      · subst k2
        by_cases hvL : v ∈ L
        · have hvS : v ∈ srt L := (srt_perm L).mem_iff.2 hvL
          have HVL := hid hvL
          have HVS := hid hvS
          clear hvL hvS
          go_wp2_with fail
          refine Calls.mono (rTake_yes b g (srt L) v wr HD.out.own.rk HD.out.own.asc (by rw [HSL.out]; omega) HVS.out) ?_
          rintro e w4 ⟨rfl, h4⟩
          obtain ⟨g4, d4, t4⟩ := HD.out.turns (rem_asc HD.out.own.asc v) h4
          rw [rem_srt HVL.out] at d4
          have HD4 := hid d4
          have HT4 := hid t4
          clear h4 d4 t4 c0 c1
          go_wp2_with fail
          refine Calls.mono (fWithout_yes al n cl L v w4 HD4.out.rd HN.out hcl (by omega) HVL.out) ?_
          rintro e w5 ⟨lv5, rfl, s5, t5⟩
          have d5 := HD4.out.renew s5 t5
          obtain ⟨al5, cl5, rfl, hcl5⟩ := d5.shape
          obtain ⟨X, hX⟩ : ∃ X, X = L.erase v := ⟨_, rfl⟩
          obtain ⟨n5, hn5⟩ : ∃ n5, n5 = X.length := ⟨_, rfl⟩
          have hn53 : n5 ≤ 300 := by have := List.length_erase_of_mem HVL.out; rw [← hX] at this; have := HN.out; omega
          rw [← hX, ← hn5] at d5 ⊢
          have HD5 := hid d5
          have HT5 := hid t5
          have HS5 := hid (show (srt X).length = n5 by rw [srt_length, hn5])
          clear d5 t5 s5 hX hn5 hcl5
          go_wp2_with fail
          refine Calls.mono (rLen b g4 _ w5 HD5.out.own.rk) ?_
          rintro e w6 ⟨rfl, rfl⟩
          rw [HS5.out]
          go_wp2_with fail
          exact ⟨⟨k + 1, g4, X, by simp, by omega, by have := HS5.out; rw [srt_length] at this; omega, HD5.out, (HB.out.trans HT4.out).trans (HT5.out.mono HD4.out.own.start)⟩, by simp [intOf]; omega⟩
        · have hvS : v ∉ srt L := fun h => hvL ((srt_perm L).mem_iff.1 h)
          have HVL := hid hvL
          have HVS := hid hvS
          clear hvL hvS
          go_wp2_with fail
          refine Calls.mono (rTake_no b g (srt L) v wr HD.out.own.rk HD.out.own.asc (by rw [HSL.out]; omega) HVS.out) ?_
          rintro e w4 ⟨rfl, t4⟩
          have HD4 := hid (HD.out.next t4)
          have HT4 := hid t4
          clear t4 c0 c1
          go_wp2_with fail
          refine Calls.mono (fWithout_no al n cl L v w4 HD4.out.rd HN.out (by omega) HVL.out) ?_
          rintro e w5 ⟨rfl, rfl⟩
          go_wp2_with fail
          refine Calls.mono (rLen b g _ w4 HD4.out.own.rk) ?_
          rintro e w6 ⟨rfl, rfl⟩
          rw [HSL.out]
          go_wp2_with fail
          exact ⟨⟨k + 1, g, L, by simp, by omega, by have := HN.out; omega, HD4.out, HB.out.trans (HT4.out.mono HB.out.size)⟩, by simp [intOf]; omega⟩
      by_cases k3 : kd = 3
      · subst k3
        by_cases hv : v < 0 ∨ (n : Int) ≤ v
        · have HV := hid hv
          clear hv
          go_wp2_with fail
          refine Calls.mono (rAt_no b g (srt L) v wr HD.out.own.rk (by rw [HSL.out]; exact HV.out)) ?_
          rintro e w4 ⟨rfl, rfl⟩
          go_wp2_with fail
          refine Calls.mono (fAt_no _ L v wr HD.out.rd (by rw [← HN.out]; exact HV.out)) ?_
          rintro e w4 ⟨rfl, rfl⟩
          go_wp2_with fail
          refine Calls.mono (rLen b g _ wr HD.out.own.rk) ?_
          rintro e w6 ⟨rfl, rfl⟩
          rw [HSL.out]
          clear c0 c1
          go_wp2_with fail
          exact ⟨⟨k + 1, g, L, by simp, by omega, by have := HN.out; omega, HD.out, HB.out⟩, by simp [intOf]; omega⟩
        · obtain ⟨i, rfl⟩ : ∃ i : Nat, v = (i : Int) := ⟨v.toNat, by omega⟩
          obtain ⟨y, hy⟩ : ∃ y, (srt L)[i]? = some y := ⟨_, List.getElem?_eq_getElem (by rw [HSL.out]; omega)⟩
          have HY := hid hy
          have hyy : (y != y) = false := by simp
          clear hv hy
          go_wp2_with fail
          refine Calls.mono (rAt_yes b g (srt L) i y wr HD.out.own.rk HY.out) ?_
          rintro e w4 ⟨rfl, rfl⟩
          go_wp2_with fail
          refine Calls.mono (fAt_yes _ L i y wr HD.out.rd HY.out (by have := HN.out; omega)) ?_
          rintro e w4 ⟨rfl, m4, rfl⟩
          have HD4 := hid (HD.out.next (drewN_below wr m4))
          have HB4 := hid (HB.out.trans ((drewN_below wr m4).mono HB.out.size))
          clear c0 c1 HD HB
          generalize wr.drewN m4 = W4 at *
          go_wp2_with fail
          refine Calls.mono (rLen b g _ W4 HD4.out.own.rk) ?_
          rintro e w6 ⟨rfl, rfl⟩
          rw [HSL.out]
          go_wp2_with fail
          exact ⟨⟨k + 1, g, L, by simp, by omega, by have := HN.out; omega, HD4.out, HB4.out⟩, by simp [intOf]; omega⟩
      by_cases k4 : kd = 4
      · subst k4
        by_cases hv : n = 0 ∨ v < 1 ∨ 100000000 < v
        · have HV := hid hv
          clear hv
          go_wp2_with fail
          refine Calls.mono (rBy_no b g (srt L) v wr HD.out.own.rk (HV.out.imp_left (fun e => List.eq_nil_of_length_eq_zero (by rw [HSL.out]; exact e)))) ?_
          rintro e w4 ⟨rfl, rfl⟩
          go_wp2_with fail
          refine Calls.mono (fBy_no _ L v wr HD.out.rd (HV.out.imp_left (fun e => List.eq_nil_of_length_eq_zero (by rw [← HN.out]; exact e)))) ?_
          rintro e w4 ⟨rfl, rfl⟩
          go_wp2_with fail
          refine Calls.mono (rLen b g _ wr HD.out.own.rk) ?_
          rintro e w6 ⟨rfl, rfl⟩
          rw [HSL.out]
          clear c0 c1
          go_wp2_with fail
          exact ⟨⟨k + 1, g, L, by simp, by omega, by have := HN.out; omega, HD.out, HB.out⟩, by simp [intOf]; omega⟩
        · have v1 : 1 ≤ v := by omega
          have v2 : v ≤ 100000000 := by omega
          obtain ⟨n1, n2, -⟩ := nearest_bounds v1 v2 (show 0 < n by omega)
          obtain ⟨y, hy⟩ : ∃ y, (srt L)[nearest v n - 1]? = some y := ⟨_, List.getElem?_eq_getElem (by rw [HSL.out]; omega)⟩
          have HY := hid hy
          have hyy : (y != y) = false := by simp
          clear hv hy n1 n2
          go_wp2_with fail
          refine Calls.mono (rBy_yes b g (srt L) v y wr HD.out.own.rk v1 v2 (by rw [HSL.out]; omega) (by rw [HSL.out]; exact HY.out)) ?_
          rintro e w4 ⟨rfl, rfl⟩
          go_wp2_with fail
          refine Calls.mono (fBy_yes _ L v y wr HD.out.rd v1 v2 (by have := HN.out; omega) (by rw [← HN.out]; exact HY.out)) ?_
          rintro e w4 ⟨rfl, m4, rfl⟩
          have HD4 := hid (HD.out.next (drewN_below wr m4))
          have HB4 := hid (HB.out.trans ((drewN_below wr m4).mono HB.out.size))
          clear c0 c1 HD HB
          generalize wr.drewN m4 = W4 at *
          go_wp2_with fail
          refine Calls.mono (rLen b g _ W4 HD4.out.own.rk) ?_
          rintro e w6 ⟨rfl, rfl⟩
          rw [HSL.out]
          go_wp2_with fail
          exact ⟨⟨k + 1, g, L, by simp, by omega, by have := HN.out; omega, HD4.out, HB4.out⟩, by simp [intOf]; omega⟩
      by_cases k5 : kd = 5
      · subst k5
        go_wp2_with fail
        refine Calls.mono (rList b g (srt L) wr HD.out.own.rk (by rw [HSL.out]; omega)) ?_
        rintro e w4 ⟨la, rfl, hma⟩
        have HMA := hid hma
        have HD4 := hid (HD.out.next hma.2)
        clear hma c0 c1
        go_wp2_with fail
        refine Calls.mono (fList _ L w4 HD4.out.rd (by have := HN.out; omega)) ?_
        rintro e w5 ⟨lw, rfl, s5, t5⟩
        have HS5 := hid s5
        have HT5 := hid t5
        have HD5 := hid (HD4.out.next t5)
        clear s5 t5
        go_wp2_with fail
        refine Calls.mono (same_yes la lw (srt L) w5 (HMA.out.rd.next HT5.out) HS5.out.rd (by rw [HSL.out]; omega)) ?_
        rintro e w6 ⟨rfl, m6, rfl⟩
        have HD6 := hid (HD5.out.next (drewN_below w5 m6))
        have HB6 := hid (((HB.out.trans (HMA.out.2.mono HB.out.size)).trans (HT5.out.mono HD4.out.own.start)).trans ((drewN_below w5 m6).mono HD5.out.own.start))
        clear HD4 HD5 HMA HS5 HT5 HD HB
        generalize w5.drewN m6 = W6 at *
        go_wp2_with fail
        refine Calls.mono (rLen b g _ W6 HD6.out.own.rk) ?_
        rintro e w7 ⟨rfl, rfl⟩
        rw [HSL.out]
        go_wp2_with fail
        exact ⟨⟨k + 1, g, L, by simp, by omega, by have := HN.out; omega, HD6.out, HB6.out⟩, by simp [intOf]; omega⟩
      have k1' : (kd == 1) = false := by simpa using k1
      have k2' : (kd == 2) = false := by simpa using k2
      have k3' : (kd == 3) = false := by simpa using k3
      have k4' : (kd == 4) = false := by simpa using k4
      have k5' : (kd == 5) = false := by simpa using k5
      go_wp2_with fail
      refine Calls.mono (rLen b g _ wr HD.out.own.rk) ?_
      rintro e w7 ⟨rfl, rfl⟩
      rw [HSL.out]
      clear c0 c1
      go_wp2_with fail
      exact ⟨⟨k + 1, g, L, by simp, by omega, by have := HN.out; omega, HD.out, HB.out⟩, by simp [intOf]; omega⟩
    · by_cases hlt : k < len
      · have hlt' : (k : Int) < (len : Int) := by omega
        have hn3 : ¬ (n : Int) < 300 := by omega
        clear hend
        go_wp2_with fail
        refine Calls.mono (rList b g (srt L) wr HD.out.own.rk (by rw [HSL.out]; omega)) ?_
        rintro e w4 ⟨la, rfl, hma⟩
        have HMA := hid hma
        have HD4 := hid (HD.out.next hma.2)
        clear hma
        go_wp2_with fail
        refine Calls.mono (fList _ L w4 HD4.out.rd (by have := HN.out; omega)) ?_
        rintro e w5 ⟨lw, rfl, s5, t5⟩
        have HS5 := hid s5
        have HT5 := hid t5
        clear s5 t5
        go_wp2_with fail
        refine Calls.mono (same_yes la lw (srt L) w5 (HMA.out.rd.next HT5.out) HS5.out.rd (by rw [HSL.out]; omega)) ?_
        rintro e w6 ⟨rfl, m6, rfl⟩
        have HB6 := hid (((HB.out.trans (HMA.out.2.mono HB.out.size)).trans (HT5.out.mono HD4.out.own.start)).trans ((drewN_below w5 m6).mono (Nat.le_trans HD4.out.own.start HT5.out.size)))
        go_wp2_with fail
        go_ret
        exact ⟨rfl, HB6.out⟩
      · have hlt' : ¬ (k : Int) < (len : Int) := by omega
        clear hend
        go_wp2_with fail
        refine Calls.mono (rList b g (srt L) wr HD.out.own.rk (by rw [HSL.out]; omega)) ?_
        rintro e w4 ⟨la, rfl, hma⟩
        have HMA := hid hma
        have HD4 := hid (HD.out.next hma.2)
        clear hma
        go_wp2_with fail
        refine Calls.mono (fList _ L w4 HD4.out.rd (by have := HN.out; omega)) ?_
        rintro e w5 ⟨lw, rfl, s5, t5⟩
        have HS5 := hid s5
        have HT5 := hid t5
        clear s5 t5
        go_wp2_with fail
        refine Calls.mono (same_yes la lw (srt L) w5 (HMA.out.rd.next HT5.out) HS5.out.rd (by rw [HSL.out]; omega)) ?_
        rintro e w6 ⟨rfl, m6, rfl⟩
        have HB6 := hid (((HB.out.trans (HMA.out.2.mono HB.out.size)).trans (HT5.out.mono HD4.out.own.start)).trans ((drewN_below w5 m6).mono (Nat.le_trans HD4.out.own.start HT5.out.size)))
        go_wp2_with fail
        go_ret
        exact ⟨rfl, HB6.out⟩
theorem rankPlays_walk (a : Option Addr) (len cap : Nat) (O V : Nat → Int) (w : World) (hO : IsOps w a len O V) (hl : len * 16 ≤ reachBytes) :
    Calls Try.prog 3 #[.slice a len cap] w fun e w' => e = .returned (.bool true) ∧ Below w.heap.size w w' :=
  rankPlays_any a len cap O V w hO (by unfold reachBytes at hl; omega)
end Go.Proofs.Ytgljcaebgcmahaa
