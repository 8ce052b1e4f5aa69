/- The walk of the statement MonoKeeps. -/
import Derived.Test.YtelcaldenjgnkaaMoO
namespace Go.Proofs.Ytelcaldenjgnkaa
open Go.RowKit

theorem Rd.take {w : World} {a : Option Addr} {n c c' k : Nat} {Z : List Int} (h : Rd w (.slice a n c) Z) (hk : k ≤ n) : Rd w (.slice a k c') (Z.take k) := by
  obtain ⟨a', c2, e, h⟩ := h
  simp only [Value.slice.injEq] at e
  obtain ⟨rfl, rfl, rfl⟩ := e
  refine ⟨a, c', by simp; omega, ?_⟩
  rcases h with rfl | ⟨g, off, e, hg, h⟩
  · exact .inl (by simp)
  · refine .inr ⟨g, off, e, hg, fun i x hx => h i x ?_⟩
    have hi : i < (Z.take k).length := (List.getElem?_eq_some_iff.1 hx).1
    rw [List.getElem?_take_of_lt (by simp at hi; omega)] at hx
    exact hx
/-- Blocks that the first list may lie in: its own, or new ones. -/
def mine (ga s : Nat) (x : Nat) : Prop := x = ga ∨ s ≤ x
theorem mine_grew {w6 w w' : World} {ga : Nat} {lv : Value} {R : List Int} (t : Turn [ga] w6 w) (x : LsGrew w (mine ga w6.heap.size) lv R w') : Ls w' (mine ga w6.heap.size) lv R ∧ Turn [ga] w6 w' := by
  obtain ⟨⟨g', h1, h2⟩, S, t2, hS⟩ := x
  refine ⟨.inr ⟨g', ?_, h2⟩, t.trans t2 (fun i hi => ?_)⟩
  · rcases h1 with h1 | h1
    · exact h1
    · exact .inr (Nat.le_trans t.size h1)
  · rcases hS i hi with e | e
    · exact .inl (by simp [e])
    · exact .inr e
set_option maxRecDepth 20000 in
set_option maxHeartbeats 2000000 in
theorem monoKeeps_walk (h : Bool) (a : Option Addr) (len cap : Nat) (Z : List Int) (w : World) (hZ : Rd w (.slice a len cap) Z) (hcap : len ≤ cap) (_hwf : ∀ x, x ∈ Z → (Lit.int .i64 x).wf = true) (hl : len ≤ 1048576) :
    Calls Try.prog 5 #[.bool h, .slice a len cap] w fun e w' => e = .returned (.bool true) ∧ Below w.heap.size w w' := by
  obtain rfl : len = Z.length := by obtain ⟨_, _, e, _⟩ := hZ; cases e; rfl
  have HZ := hid hZ
  clear hZ
  obtain ⟨n, hn⟩ : ∃ n, n = Z.length := ⟨_, rfl⟩
  rw [← hn] at hl hcap ⊢
  rw [← hn] at HZ
  have HN := hid hn
  clear hn
  go_enter Try.func5, Try.ntmps5
  go_wp2_with fail
  refine (awake_any w).mono ?_
  rintro e w1 ⟨rfl, hb1⟩
  go_wp2_with fail
  refine Calls.mono (mNew h w1) ?_
  rintro e w2 ⟨rfl, hm2, hb2⟩
  obtain ⟨b, hb⟩ : ∃ b, b = w1.heap.size := ⟨_, rfl⟩
  rw [← hb] at hm2 ⊢
  have hbb : w.heap.size ≤ b := by have := hb1.size; omega
  have HM := hid hm2
  have HW := hid (hb1.trans (hb2.mono hb1.size))
  clear hm2 hb1 hb2 hb
  go_wp2_with fail
  go_loopw [6] (fun q wr => ∃ (k g : Nat), q = .int .i64 (k : Nat) ∧ k ≤ n ∧ w.heap.size ≤ g ∧ Mo wr b g h (Z.take k) ∧ Below w.heap.size w wr) (fun q _ => n - (intOf q).toNat)
  case atStart => exact ⟨0, b, rfl, by omega, hbb, HM.out, HW.out⟩
  case round =>
    obtain ⟨k, g, rfl, hk, hgg, hm, hbw⟩ := hrel
    clear HM HW
    have HM := hid hm
    have HW := hid hbw
    clear hm hbw
    by_cases hlt : k < n
    · obtain ⟨x, hx⟩ : ∃ x, Z[k]? = some x := ⟨_, List.getElem?_eq_getElem (by have := HN.out; omega)⟩
      obtain ⟨a2, cap2, e, hz⟩ := HZ.out
      simp only [Value.slice.injEq] at e
      obtain ⟨rfl, en, rfl⟩ := e
      clear en
      rcases hz with h0 | ⟨zg, zo, rfl, hgl, hcell⟩
      · rw [h0] at hx; simp at hx
      have c0 := (HW.out.cell (p := ⟨zg, zo + k, none⟩) hgl).trans (hcell k x hx)
      have hlt' : (k : Int) < (n : Int) := by omega
      have etk : Z.take k ++ [x] = Z.take (k + 1) := by rw [List.take_add_one, hx]; rfl
      have HET := hid etk
      clear hcell hx etk
      go_wp2_with fail
      refine Calls.mono (mPut b g h (Z.take k) x wr HM.out (by simp; omega)) ?_
      rintro e w4 ⟨rfl, g4, m4, t4, o4⟩
      rw [HET.out] at m4
      obtain ⟨T, hT⟩ : ∃ T, T = Z.take (k + 1) := ⟨_, rfl⟩
      rw [← hT] at m4
      have htl : T.length ≤ n := by rw [hT]; simp; have := HN.out; omega
      have hg4 : w.heap.size ≤ g4 := by have := HW.out.size; omega
      have HW4 := hid (HW.out.trans (t4.below (B := w.heap.size) (by simp; omega) HW.out.size))
      have HM4 := hid m4
      have HT := hid hT
      clear m4 t4 o4 hT HET HM c0
      go_wp2_with fail
      refine Calls.mono (mKept b g4 h T w4 HM4.out (by omega)) ?_
      rintro e w5 ⟨ga, rfl, hga, hka, hb5⟩
      obtain ⟨A, hA⟩ : ∃ A, A = kept h T := ⟨_, rfl⟩
      rw [← hA] at hka ⊢
      obtain ⟨na, hna⟩ : ∃ na, na = A.length := ⟨_, rfl⟩
      have hnn : na ≤ n := by have := kept_length h T; rw [← hA] at this; omega
      rw [← hna]
      have HKA := hid hka
      have HB5 := hid hb5
      have HA := hid hA
      have HNA := hid hna
      have hs5 := hb5.size
      have hal := hka.lt
      have hgl4 := HM4.out.glt
      have hbl4 := HM4.out.lt
      clear hka hb5 hA hna
      go_wp2_with fail
      refine Calls.mono (mKept b g4 h T w5 (HM4.out.next HB5.out) (by omega)) ?_
      rintro e w6 ⟨gb, rfl, hgb, hkb, hb6⟩
      rw [← HA.out] at hkb ⊢
      rw [← HNA.out]
      have HKA6 := hid (HKA.out.next hb6)
      have HKB := hid hkb
      have HM6 := hid ((HM4.out.next HB5.out).next hb6)
      have HW6 := hid ((HW4.out.trans (HB5.out.mono HW4.out.size)).trans (hb6.mono (Nat.le_trans HW4.out.size hs5)))
      have hs6 := hb6.size
      clear hkb hb6 HKA HM4 HW4 HB5
      go_wp2_with fail
      go_loopw [9] (fun p w7 => ∃ (j : Nat) (R : List Int), p = .int .i64 (j : Nat) ∧ j ≤ na ∧ R.length = na ∧ Blk w7 ga R ∧ Turn [ga] w6 w7) (fun p _ => na - (intOf p).toNat)
      case atStart => exact ⟨0, A, rfl, by omega, HNA.out.symm, HKA6.out, Turn.refl _ _⟩
      case round =>
        obtain ⟨j, R, rfl, hj, hR, hkR, hT7⟩ := hrel
        by_cases hjn : j < na
        · obtain ⟨y, hy⟩ : ∃ y, R[j]? = some y := ⟨_, List.getElem?_eq_getElem (by omega)⟩
          have e0 := box_cell hkR.box hy
          have e1 := box_free (i := j) hkR.box (by omega)
          have hjn' : (j : Int) < (na : Int) := by omega
          have HKR := hid hkR
          have HT7 := hid hT7
          have HR := hid hR
          clear hkR hT7 hy hR
          go_wp2_with fail
          exact ⟨⟨j + 1, R.set j 99, by simp, by omega, by simp [HR.out], HKR.out.put j 99, HT7.out.andSet _ _ (.inl (by simp))⟩, by simp [intOf]; omega⟩
        · obtain rfl : j = na := by omega
          have hls : Ls wr (mine ga w6.heap.size) (.slice (some ⟨ga, 0, none⟩) j j) R := .inr ⟨ga, .inl rfl, by have := hkR.sl (by simp only [maxLen]; omega); rwa [hR] at this⟩
          have HLS := hid hls
          have HT7 := hid hT7
          have HR := hid hR
          clear hls hT7 hkR hR hjn hj
          go_wp2_with fail
          go_loopw [7, 10] (fun p q w8 => ∃ (i : Nat) (R : List Int), q = .int .i64 (i : Nat) ∧ i ≤ 9 ∧ R.length ≤ n + i ∧ Ls w8 (mine ga w6.heap.size) p R ∧ Turn [ga] w6 w8) (fun _ q _ => 9 - (intOf q).toNat)
          case atStart => exact ⟨0, R, rfl, by omega, by have := HR.out; omega, HLS.out, HT7.out⟩
          case round =>
            obtain ⟨i, Q, rfl, hi, hQ, hlQ, hT8⟩ := hrel
            obtain ⟨ao, co, rfl⟩ := hlQ.shape
            by_cases hi9 : i < 9
            · have HLQ := hid hlQ
              have HT8 := hid hT8
              have hi9' : (i : Int) < 9 := by omega
              clear hlQ hT8
              go_wp2_with (at_builtin; refine wpList_append_ls wr _ rfl _ _ rfl (mine ga w6.heap.size) (.slice ao Q.length co) Q 98 rfl rfl HLQ.out (by omega) rfl ?_; intro b9 c9 w9 hgr; obtain ⟨hls9, ht9⟩ := mine_grew HT8.out hgr; have HL9 := hid hls9; have HT9 := hid ht9; clear hgr hls9 ht9)
              exact ⟨⟨i + 1, Q ++ [98], by simp, by omega, by simp; omega, HL9.out, HT9.out⟩, by simp [intOf]; omega⟩
            · obtain rfl : i = 9 := by omega
              have HM8 := hid (HM6.out.turn hT8 (by simp; omega) (by simp; omega))
              have HKB8 := hid (HKB.out.turn hT8 (by simp; omega))
              have hbw8 := HW6.out.trans (hT8.below (B := w.heap.size) (by simp; omega) HW6.out.size)
              have hrd := (HZ.out.next hbw8).take (k := k + 1) (c' := cap) (by omega)
              rw [← HT.out] at hrd
              have HRD := hid hrd
              have HW8 := hid hbw8
              have hkc : k + 1 ≤ cap := by omega
              clear hlQ hT8 hbw8 hrd HM6 HKB HW6 HLS HT7
              go_wp2_with fail
              refine Calls.mono (fKept h _ T wr HRD.out (by omega)) ?_
              rintro e w9 ⟨v9, rfl, hr9, hb9⟩
              rw [← HA.out] at hr9
              have HR9 := hid hr9
              have HB9 := hid hb9
              clear hr9 hb9
              go_wp2_with fail
              have hsm := same_yes (.slice (some ⟨gb, 0, none⟩) j j) v9 A w9 (by have := (HKB8.out.rd A.length).next HB9.out; rwa [← HNA.out] at this) HR9.out (by have := HNA.out; omega)
              refine Calls.mono hsm ?_
              rintro e w10 ⟨rfl, m10, rfl⟩
              have HB10 := hid (HB9.out.trans ((drewN_below w9 m10).mono HB9.out.size))
              clear hsm HB9 HR9
              generalize w9.drewN m10 = W10 at *
              go_wp2_with fail
              refine Calls.mono (looks_any b g4 h _ T W10 (HM8.out.next HB10.out) (HRD.out.next HB10.out) (by omega)) ?_
              rintro e w11 ⟨rfl, hb11⟩
              have HB11 := hid hb11
              clear hb11
              go_wp2_with fail
              have hmo := (HM8.out.next HB10.out).next HB11.out
              rw [HT.out] at hmo
              exact ⟨⟨k + 1, g4, by simp, by omega, hg4, hmo, (HW8.out.trans (HB10.out.mono HW8.out.size)).trans (HB11.out.mono (Nat.le_trans HW8.out.size HB10.out.size))⟩, by simp [intOf]; omega⟩
    · obtain rfl : k = n := by omega
      go_wp2_with fail
      go_ret
      exact ⟨rfl, HW.out⟩
end Go.Proofs.Ytelcaldenjgnkaa
