/- The document's window: what is read. -/
import Derived.Test.YtccgbkafcbfcgaaPaC
import Derived.Test.YtccgbkafcbfcgaaRfA
import Derived.Test.YtccgbkafcbfcgaaWnE
import Derived.Test.YtccgbkafcbfcgaaWnG
namespace Go.Proofs.Ytccgbkafcbfcgaa
open Go.RowKit

theorem heldOf_in {s t : Int} {A : List Pr} (h : ∀ x, x ∈ A → x.1 ≤ t ∧ In64 x.1 ∧ In64 x.2) : ∀ x, x ∈ vals (heldOf s t A) → In64 x := by
  intro x hx
  obtain ⟨y, hy, rfl⟩ := List.mem_map.1 hx
  exact (h y (List.mem_of_mem_drop (List.mem_filter.1 hy).1)).2.2
theorem heldOf_len (s t : Int) (A : List Pr) : (vals (heldOf s t A)).length ≤ 4096 := by
  have : (heldOf s t A).length ≤ (A.drop (A.length - 4096)).length := List.length_filter_le _ _
  simp [vals] at this ⊢
  omega
set_option maxRecDepth 20000 in
set_option maxHeartbeats 4000000 in
theorem fRead (m a s p : Int) (v : Value) (A : List Pr) (t : Int) (w : World) (hv : RdP w v A) (hl : A.length < 8796093022208) (hA : ∀ x, x ∈ A → x.1 ≤ t ∧ In64 x.1 ∧ In64 x.2) (ht : In64 t) (hr : RightT m a s p) :
    Calls Try.prog 31 #[tv m a s p, v, .int .i64 t] w fun e w' => e = .returned (rv (toldOf a p (vals (heldOf s t A)))) ∧ Below w.heap.size w w' := by
  obtain ⟨-, a1, a2, s1, s2, hp, -⟩ := hr
  have hin := heldOf_in (s := s) hA
  have hlen := heldOf_len s t A
  obtain ⟨b1, b2, bB⟩ := two_boxes w 23 49 [.int .i64 m, .int .i64 a, .int .i64 s, .int .i64 p] [.int .i64 0, .int .i64 0]
  obtain ⟨W, hW⟩ : ∃ W, W = (w.alloc (.cells #[.int .i64 m, .int .i64 a, .int .i64 s, .int .i64 p] 23)).alloc (.cells #[.int .i64 0, .int .i64 0] 49) := ⟨_, rfl⟩
  rw [← hW] at b1 b2 bB
  have HHd := hid (fHeld v A t s W (hv.next bB) hl (fun x hx => ⟨(hA x hx).1, (hA x hx).2.1⟩) ht s1 s2)
  obtain ⟨av, cv, hvv, -⟩ := hv
  subst hvv
  have HB1 := hid b1
  have HB2 := hid b2
  have HBB := hid bB
  have c2 := b1.cell 2 _ rfl
  have lw := b1.lt
  generalize hH : heldOf s t A = Hd at *
  obtain ⟨V, hVe⟩ : ∃ V, V = vals Hd := ⟨_, rfl⟩
  rw [← hVe] at hin hlen ⊢
  have HVE := hid hVe
  have hHl : Hd.length < 8796093022208 := by rw [hVe] at hlen; simp [vals] at hlen; omega
  clear b1 b2 bB hA hH hl hVe
  simp only [tv]
  generalize hx : toldOf a p V = x
  have HX := hid hx
  clear hx
  go_enter Try.func31, Try.ntmps31
  go_upto_region 1 with fail
  rw [← hW]
  clear hW
  go_wp2_with fail
  refine Calls.mono HHd.out ?_
  rintro e w1 ⟨lv, rfl, hpl, hb1⟩
  obtain ⟨al, cl, hlv⟩ := hpl.shape
  subst hlv
  have HPL := hid hpl.rd
  have H1 := hid hb1
  clear hpl hb1
  go_wp2_with fail
  refine Calls.mono (fValues _ Hd w1 HPL.out hHl) ?_
  rw [← HVE.out]
  rintro e w2 ⟨lv, rfl, hls, hb2⟩
  obtain ⟨a2', c2', hlv⟩ := hls.shape
  subst hlv
  have HLS := hid hls.rd8
  have H2 := hid hb2
  clear hls hb2
  go_wp2_with fail
  refine Calls.mono (fTotal _ V w2 HLS.out hin hlen) ?_
  rintro e w3 ⟨neg, sv, l, rfl, hV3, hb3⟩
  obtain ⟨sa, cs', hsv, -⟩ := hV3.isD
  subst hsv
  have hbd := sum_bounds hin
  have hl8 : l.length ≤ 400 := hV3.len8 (by omega) (by omega)
  have hb4 : Below w3.heap.size w3 (w3.alloc (.cells #[.bool neg, .slice sa l.length cs'] 103)) := (Below.refl _ _).alloc (Nat.le_refl _) _
  have hN4 := Box.new w3 [.bool neg, .slice sa l.length cs'] 103
  obtain ⟨w4, hw4⟩ : ∃ w4, w4 = w3.alloc (.cells #[.bool neg, .slice sa l.length cs'] 103) := ⟨_, rfl⟩
  rw [← hw4] at hb4 hN4
  have hBall : Below W.heap.size W w4 := ((H1.out.trans (H2.out.mono H1.out.size)).trans (hb3.mono (Nat.le_trans H1.out.size H2.out.size))).trans (hb4.mono (Nat.le_trans (Nat.le_trans H1.out.size H2.out.size) hb3.size))
  have hV4 := hV3.later hb4
  have hLS4 := (HLS.out.next hb3).next hb4
  have hR4 := HB2.out.next hBall
  have hT4 := HB1.out.next hBall
  have HB4 := hid (HBB.out.trans (hBall.mono HBB.out.size))
  have HV4 := hid hV4
  have HL4 := hid hLS4
  have HR4 := hid hR4
  clear c2 lw
  have e1 := hT4.cell 1 _ rfl
  have e3 := hT4.cell 3 _ rfl
  have lw := hT4.lt
  have g0 := hN4.cell 0 _ rfl
  have g1 := hN4.cell 1 _ rfl
  have gl := hN4.lt
  clear hb3 hb4 hN4 hBall hV3 hV4 hLS4 hR4 hT4 H1 H2 HPL HLS HHd HB1 HB2 HBB
  go_upto_region 3 with fail
  rw [← hw4]
  clear hw4
  generalize w3.heap.size = g at *
  have hwl : IntKind.i64.wrap ((V.length : Int) * 1000000) = (V.length : Int) * 1000000 := by rw [IntKind.wrap_i64]; omega
  by_cases h1 : a = 1
  · subst h1
    have hx := HX.out
    rw [toldOf, if_pos rfl] at hx
    go_wp2_with fail
    refine Calls.mono (rFit_any neg _ l V.sum w4 HV4.out) ?_
    rintro e w9 ⟨y, tb, rfl, t1, t2, hb9⟩
    by_cases hf : -9223372036854775808 ≤ V.sum ∧ V.sum < 9223372036854775808
    · rw [if_pos hf] at hx
      obtain rfl : tb = true := t1.2 hf
      obtain rfl : y = V.sum := t2 rfl
      subst hx
      clear t1 t2 hf hbd
      have hR2 := HR4.out.next hb9
      have z0 := hR2.cell 0 _ rfl
      have z1 := hR2.cell 1 _ rfl
      have z2 := hR2.free 0 (by simp)
      have z3 : ∀ u, (w9.setCell ⟨w.heap.size + 1, 0, none⟩ u).frozen? ⟨w.heap.size + 1, 1, none⟩ = false := fun u => (World.frozen?_setCell _ _ _ _).trans (hR2.free 1 (by simp))
      have o := fun u v => ((hR2.set 0 (by simp) u).set 1 (by simp) v).two
      have o0 := fun u v => (o u v).1
      have o1 := fun u v => (o u v).2.1
      have H2 := hid hb9
      clear hR2 o hb9
      go_wp2_with fail
      refine bodyPost_ret (v := rv _) (by simp [results, Try.results31, go_sem, o0, o1, rv]) rfl ⟨rfl, ?_⟩
      exact ((HB4.out.trans (H2.out.mono HB4.out.size)).setCell (by simp) _).setCell (by simp) _
    · rw [if_neg hf] at hx
      have htb : tb = false := by
        cases tb with
        | false => rfl
        | true => exact absurd (t1.1 rfl) hf
      subst htb
      subst hx
      clear t1 t2 hf hbd
      have hR2 := HR4.out.next hb9
      have z0 := hR2.cell 0 _ rfl
      have z1 := hR2.cell 1 _ rfl
      have z2 := hR2.free 0 (by simp)
      have z3 : ∀ u, (w9.setCell ⟨w.heap.size + 1, 0, none⟩ u).frozen? ⟨w.heap.size + 1, 1, none⟩ = false := fun u => (World.frozen?_setCell _ _ _ _).trans (hR2.free 1 (by simp))
      have o := fun u v => ((hR2.set 0 (by simp) u).set 1 (by simp) v).two
      have o0 := fun u v => (o u v).1
      have o1 := fun u v => (o u v).2.1
      have H2 := hid hb9
      clear hR2 o hb9
      go_wp2_with fail
      refine bodyPost_ret (v := rv _) (by simp [results, Try.results31, go_sem, o0, o1, rv]) rfl ⟨rfl, ?_⟩
      exact ((HB4.out.trans (H2.out.mono HB4.out.size)).setCell (by simp) _).setCell (by simp) _
  · have h1' : (a == 1) = false := by simpa using h1
    by_cases h5 : a = 5
    · subst h5
      have hx := HX.out
      rw [toldOf, if_neg (by decide), if_pos rfl] at hx
      subst hx
      have hb9 := Below.refl w4.heap.size w4
      obtain ⟨w9, hw9⟩ : ∃ w9, w9 = w4 := ⟨_, rfl⟩
      subst hw9
      clear h1 hbd
      have hR2 := HR4.out.next hb9
      have z0 := hR2.cell 0 _ rfl
      have z1 := hR2.cell 1 _ rfl
      have z2 := hR2.free 0 (by simp)
      have z3 : ∀ u, (w9.setCell ⟨w.heap.size + 1, 0, none⟩ u).frozen? ⟨w.heap.size + 1, 1, none⟩ = false := fun u => (World.frozen?_setCell _ _ _ _).trans (hR2.free 1 (by simp))
      have o := fun u v => ((hR2.set 0 (by simp) u).set 1 (by simp) v).two
      have o0 := fun u v => (o u v).1
      have o1 := fun u v => (o u v).2.1
      have H2 := hid hb9
      clear hR2 o hb9
      go_wp2_with fail
      refine bodyPost_ret (v := rv _) (by simp [results, Try.results31, go_sem, o0, o1, rv]) rfl ⟨rfl, ?_⟩
      exact ((HB4.out.trans (H2.out.mono HB4.out.size)).setCell (by simp) _).setCell (by simp) _
    · have h5' : (a == 5) = false := by simpa using h5
      by_cases hv0 : V = []
      · have hx := HX.out
        rw [toldOf, if_neg h1, if_neg h5, if_pos hv0] at hx
        subst hx
        have hn0 : V.length = 0 := by rw [hv0]; rfl
        have hn0' : ((V.length : Int) == 0) = true := by simp [hn0]
        have hb9 := Below.refl w4.heap.size w4
        obtain ⟨w9, hw9⟩ : ∃ w9, w9 = w4 := ⟨_, rfl⟩
        subst hw9
        clear h1 h5 hbd hv0
        have hR2 := HR4.out.next hb9
        have z0 := hR2.cell 0 _ rfl
        have z1 := hR2.cell 1 _ rfl
        have z2 := hR2.free 0 (by simp)
        have z3 : ∀ u, (w9.setCell ⟨w.heap.size + 1, 0, none⟩ u).frozen? ⟨w.heap.size + 1, 1, none⟩ = false := fun u => (World.frozen?_setCell _ _ _ _).trans (hR2.free 1 (by simp))
        have o := fun u v => ((hR2.set 0 (by simp) u).set 1 (by simp) v).two
        have o0 := fun u v => (o u v).1
        have o1 := fun u v => (o u v).2.1
        have H2 := hid hb9
        clear hR2 o hb9
        go_wp2_with fail
        refine bodyPost_ret (v := rv _) (by simp [results, Try.results31, go_sem, o0, o1, rv]) rfl ⟨rfl, ?_⟩
        exact ((HB4.out.trans (H2.out.mono HB4.out.size)).setCell (by simp) _).setCell (by simp) _
      · have hpos : 0 < V.length := List.length_pos_iff.2 hv0
        have hn0' : ((V.length : Int) == 0) = false := by simp; exact hv0
        by_cases h2 : a = 2
        · subst h2
          have hx := HX.out
          rw [toldOf, if_neg h1, if_neg h5, if_neg hv0, if_pos rfl] at hx
          have hm := mean_in hin hv0
          have HM := hid hm
          have HMn := hid (rMean_any neg _ l V.sum (V.length : Int) w4 HV4.out hl8 (by omega) (by omega))
          have HHX := hid hx
          clear h1 h5 hbd hv0 hm hx
          go_wp2_with fail
          refine Calls.mono HMn.out ?_
          rintro e w9 ⟨y, tb, rfl, t1, t2, hb9⟩
          obtain rfl : tb = true := t1.2 HM.out
          have hx := HHX.out
          rw [← t2 rfl] at hx
          subst hx
          clear t1 t2 HHX
          have hR2 := HR4.out.next hb9
          have z0 := hR2.cell 0 _ rfl
          have z1 := hR2.cell 1 _ rfl
          have z2 := hR2.free 0 (by simp)
          have z3 : ∀ u, (w9.setCell ⟨w.heap.size + 1, 0, none⟩ u).frozen? ⟨w.heap.size + 1, 1, none⟩ = false := fun u => (World.frozen?_setCell _ _ _ _).trans (hR2.free 1 (by simp))
          have o := fun u v => ((hR2.set 0 (by simp) u).set 1 (by simp) v).two
          have o0 := fun u v => (o u v).1
          have o1 := fun u v => (o u v).2.1
          have H2 := hid hb9
          clear hR2 o hb9
          go_wp2_with fail
          refine bodyPost_ret (v := rv _) (by simp [results, Try.results31, go_sem, o0, o1, rv]) rfl ⟨rfl, ?_⟩
          exact ((HB4.out.trans (H2.out.mono HB4.out.size)).setCell (by simp) _).setCell (by simp) _
        · have h2' : (a == 2) = false := by simpa using h2
          by_cases h6 : a = 6
          · subst h6
            obtain ⟨p1, p2⟩ := hp rfl
            obtain ⟨n1, n2, -⟩ := nearest_bounds p1 p2 hpos
            obtain ⟨y, hy⟩ : ∃ y, (srt V)[nearest p V.length - 1]? = some y := ⟨_, List.getElem?_eq_getElem (by rw [srt_length]; omega)⟩
            have hx := HX.out
            rw [toldOf, if_neg h1, if_neg h5, if_neg hv0, if_neg h2, if_neg (by decide), if_neg (by decide), hy] at hx
            subst hx
            have HBy := hid (fBy_yes _ V p y w4 HL4.out p1 p2 (by omega) hy)
            clear h1 h5 hbd hv0 h2 hp p1 p2 n1 n2 hy
            go_wp2_with fail
            refine Calls.mono HBy.out ?_
            rintro e w9 ⟨rfl, km, e9⟩
            have hb9 : Below w4.heap.size w4 w9 := e9 ▸ drewN_below w4 km
            clear e9
            have hR2 := HR4.out.next hb9
            have z0 := hR2.cell 0 _ rfl
            have z1 := hR2.cell 1 _ rfl
            have z2 := hR2.free 0 (by simp)
            have z3 : ∀ u, (w9.setCell ⟨w.heap.size + 1, 0, none⟩ u).frozen? ⟨w.heap.size + 1, 1, none⟩ = false := fun u => (World.frozen?_setCell _ _ _ _).trans (hR2.free 1 (by simp))
            have o := fun u v => ((hR2.set 0 (by simp) u).set 1 (by simp) v).two
            have o0 := fun u v => (o u v).1
            have o1 := fun u v => (o u v).2.1
            have H2 := hid hb9
            clear hR2 o hb9
            go_wp2_with fail
            refine bodyPost_ret (v := rv _) (by simp [results, Try.results31, go_sem, o0, o1, rv]) rfl ⟨rfl, ?_⟩
            exact ((HB4.out.trans (H2.out.mono HB4.out.size)).setCell (by simp) _).setCell (by simp) _
          · have h6' : (a == 6) = false := by simpa using h6
            obtain ⟨h, ha⟩ : ∃ h : Bool, (a = 3 ∧ h = false) ∨ (a = 4 ∧ h = true) := by
              by_cases h3 : a = 3
              · exact ⟨false, .inl ⟨h3, rfl⟩⟩
              · exact ⟨true, .inr ⟨by omega, rfl⟩⟩
            obtain ⟨y, K, hy⟩ : ∃ y K, kept h V = y :: K := by
              cases hk : kept h V with
              | nil => exact absurd hk (kept_ne h hv0)
              | cons y K => exact ⟨y, K, rfl⟩
            have hx := HX.out
            rw [toldOf, if_neg h1, if_neg h5, if_neg hv0, if_neg h2] at hx
            have hx2 : ((0, y) : Int × Int) = x := by
              rw [← hx]
              rcases ha with ⟨rfl, rfl⟩ | ⟨rfl, rfl⟩
              · rw [if_pos rfl, hy]; rfl
              · rw [if_neg (by decide), if_pos rfl, hy]; rfl
            have HBs := hid (fBest_yes h _ V y K w4 HL4.out hy (by omega))
            clear hx
            subst hx2
            have h4' : (a == 4) = h := by rcases ha with ⟨rfl, rfl⟩ | ⟨rfl, rfl⟩ <;> rfl
            clear h1 h5 hbd hv0 h2 h6 hy ha
            go_wp2_with fail
            refine Calls.mono HBs.out ?_
            rintro e w9 ⟨rfl, e9⟩
            have hb9 : Below w4.heap.size w4 w9 := e9 ▸ Below.refl _ _
            clear e9
            have hR2 := HR4.out.next hb9
            have z0 := hR2.cell 0 _ rfl
            have z1 := hR2.cell 1 _ rfl
            have z2 := hR2.free 0 (by simp)
            have z3 : ∀ u, (w9.setCell ⟨w.heap.size + 1, 0, none⟩ u).frozen? ⟨w.heap.size + 1, 1, none⟩ = false := fun u => (World.frozen?_setCell _ _ _ _).trans (hR2.free 1 (by simp))
            have o := fun u v => ((hR2.set 0 (by simp) u).set 1 (by simp) v).two
            have o0 := fun u v => (o u v).1
            have o1 := fun u v => (o u v).2.1
            have H2 := hid hb9
            clear hR2 o hb9
            go_wp2_with fail
            refine bodyPost_ret (v := rv _) (by simp [results, Try.results31, go_sem, o0, o1, rv]) rfl ⟨rfl, ?_⟩
            exact ((HB4.out.trans (H2.out.mono HB4.out.size)).setCell (by simp) _).setCell (by simp) _
end Go.Proofs.Ytccgbkafcbfcgaa
