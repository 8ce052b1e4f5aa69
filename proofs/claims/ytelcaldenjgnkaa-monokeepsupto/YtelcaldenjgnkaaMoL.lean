/- The list of what is kept; what shows that the program is awake. -/
import Derived.Test.YtelcaldenjgnkaaMoT
namespace Go.Proofs.Ytelcaldenjgnkaa
open Go.RowKit

theorem mKept_nil (w : World) : Calls Try.prog 12 #[.pointer none] w fun e w' => e = .returned (.slice none 0 0) ∧ w = w' := by
  go_enter Try.func12, Try.ntmps12
  go_wp2_with fail
  go_ret
  exact ⟨rfl, rfl⟩
set_option maxRecDepth 20000 in
set_option maxHeartbeats 1000000 in
theorem mKept (b g : Nat) (h : Bool) (L : List Int) (w : World) (x : Mo w b g h L) (hl : L.length ≤ 8796093022208) :
    Calls Try.prog 12 #[.pointer (some ⟨b, 0, none⟩)] w (NewList w (kept h L)) := by
  obtain ⟨i0, hi, hz0, hz1, hz2⟩ := info_parts info_i64
  have hfit := x.fits
  obtain ⟨lv, x⟩ := x
  obtain ⟨a, c, hlv⟩ := x.sl.shape
  subst hlv
  obtain ⟨c0, c1, c2, f0, f1, f2⟩ := x.box.three
  have hlt := x.box.lt
  obtain ⟨K, hK⟩ : ∃ K, K = rep h L := ⟨_, rfl⟩
  have hsl := x.sl
  rw [← hK] at c2 hfit hsl
  have hkk : kept h L = K.map Prod.fst := by rw [hK]; rfl
  rw [hkk]
  have HSL := hid hsl
  have hnl : K.length ≤ 8796093022208 := by omega
  obtain ⟨n, hn⟩ : ∃ n, n = K.length := ⟨_, rfl⟩
  rw [← hn] at c2 hnl hsl
  have HN := hid hn
  clear x hsl hK hkk hfit hn
  go_enter Try.func12, Try.ntmps12
  go_wp2_with (at_make; refine wpList_make_full _ rfl _ _ 26 rfl w.heap.size 2 i0 (.int .i64 0) 1 Try.underlying26 hi hz0 hz1 _ _ _ _ n rfl rfl rfl rfl (by rw [hz2]; omega) (by simp only [maxLen]; omega) (Nat.le_refl _) ?_; intro w1 hown hgrow; have hk := blk_made hown; have hb1 : Below w.heap.size w w1 := (Below.refl _ _).grown hgrow (Nat.le_refl _) (by simp); have d2 := (hb1.cell (p := ⟨b, 2, none⟩) hlt).trans c2; have hlt1 : b < w1.heap.size := Nat.lt_of_lt_of_le hlt hb1.size; have HB := hid hb1; have HK := hid hk; clear hk hb1 hown hgrow)
  go_loopw [19] (fun p wr => ∃ (j : Nat) (xs : List Int), p = .int .i64 (j : Nat) ∧ j ≤ n ∧ xs.length = n ∧ (∀ i y, i < j → xs[i]? = some y → ∃ k, K[i]? = some k ∧ k.1 = y) ∧ Blk wr w.heap.size xs ∧ Below w.heap.size w wr) (fun p _ => n - (intOf p).toNat)
  case atStart => exact ⟨0, List.replicate n 0, rfl, by omega, by simp, fun i y hi => by omega, HK.out, HB.out⟩
  case round =>
    obtain ⟨j, xs, rfl, hj, hxl, hxs, hbk, hbw⟩ := hrel
    by_cases hlj : j < n
    · obtain ⟨k, hk⟩ : ∃ k, K[j]? = some k := ⟨_, List.getElem?_eq_getElem (by have := HN.out; omega)⟩
      rcases HSL.out with ⟨e, e2, _⟩ | ⟨hgb, off, cap, e, hs⟩
      · rw [e2] at hk; simp at hk
      obtain ⟨rfl, _, rfl⟩ : a = some ⟨g, off, none⟩ ∧ K.length = K.length ∧ c = cap := by simpa using e
      have d0 := (hbw.cell (p := ⟨g, off + j * 2, none⟩) hs.lt).trans (hs.num j k hk)
      have d1 := (hbw.cell (p := ⟨g, off + j * 2 + 1, none⟩) hs.lt).trans (hs.ahd j k hk)
      have hcap := hs.le
      rw [← HN.out] at hcap
      have hlj' : (j : Int) < (n : Int) := by omega
      have hgl := hbk.lt
      have hfree := box_free (i := j) hbk.box (by omega)
      obtain ⟨y, hy⟩ : ∃ y, xs[j]? = some y := ⟨_, List.getElem?_eq_getElem (by omega)⟩
      have hold := box_cell hbk.box hy
      obtain ⟨z, ah⟩ := k
      simp only at d0 d1
      have HKJ := hid hk
      have HXS := hid hxs
      have HBK := hid hbk
      have HBW := hid hbw
      have HXL := hid hxl
      clear hs hk hxs hbk hbw hxl hy e
      go_wp2_with fail
      refine ⟨⟨j + 1, xs.set j z, by simp, by omega, by simp [HXL.out], fun i y hi hy => ?_, (HBK.out.put j z).next ((Below.refl _ _).alloc (Nat.le_refl _) _), (HBW.out.setCell (p := ⟨w.heap.size, j, none⟩) (Nat.le_refl _) _).alloc (by simpa [World.setCell] using HBW.out.size) _⟩, by simp [intOf]; omega⟩
      by_cases e : j = i
      · subst e
        rw [List.getElem?_set_self (by have := HXL.out; omega)] at hy
        exact ⟨_, HKJ.out, by simpa using hy⟩
      · rw [List.getElem?_set_ne e] at hy
        exact HXS.out i y (by omega) hy
    · obtain rfl : j = n := by omega
      have HBK := hid hbk
      have HBW := hid hbw
      have HXL := hid hxl
      have HXS := hid hxs
      clear hbk hbw hxl hxs
      go_wp2_with fail
      go_ret
      have e : xs = K.map Prod.fst := by
        apply List.ext_getElem?
        intro i
        by_cases hi : i < j
        · obtain ⟨k, h1, h2⟩ := HXS.out i _ hi (List.getElem?_eq_getElem (by have := HXL.out; omega))
          rw [List.getElem?_map, h1, List.getElem?_eq_getElem (by have := HXL.out; omega)]
          simp [h2]
        · rw [List.getElem?_eq_none (by have := HXL.out; omega), List.getElem?_eq_none (by have := HN.out; simp; omega)]
      refine ⟨w.heap.size, ?_, Nat.le_refl _, by rw [← e]; exact HBK.out, HBW.out⟩
      rw [List.length_map, ← HN.out]
      rfl
set_option maxRecDepth 20000 in
theorem awake_any (w : World) : Calls Try.prog 7 #[] w fun e w' => e = .returned (.bool true) ∧ Below w.heap.size w w' := by
  go_enter Try.func7, Try.ntmps7
  go_wp2_with fail
  refine Calls.mono (mNew false w) ?_
  rintro e w1 ⟨rfl, h1, hb1⟩
  have H1 := hid h1
  clear h1
  go_wp2_with fail
  refine Calls.mono (mPut _ _ false [] 3 w1 H1.out (by decide)) ?_
  rintro e w2 ⟨rfl, g2, h2, t2, o2⟩
  have H2 := hid h2
  clear h2
  go_wp2_with fail
  refine Calls.mono (mPut _ _ false [3] 1 w2 H2.out (by decide)) ?_
  rintro e w3 ⟨rfl, g3, h3, t3, o3⟩
  have H3 := hid h3
  clear h3
  go_wp2_with fail
  refine Calls.mono (mBest_yes _ _ false [3, 1] 1 [] w3 H3.out (by decide)) ?_
  rintro e w4 ⟨rfl, rfl⟩
  go_wp2_with fail
  refine Calls.mono (mLen _ _ false [3, 1] w3 H3.out) ?_
  rintro e w4 ⟨rfl, rfl⟩
  go_wp2_with fail
  go_ret
  refine ⟨rfl, hb1.trans ((t2.below (B := w.heap.size) (by simp) hb1.size).trans (t3.below ?_ (Nat.le_trans hb1.size t2.size)))⟩
  intro k hk
  have := hb1.size
  simp at hk
  omega
end Go.Proofs.Ytelcaldenjgnkaa
