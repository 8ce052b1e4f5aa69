/- What a coming number makes needless. -/
import Derived.Test.YtccgbkafcbfcgaaMoK
import Derived.WalkMore
namespace Go.Proofs.Ytccgbkafcbfcgaa
open Go.RowKit

/-- What forget leaves and answers. -/
def Forgot (w : World) (b g : Nat) (h : Bool) (L : List Int) (v : Int) (e : Ending) (w' : World) : Prop :=
  e = .returned (.int .i64 (tot (gone h v (rep h L)) : Nat)) ∧ ∃ lv, Box w' b [.bool h, .int .i64 (L.length : Nat), lv] ∧ KSl w' b g lv (stay h v (rep h L)) ∧ Turn [b] w w'
theorem tot_drop {K : List (Int × Nat)} {j : Nat} {k : Int × Nat} (hk : K[j]? = some k) : tot (K.drop j) = tot (K.drop (j + 1)) + (k.2 + 1) := by
  obtain ⟨hj, e⟩ := List.getElem?_eq_some_iff.1 hk
  rw [List.drop_eq_getElem_cons hj, tot, e]; omega
theorem tot_drop_le (K : List (Int × Nat)) (j : Nat) : tot (K.drop j) ≤ tot K := by
  have := tot_append (K.take j) (K.drop j)
  rw [List.take_append_drop] at this
  omega
/-- Behind the cut: the list is as long as what stays. -/
theorem forgot_end {w w' : World} {b g off cap e : Nat} {h : Bool} {L : List Int} {v : Int} {K : List (Int × Nat)} (hK : K = rep h L) (hx : MoIs w b g h (.slice (some ⟨g, off, none⟩) K.length cap) L) (hgb : g ≠ b) (hs : KAt w g off cap K) (he : e ≤ K.length)
    (hB : ∀ k, k ∈ K.drop e → win h k.1 v = false) (hA : e = 0 ∨ ∃ k, K[e - 1]? = some k ∧ win h k.1 v = true) (t : Below w.heap.size w w') :
    Forgot w b g h L v (.returned (.int .i64 (tot (K.drop e) : Nat))) (w'.setCell ⟨b, 2, none⟩ (.slice (some ⟨g, off, none⟩) e cap)) := by
  subst hK
  obtain ⟨f1, f2⟩ := cut_is (A := (rep h L).take e) (B := (rep h L).drop e) (rep_sorted h L) (List.take_append_drop _ _).symm hB (by
    rcases hA with rfl | ⟨k, hk, hw⟩
    · exact .inl (by simp)
    · by_cases h0 : e = 0
      · exact .inl (by simp [h0])
      · refine .inr ⟨(rep h L).take (e - 1), k, ?_, hw⟩
        have : e = e - 1 + 1 := by omega
        rw [this, List.take_add_one, Nat.add_sub_cancel, hk]
        rfl)
  refine ⟨by rw [f2], .slice (some ⟨g, off, none⟩) e cap, ?_, ?_, ?_⟩
  · have := (hx.box.next t).set 2 (by simp) (.slice (some ⟨g, off, none⟩) e cap)
    simpa using this
  · rw [f1]
    refine .inr ⟨hgb, off, cap, by simp; omega, ?_⟩
    exact ((hs.turn (S := []) (Turn.of_below t) (by simp)).turn (S := [b]) (Turn.set _ _ _ (by simp)) (by simpa using hgb)).part e
  · exact (Turn.of_below t).andSet _ _ (.inl (by simp))
theorem Forgot.alloc {w w' : World} {b g : Nat} {h : Bool} {L : List Int} {v : Int} {e : Ending} (x : Forgot w b g h L v e w') (o : Obj) : Forgot w b g h L v e (w'.alloc o) := by
  obtain ⟨he, lv, h1, h2, h3⟩ := x
  have hb : Below w'.heap.size w' (w'.alloc o) := (Below.refl _ _).alloc (Nat.le_refl _) _
  exact ⟨he, lv, h1.next hb, h2.turn (S := []) (Turn.of_below hb) (by simp), h3.andBelow hb⟩
set_option maxRecDepth 20000 in
set_option maxHeartbeats 1000000 in
theorem mForget (b g : Nat) (h : Bool) (L : List Int) (v : Int) (w : World) (x : Mo w b g h L) (hl : L.length < 8796093022208) :
    Calls Try.prog 67 #[.pointer (some ⟨b, 0, none⟩), .int .i64 v] w (Forgot w b g h L v) := by
  obtain ⟨lv, x⟩ := x
  obtain ⟨c0, c1, c2, f0, f1, f2⟩ := x.box.three
  have hlt := x.box.lt
  rcases x.sl with ⟨rfl, e, rfl⟩ | ⟨hgb, off, cap, rfl, hs⟩
  · have hL : L = [] := by
      cases L with
      | nil => rfl
      | cons y T => exact absurd e (rep_ne h (by simp))
    subst hL
    have HX := hid x
    clear x
    go_enter Try.func67, Try.ntmps67
    go_wp2_with fail
    go_step3
    go_wp2_with fail
    go_step3
    go_wp2_with fail
    go_loopw [5, 6] (fun p q wr => p = .int .i64 0 ∧ q = .int .i64 0 ∧ w = wr) (fun _ _ _ => 0)
    case atStart => exact ⟨rfl, rfl, rfl⟩
    case round =>
      obtain ⟨rfl, rfl, rfl⟩ := hrel
      go_wp2_with fail
      try rw [Exit.noGoto_ret]
      go_ret
      refine ⟨rfl, .slice none 0 0, ?_, .inl ⟨rfl, rfl, rfl⟩, Turn.set _ _ _ (by simp)⟩
      simpa using HX.out.box.set 2 (by simp) (.slice none 0 0)
  · obtain ⟨K, hK⟩ : ∃ K, K = rep h L := ⟨_, rfl⟩
    rw [← hK] at c2 hs x
    have htot : tot K = L.length := by rw [hK]; exact tot_rep h L
    have hkl : K.length < 8796093022208 := by have := kept_length h L; rw [kept, ← hK] at this; simp at this; omega
    have HX := hid x
    have HS := hid hs
    have HK := hid hK
    have hcap := hs.le
    clear x hs hK
    go_enter Try.func67, Try.ntmps67
    go_wp2_with fail
    go_step3
    go_wp2_with fail
    go_step3
    go_wp2_with fail
    go_loopw [5, 6] (fun p q wr => ∃ e : Nat, p = .int .i64 (tot (K.drop e) : Nat) ∧ q = .int .i64 (e : Nat) ∧ e ≤ K.length ∧ (∀ k, k ∈ K.drop e → win h k.1 v = false) ∧ Below w.heap.size w wr) (fun _ q _ => (intOf q).toNat)
    case atStart => exact ⟨K.length, by simp [tot], rfl, Nat.le_refl _, by simp, Below.refl _ _⟩
    case round =>
      obtain ⟨e, rfl, rfl, he, hB, t⟩ := hrel
      have d0 := (t.cell (p := ⟨b, 0, none⟩) hlt).trans c0
      have d2 := (t.cell (p := ⟨b, 2, none⟩) hlt).trans c2
      have g2 := (t.frozen (p := ⟨b, 2, none⟩) hlt).trans f2
      obtain ⟨n, hn⟩ : ∃ n, n = K.length := ⟨_, rfl⟩
      have HN := hid hn
      have HT := hid t
      have HB := hid hB
      rw [← hn] at d2 hcap he hkl
      have hdl := tot_drop_le K e
      clear hn t hB c0 c1 c2 f0 f1 f2
      by_cases h0 : e = 0
      · subst h0
        clear hdl
        simp only [List.drop_zero]
        go_wp2_with fail
        try rw [Exit.noGoto_ret]
        go_ret
        exact forgot_end (e := 0) HK.out HX.out hgb HS.out (by omega) HB.out (.inl rfl) HT.out
      · obtain ⟨j, rfl⟩ : ∃ j, e = j + 1 := ⟨e - 1, by omega⟩
        obtain ⟨k, hk⟩ : ∃ k, K[j]? = some k := ⟨_, List.getElem?_eq_getElem (by have := HN.out; omega)⟩
        have m0 := (HT.out.cell (p := ⟨g, off + j * 2, none⟩) HS.out.lt).trans (HS.out.num j k hk)
        have m1 := (HT.out.cell (p := ⟨g, off + j * 2 + 1, none⟩) HS.out.lt).trans (HS.out.ahd j k hk)
        have htd := tot_drop hk
        have hdj := tot_drop_le K j
        obtain ⟨s, hs⟩ : ∃ s, s = tot (K.drop (j + 1)) := ⟨_, rfl⟩
        rw [← hs] at htd
        simp only [← hs]
        obtain ⟨y, a⟩ := k
        simp only at m0 m1 htd
        have hjn : j < n := by omega
        have hsa : s + a < 8796093022208 := by omega
        have HTD := hid htd
        have HKJ := hid hk
        clear htd hk hdj hdl h0
        have hblt : b < wr.heap.size := Nat.lt_of_lt_of_le hlt HT.out.size
        have HSS := hid hs
        clear hs
        cases h
        · by_cases hw : y < v
          · have HW := hid hw
            go_wp2_with fail
            try rw [Exit.noGoto_ret]
            go_ret
            rw [HSS.out]
            exact (forgot_end (e := j + 1) HK.out HX.out hgb HS.out (by have := HN.out; omega) HB.out (.inr ⟨(y, a), by simpa using HKJ.out, by simpa [win] using HW.out⟩) HT.out).alloc _
          · have HW := hid hw
            go_wp2_with fail
            go_roundw
            case rel => exact ⟨j, by rw [HTD.out]; simp, by simp, by have := HN.out; omega, fun k hk => by
              rw [List.drop_eq_getElem_cons (by have := HN.out; omega)] at hk
              rcases List.mem_cons.1 hk with rfl | hk
              · have e := (List.getElem?_eq_some_iff.1 HKJ.out).2
                rw [e]
                have := HW.out
                simp [win]; omega
              · exact HB.out k hk, HT.out.trans ((Below.refl _ _).alloc HT.out.size _)⟩
            case measure => simp [intOf]
        · by_cases hw : v < y
          · have HW := hid hw
            go_wp2_with fail
            try rw [Exit.noGoto_ret]
            go_ret
            rw [HSS.out]
            exact (forgot_end (e := j + 1) HK.out HX.out hgb HS.out (by have := HN.out; omega) HB.out (.inr ⟨(y, a), by simpa using HKJ.out, by simpa [win] using HW.out⟩) HT.out).alloc _
          · have HW := hid hw
            go_wp2_with fail
            go_roundw
            case rel => exact ⟨j, by rw [HTD.out]; simp, by simp, by have := HN.out; omega, fun k hk => by
              rw [List.drop_eq_getElem_cons (by have := HN.out; omega)] at hk
              rcases List.mem_cons.1 hk with rfl | hk
              · have e := (List.getElem?_eq_some_iff.1 HKJ.out).2
                rw [e]
                have := HW.out
                simp [win]; omega
              · exact HB.out k hk, HT.out.trans ((Below.refl _ _).alloc HT.out.size _)⟩
            case measure => simp [intOf]
end Go.Proofs.Ytccgbkafcbfcgaa
