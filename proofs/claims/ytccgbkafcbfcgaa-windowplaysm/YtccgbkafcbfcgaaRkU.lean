/- A number that comes, and one that leaves. -/
import Derived.Test.YtccgbkafcbfcgaaMgE
import Derived.Deep.RegionLaw
namespace Go.Proofs.Ytccgbkafcbfcgaa
open Go.RowKit

theorem cell_new_one (w : World) (v : Int) : Rd (w.alloc (.cells #[.int .i64 v] 2)) (.slice (some ⟨w.heap.size, 0, none⟩) 1 1) [v] := by
  refine ⟨_, 1, rfl, .inr ⟨w.heap.size, 0, rfl, by simp, fun i x hx => ?_⟩⟩
  have hi : i < 1 := (List.getElem?_eq_some_iff.1 hx).1
  obtain rfl : i = 0 := by omega
  simp at hx
  subst hx
  exact (Box.new w [.int .i64 v] 2).cell 0 _ rfl
/-- What a call leaves that turns the numbers: they are S now. -/
def Turns (w : World) (b g : Nat) (S : List Int) (w' : World) : Prop := ∃ g', Rk w' b g' S ∧ Turn [b, g] w w' ∧ (g' = g ∨ g' = b ∨ w.heap.size ≤ g')
theorem RkIs.next {w w' : World} {b g : Nat} {lv : Value} {S : List Int} (h : RkIs w b g lv S) (t : Below w.heap.size w w') : RkIs w' b g lv S :=
  ⟨h.box.next t, h.sl.imp_right (fun x => ⟨x.1, x.2.elim fun J y => ⟨J, y.next t⟩⟩)⟩
theorem Turn.undrew {T : List Nat} {w w' : World} (h : Turn T w.drew w') : Turn T w w' := ⟨h.os, h.tape, h.output, h.size, h.block⟩
/-- Behind the append. -/
theorem put_grown {w w1 w2 : World} {b g : Nat} {lv lv2 : Value} {S : List Int} {v : Int} (x : RkIs w1 b g lv S) (hB : Below w.heap.size w w1) (hA : Apd w1 g lv lv2 (S ++ [v]) w2) :
    ∃ g2 J, g2 ≠ b ∧ BAt w2 g2 lv2 (S ++ [v]) J ∧ Box w2 b [lv] ∧ Turn [b, g] w w2 ∧ (g2 = g ∨ w.heap.size ≤ g2) := by
  have sz := hB.size
  rcases hA with ⟨_, e, _⟩ | ⟨J, h1, h2, h3⟩ | ⟨g', J, h1, h2, h3⟩
  · simp at e
  · rcases x.sl with ⟨e, _⟩ | ⟨hn, _⟩
    · exact absurd e h3
    · exact ⟨g, J, hn, h1, x.box.turn h2 (by simpa using Ne.symm hn), (Turn.of_below (S := [b, g]) hB).trans h2 (by simp), .inl rfl⟩
  · have := x.box.lt
    exact ⟨g', J, by omega, h1, x.box.next h2, (Turn.of_below (S := [b, g]) hB).andBelow h2, .inr (by omega)⟩
/-- Behind the store of the list that was appended to. -/
theorem put_stored {w w2 : World} {b g g2 : Nat} {lv lv2 : Value} {S J : List Int} {v : Int} (hA : BAt w2 g2 lv2 (S ++ [v]) J) (hb : Box w2 b [lv]) (ht : Turn [b, g] w w2) (hne : g2 ≠ b) :
    Box (w2.setCell ⟨b, 0, none⟩ lv2) b [lv2] ∧ BAt (w2.setCell ⟨b, 0, none⟩ lv2) g2 lv2 (S ++ [v]) J ∧ Turn [b, g] w (w2.setCell ⟨b, 0, none⟩ lv2) :=
  ⟨hb.set 0 (by simp) _, hA.turn (Turn.set (S := [b]) _ _ _ (by simp)) (by simpa using hne), ht.andSet _ _ (.inl (by simp))⟩
/-- Behind the move and the store of the number. -/
theorem put_end {w w3 w4 : World} {b g g2 c n : Nat} {lv2 : Value} {S J : List Int} {v : Int} (hA : BAt w3 g2 lv2 (S ++ [v]) J) (hb : Box w3 b [lv2]) (ht : Turn [b, g] w w3) (hne : g2 ≠ b) (hg : g2 = g ∨ w.heap.size ≤ g2) (hc : c = cnt v S) (hn : n = S.length - c)
    (hm : Blk w4 g2 (mv ((S ++ [v]) ++ J) (c + 1) c n)) (h4 : Turn [g2] w3 w4) :
    Box w4 b [lv2] ∧ (∃ u, w4.cell? ⟨g2, c, none⟩ = some (.int .i64 u)) ∧ w4.frozen? ⟨g2, c, none⟩ = false ∧ Turns w b g (ins v S) (w4.setCell ⟨g2, c, none⟩ (.int .i64 v)) := by
  subst hc hn
  have hcl := cnt_le v S
  have hb4 := hb.turn h4 (by simpa using Ne.symm hne)
  have hlen : (mv ((S ++ [v]) ++ J) (cnt v S + 1) (cnt v S) (S.length - cnt v S)).length = S.length + 1 + J.length := by
    have := congrArg List.length (mv_ins (S := S) (J := J) (v := v))
    simpa [ins_length] using this
  have hput := hm.put (cnt v S) v
  rw [mv_ins] at hput
  have tset : Turn [b, g] w (w4.setCell ⟨g2, cnt v S, none⟩ (.int .i64 v)) := by
    refine (ht.trans h4 (fun i hi => ?_)).andSet _ _ ?_
    · simp at hi
      subst hi
      rcases hg with e | e
      · exact .inl (by simp [e])
      · exact .inr e
    · rcases hg with e | e
      · exact .inl (by simp [e])
      · exact .inr e
  refine ⟨hb4, ⟨_, box_cell hm.box (List.getElem?_eq_getElem (by omega))⟩, box_free hm.box (by omega), g2, ⟨lv2, hb4.other (Ne.symm hne), .inr ⟨hne, J, ?_, hput, ?_⟩⟩, tset, ?_⟩
  · rw [hA.val, ins_length]
    simp
  · have := hA.most
    rw [ins_length]
    simpa using this
  · rcases hg with e | e
    · exact .inl e
    · exact .inr (.inr e)
set_option maxRecDepth 20000 in
set_option maxHeartbeats 1000000 in
theorem rPut (b g : Nat) (S : List Int) (v : Int) (w : World) (x : Rk w b g S) (ha : Asc S) (hl : S.length < 17592186044415) :
    Calls Try.prog 44 #[.pointer (some ⟨b, 0, none⟩), .int .i64 v] w fun e w' => e = .returned (.tuple #[]) ∧ Turns w b g (ins v S) w' := by
  have hlt := x.lt
  have HU := hid (rUpTo b g S v w x ha (by omega))
  have HX := hid x
  have hcl := cnt_le v S
  obtain ⟨c, hc⟩ : ∃ c, c = cnt v S := ⟨_, rfl⟩
  rw [← hc] at HU hcl
  have HC := hid hc
  clear x ha hc
  go_enter Try.func44, Try.ntmps44
  go_wp2_with fail
  refine Calls.mono HU.out ?_
  rintro e w1 ⟨rfl, hB⟩
  obtain ⟨lv, hx⟩ := HX.out.next hB
  obtain ⟨c0, f0⟩ := hx.box.single
  have hlt1 := hx.box.lt
  have HI := hid hx
  have HB := hid hB
  obtain ⟨a, k, hv⟩ := hx.shape
  subst hv
  clear hx hB
  go_wp2_with (at_builtin; refine wpList_append_b _ rfl _ _ rfl g (.slice a S.length k) S rfl (HI.out.sl.elim (fun h => .inl ⟨h.1, h.2.1⟩) (fun h => .inr (h.2.elim fun J h => ⟨J, h.next ((Below.refl _ _).alloc (Nat.le_refl _) _)⟩))) (.slice (some ⟨w1.heap.size, 0, none⟩) 1 1) [v] rfl (cell_new_one w1 v) (by simp; omega) ?_; intro lv2 w2 h2; obtain ⟨g2, J, hne, hA2, hb2, ht2, hg2⟩ := put_grown (HI.out.next ((Below.refl _ _).alloc (Nat.le_refl _) _)) (HB.out.trans (((Below.refl _ _).alloc (Nat.le_refl _) _).mono HB.out.size)) h2; have hv2 := hA2.val; subst hv2; obtain ⟨d0, e0⟩ := hb2.single; have hlt2 := hb2.lt; have HA2 := hid hA2; have HT2 := hid ht2; have HB2 := hid hb2; clear h2 hA2 ht2 hb2)
  obtain ⟨hb3, hA3, ht3⟩ := put_stored HA2.out HB2.out HT2.out hne
  simp only [List.length_append, List.length_cons, List.length_nil, Nat.zero_add] at hb3 hA3 ht3
  revert hb3 hA3 ht3
  generalize w2.setCell { block := b, off := 0 } (Value.slice (some { block := g2, off := 0 }) (S.length + 1) (S.length + 1 + J.length)) = w3
  intro hb3 hA3 ht3
  clear d0 e0 hlt2 HA2 HT2 HB2
  obtain ⟨d0, e0⟩ := hb3.single
  have hlt3 := hb3.lt
  have HB3 := hid hb3
  have HA3 := hid hA3
  have HT3 := hid ht3
  obtain ⟨n, hn⟩ : ∃ n, n = S.length := ⟨_, rfl⟩
  rw [← hn] at HB3 HA3 d0 hcl hl
  rw [← hn]
  obtain ⟨q, hq⟩ : ∃ q, q = n + 1 + J.length := ⟨_, rfl⟩
  rw [← hq] at HB3 HA3 d0
  rw [← hq]
  have HNN := hid hn
  have HQ := hid hq
  have hqn : n + 1 ≤ q := by omega
  clear hb3 hA3 ht3 hn hq
  have hwr : IntKind.i64.wrap ((c : Int) + 1) = (c : Int) + 1 := wrap_small _ (by omega) (by omega)
  have hnat : ((c : Int) + 1).toNat = c + 1 := by omega
  have hle : (c : Int) ≤ (n : Int) := by omega
  have hle1 : (c : Int) ≤ (n : Int) + 1 := by omega
  have hge : 0 ≤ (c : Int) + 1 := by omega
  have hqc : ¬ q = c := by omega
  have hci : (c : Int) < (n : Int) + 1 := by omega
  by_cases hcn : c < n
  · have hqd : ¬ q = c + 1 := by omega
    go_region_law (refine step_copy_b rfl (.tmp 26) (.tmp 32) rfl (some ⟨g2, c + 1, none⟩) (some ⟨g2, c, none⟩) (n - c) (q - (c + 1)) (n + 1 - c) (q - c) (by simp [Act.eval, Act.put]) (by simp [Act.eval, Act.put]) g2 ((S ++ [v]) ++ J) (HA3.out.blk.alike rfl) (c + 1) c (n - c) (by simp only [Nat.min_def]; split <;> omega) (fun _ => ⟨rfl, rfl⟩) (by have := HNN.out; simp; omega) (by have := HNN.out; simp; omega) ?_; intro w4 hm4 ht4; obtain ⟨hb4, ⟨u4, hu4⟩, hf4, hend⟩ := put_end HA3.out HB3.out HT3.out hne hg2 HC.out (by rw [HNN.out]) hm4.out ht4.undrew; obtain ⟨d4, e4⟩ := hb4.single; have hlt4 := hb4.lt; have HE := hid hend; clear hend hm4 ht4 hb4)
    all_goals go_wp2_with fail
    all_goals go_end0
    all_goals exact ⟨rfl, HE.out⟩
  · by_cases hqd : q = c + 1
    · subst hqd
      go_region_law (refine step_copy_b rfl (.tmp 26) (.tmp 32) rfl (some ⟨g2, 0, none⟩) (some ⟨g2, c, none⟩) (n - c) 0 (n + 1 - c) 1 (by first | (simp [Act.eval, Act.put]; done) | (simp [Act.eval, Act.put]; omega)) (by first | (simp [Act.eval, Act.put]; done) | (simp [Act.eval, Act.put]; omega)) g2 ((S ++ [v]) ++ J) (HA3.out.blk.alike rfl) (c + 1) c (n - c) (by simp only [Nat.min_def]; split <;> omega) (fun h => absurd h (by omega)) (by have := HNN.out; simp; omega) (by have := HNN.out; simp; omega) ?_; intro w4 hm4 ht4; obtain ⟨hb4, ⟨u4, hu4⟩, hf4, hend⟩ := put_end HA3.out HB3.out HT3.out hne hg2 HC.out (by rw [HNN.out]) hm4.out ht4.undrew; obtain ⟨d4, e4⟩ := hb4.single; have hlt4 := hb4.lt; have HE := hid hend; clear hend hm4 ht4 hb4)
      all_goals go_wp2_with fail
      all_goals go_end0
      all_goals exact ⟨rfl, HE.out⟩
    · go_region_law (refine step_copy_b rfl (.tmp 26) (.tmp 32) rfl (some ⟨g2, c + 1, none⟩) (some ⟨g2, c, none⟩) (n - c) (q - (c + 1)) (n + 1 - c) (q - c) (by first | (simp [Act.eval, Act.put]; done) | (simp [Act.eval, Act.put]; omega)) (by first | (simp [Act.eval, Act.put]; done) | (simp [Act.eval, Act.put]; omega)) g2 ((S ++ [v]) ++ J) (HA3.out.blk.alike rfl) (c + 1) c (n - c) (by simp only [Nat.min_def]; split <;> omega) (fun h => absurd h (by omega)) (by have := HNN.out; simp; omega) (by have := HNN.out; simp; omega) ?_; intro w4 hm4 ht4; obtain ⟨hb4, ⟨u4, hu4⟩, hf4, hend⟩ := put_end HA3.out HB3.out HT3.out hne hg2 HC.out (by rw [HNN.out]) hm4.out ht4.undrew; obtain ⟨d4, e4⟩ := hb4.single; have hlt4 := hb4.lt; have HE := hid hend; clear hend hm4 ht4 hb4)
      all_goals go_wp2_with fail
      all_goals go_end0
      all_goals exact ⟨rfl, HE.out⟩
end Go.Proofs.Ytccgbkafcbfcgaa
