/- Package cron: a schedule's text. -/
import Derived.Test.YtddinknnaakmmabDoorCroH
namespace Go.Proofs.YtddinknnaakmmabDoor
open Go.RowKit Go.Deep

theorem cfB_set {c : Cr} (fc : c.Fits) (h : cfB c = true) : ∀ i, i < 5 → OkSet (c.get i) (lowN i) (highN i) := fun i hi => by
  obtain ⟨h1, h2⟩ := (okB_iff _ _ _).1 ((cfB_iff c).1 h i hi)
  exact ⟨fc.get i, h1, fun j hj => h2 j (bit_lt (fc.get i) hj) hj⟩
theorem set_cfB {c : Cr} (h : ∀ i, i < 5 → OkSet (c.get i) (lowN i) (highN i)) : cfB c = true :=
  (cfB_iff c).2 fun i hi => (okB_iff _ _ _).2 ⟨(h i hi).ne, fun j _ hj => (h i hi).bits j hj⟩
theorem grown_below {w w' : World} (h : w.grownBy w' none) : Below w.heap.size w w' := ⟨h.os, h.tape, h.output, h.size, fun k hk => h.block k hk (by simp)⟩
def fldsT (c : Cr) (n : Nat) : List (List UInt8) := (List.range n).map fun j => fieldT (c.get j) (lowN j) (highN j)
theorem fldsT_succ (c : Cr) (n : Nat) : fldsT c (n + 1) = fldsT c n ++ [fieldT (c.get n) (lowN n) (highN n)] := by
  unfold fldsT; rw [List.range_succ]; simp
theorem fldsT_len (c : Cr) (n : Nat) : (fldsT c n).length = n := by unfold fldsT; simp
theorem fldsT_join (c : Cr) : Lib.join (fldsT c 5) [32] = textL c.get := textL_join c.get
def textV (c : Cr) : Value := if cfB c = true then .tuple #[strV (textL c.get), .int .i64 0] else .tuple #[.string ⟨#[]⟩, .int .i64 1]
def TextPost (c : Cr) (w : World) (e : Ending) (w' : World) : Prop := e = .returned (textV c) ∧ Below w.heap.size w w'
set_option maxHeartbeats 4000000 in
set_option maxRecDepth 20000 in
theorem Text_any (c : Cr) (fc : c.Fits) (w : World) (hF : FldAt w) (hT : TzAt w) :
    Calls Tryd.prog 7 #[cronV c] w (TextPost c w) := by
  obtain ⟨i0, hi0, hz0, hz1, hz2⟩ := info_parts info_str
  obtain ⟨cb, l0⟩ := one_box w 24 (u5 c.a c.b c.c c.d c.e)
  have hF0 := hF.later l0
  have hT0 := hT.later l0
  have hfm := Formed_any c fc _ hF0
  obtain ⟨o0, o1, o2, o3, o4, _⟩ := cb.five
  cases hc : cfB c with
  | false =>
    have hv : textV c = .tuple #[.string ⟨#[]⟩, .int .i64 1] := if_neg (by rw [hc]; decide)
    have HV : Hid _ := hv
    have HC : Hid _ := hc
    have HF : Hid _ := hfm
    clear hv hc hfm
    go_enter Tryd.func7, Tryd.ntmps7
    go_wp2_with fail
    refine Calls.mono HF.out ?_
    rintro e w1 ⟨rfl, hb1⟩
    rw [HC.out]
    go_wp2_with fail
    go_ret2
    exact ⟨by rw [HV.out]; rfl, l0.trans (hb1.mono l0.size)⟩
  | true =>
    have hv : textV c = .tuple #[strV (textL c.get), .int .i64 0] := if_pos hc
    have hset := cfB_set fc hc
    have hs := sets_any c.a c.b c.c c.d c.e
    have HV : Hid _ := hv
    have HC : Hid _ := hc
    have HF : Hid _ := hfm
    have HS : Hid _ := hset
    clear hv hc hfm hset
    go_enter Tryd.func7, Tryd.ntmps7
    go_wp2_with fail
    refine Calls.mono HF.out ?_
    rintro e w1 ⟨rfl, hb1⟩
    rw [HC.out]
    have bl1 := l0.trans (hb1.mono l0.size)
    have cb1 := cb.next hb1
    have hF1 := hF0.later hb1
    have hT1 := hT0.later hb1
    clear o0 o1 o2 o3 o4 hb1 cb l0 hF0 hT0 hF hT
    go_wp2_with (at_make; refine wpList_make_own _ rfl _ _ 48 rfl w1.heap.size 9 i0 (.string ⟨#[]⟩) 1 Tryd.underlying48 hi0 hz0 hz1 .i64 .i64 _ 5 rfl rfl rfl (by rw [hz2]; omega) (by unfold maxLen; omega) (Nat.le_refl _) ?_; intro w2 hown2 hgrow2; have hb2 := grown_below hgrow2; have cb2 := cb1.next hb2; obtain ⟨o0, o1, o2, o3, o4, _⟩ := cb2.five; clear hgrow2)
    refine (hs _).mono ?_
    rintro e w3 ⟨rfl, hb3⟩
    have hown3 := own_later hown2 hb3
    have bl2 := bl1.trans (hb2.mono bl1.size)
    have bl3 := bl2.trans (hb3.mono bl2.size)
    have hF3 := (hF1.later hb2).later hb3
    have hT3 := (hT1.later hb2).later hb3
    have hbw : Below w1.heap.size w1 w3 := hb2.trans (hb3.mono hb2.size)
    clear o0 o1 o2 o3 o4 hown2 hb3 cb2 cb1 hs bl2 hb2
    go_wp2_with fail
    go_loopw [4, 13] (fun p q wr => ∃ i : Nat, q = .int .i64 i ∧ i ≤ 5 ∧ wr.ownsRow w1.heap.size 9 1 p (fldsT c i).length ((fldsT c i).map strV) ∧ Below w1.heap.size w1 wr) (fun _ q _ => (5 - intOf q).toNat)
    case atStart => exact ⟨0, rfl, by decide, hown3, hbw⟩
    case round =>
      obtain ⟨i, rfl, hi5, hown, hbl⟩ := hrel
      have hFr := hF1.later hbl
      have hTr := hT1.later hbl
      have hsr := hbl.size
      by_cases hlt : i < 5
      · have hix := idx_set c i hlt
        have k1 : (i : Int) < 5 := by omega
        obtain ⟨q0, q1⟩ := hFr.row i hlt
        have hft := fun wx hx => fieldText_any (c.get i) (lowN i) (highN i) (HS.out i hlt) (low_high i) (highN_lt i) wx hx
        have hsucc := fldsT_succ c i
        have hln := fldsT_len c i
        have HF2 : Hid _ := hft
        have HSU : Hid _ := hsucc
        have HLN : Hid _ := hln
        clear hft hsucc hln hF1 hT1 hFr hF3 hT3 hown3 hbw bl3
        generalize fieldT (c.get i) (lowN i) (highN i) = it at *
        generalize c.get i = S at *
        generalize lowN i = lo at *
        generalize highN i = hi9 at *
        generalize fldsT c i = its at *
        go_wp2_with fail
        refine (HF2.out _ hTr).mono ?_
        rintro e w4 ⟨rfl, hb4⟩
        have hown4 := own_later hown hb4
        have hbl4 := hbl.trans (hb4.mono hsr)
        have hs4 : w1.heap.size ≤ w4.heap.size := Nat.le_trans hsr hb4.size
        have hl5 : its.length ≤ 5 := by rw [HLN.out]; omega
        clear hown hbl hb4 hTr
        go_wp2_with (at_builtin; refine wpList_append_own _ rfl _ _ 48 rfl w1.heap.size 9 i0 (.string ⟨#[]⟩) 1 16 Tryd.underlying48 hi0 hz0 hz1 hz2 rfl (by decide) _ _ _ rfl (hown4.alloc _) ⟨w4.heap.size, 0, none⟩ 1 1 [strV it] rfl rfl ?c1 ?c2 ?c3 ?c4 ?c5 ?_)
        case c1 => exact cell_one_new _ _ _
        case c2 => intro u hu; simp at hu; subst hu; rfl
        case c3 => unfold maxLen; omega
        case c4 => omega
        case c5 => simp; omega
        intro v' w5 hown' hgrow _
        have hown5 := own_str hown'
        have hbl5 := below_str hbl4 hs4 _ hown4 hgrow
        clear hown' hgrow
        go_wp2_with fail
        exact ⟨⟨i + 1, by go_num, by omega, by rw [HSU.out]; exact hown5, hbl5⟩, by simp [intOf]; omega⟩
      · obtain rfl : i = 5 := by omega
        have htl := textL_len c.get HS.out
        have hJ := join_own hown (fun e => by have := fldsT_len c 5; rw [e] at this; cases this) [32] (by rw [fldsT_len]; omega) (by rw [fldsT_join]; omega)
        rw [fldsT_join] at hJ
        have HJ : Hid _ := hJ
        clear hJ htl hown hFr hTr hF1 hT1 hF3 hT3 hown3
        go_wp2_with fail
        refine Calls.mono HJ.out ?_
        rintro e w6 ⟨rfl, hb6⟩
        go_wp2_with fail
        go_ret2
        exact ⟨by rw [HV.out]; rfl, (bl1.trans (hbl.mono bl1.size)).trans (hb6.mono (Nat.le_trans bl1.size hsr))⟩
end Go.Proofs.YtddinknnaakmmabDoor
