/- Package cron: a field's text. -/
import Derived.Test.YtddinknnaakmmabDoorCroG
import Derived.Test.YtddinknnaakmmabDoorCroX
import Derived.Deep.OwnRows
import Derived.Maps.AppendAt
namespace Go.Proofs.YtddinknnaakmmabDoor
open Go.RowKit Go.Deep

theorem own_later {w w' : World} {B : Nat} {e : TypeId} {v : Value} {n : Nat} {xs : List Value} (h : w.ownsRow B e 1 v n xs) (hb : Below w.heap.size w w') : w'.ownsRow B e 1 v n xs := by
  obtain ⟨h1, h2⟩ := h
  refine ⟨h1, ?_⟩
  rcases h2 with h2 | ⟨g, cap, cur, rfl, h3, h4, h5, h6, h7, h8⟩
  · exact .inl h2
  · exact .inr ⟨g, cap, cur, rfl, h3, (hb.block g (Array.getElem?_eq_some_iff.1 h4).1).trans h4, h5, h6, h7, h8⟩
theorem info_str : (Tryd.prog.info? 9).map (fun i => (i.zero, i.size, i.bytes)) = some (some (.string ⟨#[]⟩), 1, 16) := by kernel_rfl
theorem own_str {w : World} {B : Nat} {v : Value} {ds : List (List UInt8)} {d : List UInt8} (h : w.ownsRow B 9 1 v (ds.length + 1) (ds.map strV ++ [strV d])) : w.ownsRow B 9 1 v (ds ++ [d]).length ((ds ++ [d]).map strV) := by
  simpa using h
theorem below_str {B : Nat} {W wr w' : World} {v : Value} {n : Nat} {xs : List Value} (hbl : Below B W wr) (hs : B ≤ wr.heap.size) (o : Obj) (hown : wr.ownsRow B 9 1 v n xs) (hg : (wr.alloc o).grownBy w' v.ownBlock) : Below B W w' :=
  (hbl.alloc hs o).grown hg (by simp; omega) (fun k hk => (hown.lt k hk).1)
/-- A row of texts that the call owns, joined. -/
theorem join_own {w : World} {B : Nat} {v : Value} {its : List (List UInt8)} (h : w.ownsRow B 9 1 v its.length (its.map strV)) (hne : its ≠ []) (sep : List UInt8) (hl : its.length ≤ 1000) (hj : (Lib.join its sep).length ≤ 100000) :
    Calls Tryd.prog 17 #[v, strV sep] w fun e w' => e = .returned (strV (Lib.join its sep)) ∧ Below w.heap.size w w' := by
  obtain ⟨h1, h2⟩ := h
  rcases h2 with ⟨_, h2⟩ | ⟨g, cap, cur, rfl, h3, h4, h5, h6, h7, h8⟩
  · exact absurd (List.length_eq_zero_iff.1 h2) hne
  have hcells : ∀ (j : Nat) (y : ByteArray), (its.map fun l => (⟨l.toArray⟩ : ByteArray))[j]? = some y → w.cell? ⟨g, 0 + j, none⟩ = some (.string y) := by
    intro j y hy
    have hj : (cur.toList.take (its.length * 1))[j]? = some (.string y) := by
      rw [h8, List.getElem?_map]
      rw [List.getElem?_map] at hy
      cases hh : its[j]? with
      | none => rw [hh] at hy; cases hy
      | some l => rw [hh] at hy; cases hy; rfl
    have hlt' : j < its.length := by
      have := (List.getElem?_eq_some_iff.1 hy).1
      simpa using this
    rw [List.getElem?_take, if_pos (by omega)] at hj
    unfold World.cell?
    simp [h4]
    simpa using hj
  have hg : g < w.heap.size := (Array.getElem?_eq_some_iff.1 h4).1
  have hJ := Go.Proofs.Tryd.strings_Join g 0 cap (its.map fun l => (⟨l.toArray⟩ : ByteArray)) ⟨sep.toArray⟩ w hcells hg (by rw [List.length_map]; omega) (by rw [List.length_map]; exact h5) (by simpa [Function.comp_def] using (show (Lib.join its sep).length ≤ 140737488355328 by omega))
  rw [List.length_map] at hJ
  have ej : Lib.join (List.map (fun x => x.data.toList) (its.map fun l => (⟨l.toArray⟩ : ByteArray))) (ByteArray.mk sep.toArray).data.toList = Lib.join its sep := by simp [Function.comp_def]
  rw [ej] at hJ
  exact hJ

/-- How far a field's text has come. -/
structure RunsAt (S k : Nat) (ok : Bool) (its : List (List UInt8)) : Prop where
  yes : ok = true → startB S k = true ∧ k < 64 ∧ its = itemsUp S k
  no : ok = false → its = itemsUp S 64
  le : k ≤ 64
theorem RunsAt.first {S lo hi k : Nat} {b : Bool} (h : OkSet S lo hi) (hf : FromR S lo k b) : b = true ∧ RunsAt S k b [] := by
  cases b with
  | true =>
    have n := hf.1 rfl
    obtain ⟨h1, h2⟩ := items_first (fun i hi => (h.bits i hi).1) n
    exact ⟨rfl, fun _ => ⟨h1, n.lt, h2.symm⟩, (fun e => by cases e), Nat.le_of_lt n.lt⟩
  | false =>
    exfalso
    obtain ⟨_, hz⟩ := hf.2 rfl
    exact h.ne (Nat.eq_of_testBit_eq fun i => by
      rw [Nat.zero_testBit]
      cases hb : S.testBit i with
      | false => rfl
      | true => rw [hz i (h.bits i hb).1] at hb; cases hb)
theorem RunsAt.next {S a k : Nat} {b : Bool} {its : List (List UInt8)} (hS : S < 18446744073709551616) (h : RunsAt S a true its) (hf : FromR S (endOf S a + 1) k b) (hk : k ≤ 64) : RunsAt S k b (its ++ [runT a (endOf S a)]) ∧ (b = true → a < k) := by
  obtain ⟨h1, h2, h3⟩ := h.yes rfl
  have e := endOf_ends hS h2
  subst h3
  cases b with
  | true =>
    have n := hf.1 rfl
    obtain ⟨q1, q2⟩ := items_step h1 e rfl n
    have := n.le
    have := e.le
    exact ⟨⟨fun _ => ⟨q1, n.lt, q2.symm⟩, (fun e => by cases e), hk⟩, fun _ => by omega⟩
  | false => exact ⟨⟨(fun e => by cases e), fun _ => (items_last h1 e rfl (hf.2 rfl).2).symm, hk⟩, fun e => by cases e⟩
def okN (o : Value) : Nat := match o with
  | .bool true => 1
  | _ => 0
set_option maxHeartbeats 4000000 in
theorem fieldText_any (S lo hi : Nat) (h : OkSet S lo hi) (hl : lo ≤ hi) (hh : hi < 64) (w : World) (hT : TzAt w) :
    Calls Tryd.prog 16 #[fldV lo hi, .int .u64 S] w fun e w' => e = .returned (strV (fieldT S lo hi)) ∧ Below w.heap.size w w' := by
  obtain ⟨i0, hi0, hz0, hz1, hz2⟩ := info_parts info_str
  have ha := fun wx => all_any lo hi hl hh wx
  have hS := h.lt
  obtain ⟨xb, l0⟩ := one_box w 41 [.int .i64 lo, .int .i64 hi]
  have hT := hT.later l0
  by_cases hq : S = evS lo hi 1
  · have e : fieldT S lo hi = [42] := if_pos hq
    rw [e]
    have k1 : ((S : Int) == ((evS lo hi 1 : Nat) : Int)) = true := beq_iff_eq.2 (by omega)
    clear e hq
    generalize evS lo hi 1 = A at *
    obtain ⟨o0, o1, _⟩ := xb.two
    go_enter Tryd.func16, Tryd.ntmps16
    go_wp2_with fail
    refine (ha _).mono ?_
    rintro e w1 ⟨rfl, hb1⟩
    go_wp2_with fail
    go_ret
    exact ⟨rfl, l0.trans (hb1.mono l0.size)⟩
  · have e : fieldT S lo hi = Lib.join (itemsUp S 64) [44] := if_neg hq
    rw [e]
    have k1 : ((S : Int) == ((evS lo hi 1 : Nat) : Int)) = false := beq_eq_false_iff_ne.2 (by omega)
    clear e hq
    generalize evS lo hi 1 = A at *
    obtain ⟨o0, o1, _⟩ := xb.two
    have hf := fun wx hx => from_any S lo hS (by omega) wx hx
    have hrf := fun k b => @RunsAt.first S lo hi k b h
    have hil := itemsUp_len S
    have HRF : Hid _ := hrf
    have HIL : Hid _ := hil
    clear hrf hil
    go_enter Tryd.func16, Tryd.ntmps16
    go_wp2_with fail
    refine (ha _).mono ?_
    rintro e w1 ⟨rfl, hb1⟩
    have hT1 := hT.later hb1
    have xb1 := xb.next hb1
    obtain ⟨o0, o1, _⟩ := xb1.two
    have bl1 := l0.trans (hb1.mono l0.size)
    go_wp2_with fail
    refine (hf _ hT1).mono ?_
    rintro e w2 ⟨k, b, rfl, hR, hk, m, rfl⟩
    obtain ⟨rfl, hA⟩ := HRF.out k b hR
    have hT2 := hT1.later (below_drewN (Below.refl _ _) m)
    have bl2 := below_drewN bl1 m
    have hbb : Below (w1.drewN m).heap.size (w1.drewN m) (w1.drewN m) := Below.refl _ _
    have hsz : w.heap.size + 1 ≤ (w1.drewN m).heap.size := by have := hb1.size; simpa using this
    generalize w1.drewN m = w2 at *
    clear hR hf ha
    go_wp2_with fail
    go_loopw [5, 6, 7] (fun p f o wr => ∃ (a : Nat) (ok : Bool) (its : List (List UInt8)), f = .int .i64 a ∧ o = .bool ok ∧ RunsAt S a ok its ∧ wr.ownsRow w2.heap.size 9 1 p its.length (its.map strV) ∧ Below w2.heap.size w2 wr) (fun _ f o _ => if okN o = 1 then 65 - (intOf f).toNat else 0)
    case atStart => exact ⟨k, true, [], rfl, rfl, hA, World.ownsRow_nil _ _ _ _, hbb⟩
    case round =>
      obtain ⟨a, ok, its, rfl, rfl, hr, hown, hbl⟩ := hrel
      have hTr := hT2.later hbl
      have hsr := hbl.size
      cases ok with
      | true =>
        obtain ⟨q1, q2, q3⟩ := hr.yes rfl
        have he := endOf_ends hS q2
        have e1 := he.le
        have e2 := he.lt
        have hre := fun wx => runEnd_any S a hS q2 wx
        have hrt := fun wx => runText_any a (endOf S a) e1 e2 wx
        have hff := fun wx hx => from_any S (endOf S a + 1) hS (by omega) wx hx
        have hnx := fun k b => @RunsAt.next S a k b its hS hr
        have hlen : its.length ≤ 64 := by rw [q3]; exact Nat.le_trans (HIL.out a).1 (by omega)
        rw [show ((endOf S a + 1 : Nat) : Int) = ((endOf S a : Nat) : Int) + 1 by omega] at hff
        have HNX : Hid _ := hnx
        clear hnx hr q1 q3 he
        generalize runT a (endOf S a) = it at *
        generalize endOf S a = z at *
        clear hT hT1 xb xb1 o0 o1 hb1 bl1 l0 hA k1
        have HRE : Hid _ := hre
        have HRT : Hid _ := hrt
        have HFF : Hid _ := hff
        clear hre hrt hff
        go_wp2_with fail
        refine (HRE.out _).mono ?_
        rintro e w3 ⟨rfl, rfl⟩
        go_wp2_with fail
        refine (HRT.out _).mono ?_
        rintro e w4 ⟨rfl, m4, rfl⟩
        have hown4 := own_later hown (below_drewN (Below.refl _ _) m4)
        have hbl4 := below_drewN hbl m4
        have hT4 := hTr.later (below_drewN (Below.refl _ _) m4)
        have hs4 : w2.heap.size ≤ (wr.drewN m4).heap.size := hsr
        generalize wr.drewN m4 = w4 at *
        clear hown hbl hTr hsr
        go_wp2_with (at_builtin; refine wpList_append_own _ rfl _ _ 48 rfl w2.heap.size 9 i0 (.string ⟨#[]⟩) 1 16 Tryd.underlying48 hi0 hz0 hz1 hz2 rfl (by decide) _ _ _ rfl (hown4.alloc _) ⟨w4.heap.size, 0, none⟩ 1 1 [strV it] rfl rfl ?c1 ?c2 ?c3 ?c4 ?c5 ?_)
        case c1 => exact cell_one_new _ _ _
        case c2 => intro u hu; simp at hu; subst hu; rfl
        case c3 => unfold maxLen; omega
        case c4 => omega
        case c5 => simp; omega
        intro v' w5 hown' hgrow _
        have hown5 := own_str hown'
        have hbl5 := below_str hbl4 hs4 _ hown4 hgrow
        have hT5 := hT2.later hbl5
        clear hown' hgrow
        go_wp2_with fail
        refine (HFF.out _ hT5).mono ?_
        rintro e w6 ⟨k6, b6, rfl, hR6, hk6, m6, rfl⟩
        obtain ⟨hn6, hn7⟩ := HNX.out k6 b6 hR6 hk6
        have hown6 := own_later hown5 (below_drewN (Below.refl _ _) m6)
        have hbl6 := below_drewN hbl5 m6
        generalize w5.drewN m6 = w6 at *
        clear hown5 hbl5 hR6 hT5
        cases b6 with
        | true =>
          have hn8 := hn7 rfl
          go_wp2_with fail
          refine ⟨⟨k6, true, _, rfl, rfl, hn6, hown6, hbl6⟩, ?_⟩
          simp [intOf, okN]; omega
        | false =>
          go_wp2_with fail
          refine ⟨⟨k6, false, _, rfl, rfl, hn6, hown6, hbl6⟩, ?_⟩
          simp [intOf, okN]; omega
      | false =>
        have hit := hr.no rfl
        have hi64 := HIL.out 64
        have hne : its ≠ [] := by
          rw [hit, items_runs]
          intro e
          exact runs_some h.lt h.ne (List.map_eq_nil_iff.1 e)
        have hjl := join_len its [44] 5 1 (by rw [hit]; exact hi64.2) (by simp)
        have hl64 : its.length ≤ 64 := by rw [hit]; exact hi64.1
        have hJ := join_own hown hne [44] (by omega) (by omega)
        have HJ : Hid _ := hJ
        have HI : Hid _ := hit
        clear hJ hit hi64 hjl hne hT hT1 xb xb1 o0 o1 hb1 l0 hA k1 hown hr hTr
        go_wp2_with fail
        refine Calls.mono HJ.out ?_
        rintro e w3 ⟨rfl, hb3⟩
        go_wp2_with fail
        go_ret
        exact ⟨by rw [← HI.out]; rfl, (bl2.trans (hbl.mono bl2.size)).trans (hb3.mono (Nat.le_trans bl2.size hsr))⟩
end Go.Proofs.YtddinknnaakmmabDoor
