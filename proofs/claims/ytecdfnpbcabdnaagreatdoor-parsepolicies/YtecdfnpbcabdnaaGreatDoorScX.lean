/- The document's answer: Pieces. -/
import Derived.Test.YtecdfnpbcabdnaaGreatDoorScQ
import Derived.Test.YtecdfnpbcabdnaaGreatDoorScB
import Derived.OwnWalk
namespace Go.Proofs.YtecdfnpbcabdnaaGreatDoor
open Go.RowKit

theorem own_on {w w' : World} {B size : Nat} {e : TypeId} {v : Value} {n : Nat} {xs : List Value} (h : w.ownsRow B e size v n xs) (hb : Below w.heap.size w w') : w'.ownsRow B e size v n xs := by
  obtain ⟨h1, h2⟩ := h
  refine ⟨h1, ?_⟩
  rcases h2 with h2 | ⟨g, cap, cur, rfl, h3, h4, h5, h6, h7, h8⟩
  · exact .inl h2
  · exact .inr ⟨g, cap, cur, rfl, h3, (hb.block g (Array.getElem?_eq_some_iff.1 h4).1).trans h4, h5, h6, h7, h8⟩
theorem below_own {B B2 size : Nat} {e : TypeId} {W wr w' : World} {v : Value} {n : Nat} {xs : List Value} (hbl : Below B W wr) (hs : B ≤ wr.heap.size) (o : Obj) (hB : B ≤ B2) (hown : wr.ownsRow B2 e size v n xs) (hg : (wr.alloc o).grownBy w' v.ownBlock) : Below B W w' :=
  (hbl.alloc hs o).grown hg (by simp; omega) (fun k hk => Nat.le_trans hB (hown.lt k hk).1)
theorem own_val {w : World} {B size : Nat} {e : TypeId} {v : Value} {n : Nat} {xs : List Value} (h : w.ownsRow B e size v n xs) : ∃ a c, v = .slice a n c := by
  rcases h.2 with ⟨rfl, rfl⟩ | ⟨g, cap, cur, rfl, _⟩
  · exact ⟨_, _, rfl⟩
  · exact ⟨_, _, rfl⟩
/-- Pieces as the heap holds them. -/
def pcs (l : List (Int × Int)) : List Value := l.flatMap fun p => [.int .i64 p.1, .int .i64 p.2]
theorem pcs_snoc (l : List (Int × Int)) (r p : Int) : pcs (l ++ [(r, p)]) = pcs l ++ [.int .i64 r, .int .i64 p] := by simp [pcs]
theorem pcs_get : ∀ (l : List (Int × Int)) (i : Nat) (p : Int × Int), l[i]? = some p → (pcs l)[2 * i]? = some (.int .i64 p.1) ∧ (pcs l)[2 * i + 1]? = some (.int .i64 p.2)
  | [], _, _, h => by simp at h
  | q :: t, 0, p, h => by
    simp at h
    subst h
    exact ⟨rfl, rfl⟩
  | q :: t, i + 1, p, h => by
    have := pcs_get t i p (by simpa using h)
    exact this
abbrev toI (l : List (Nat × Nat)) : List (Int × Int) := l.map fun p => ((p.1 : Int), (p.2 : Int))
theorem info_pc : (Tryz.prog.info? 86).map (fun i => (i.zero, i.size, i.bytes)) = some (some (.agg #[.int .i64 0, .int .i64 0]), 2, 16) := by kernel_rfl
theorem cell_two_new (w : World) (a b : Value) (t : TypeId) : ∀ j u, [a, b][j]? = some u → (w.alloc (.cells #[a, b] t)).cell? ((⟨w.heap.size, 0, none⟩ : Addr).add j) = some u := by
  intro j u hj
  match j, hj with
  | 0, hj => simp at hj; subst hj; simp [Addr.add]
  | 1, hj => simp at hj; subst hj; simp [Addr.add]
  | j + 2, hj => simp at hj

/-- What Pieces leaves. -/
structure PcPost (s : ByteArray) (w : World) (e : Ending) (w' : World) : Prop where
  val : ∃ v, e = .returned (.tuple #[v, .int .i64 ((sd 10 11 s (rs s 0)).1 : Nat), .int .i64 (sd 10 11 s (rs s 0)).2]) ∧ (if (sd 10 11 s (rs s 0)).2 = 0 then w'.ownsRow w.heap.size 86 2 v (rs s 0).length (pcs (toI (rs s 0))) else v = .slice none 0 0)
  bel : Below w.heap.size w w'

set_option maxHeartbeats 1000000 in
theorem pieces_c (s : ByteArray) (hz : s.size ≤ 1048576) (w : World) : Calls Tryz.prog 55 #[.string s] w (PcPost s w) := by
  obtain ⟨i0, hi, hz0, hz1, hz2⟩ := info_parts info_pc
  go_enter Tryz.func55, Tryz.ntmps55
  go_wp2_with fail
  go_loopw [5, 6] (fun v s6 wr => ∃ (pos : Nat) (l : List (Nat × Nat)), s6 = .int .i64 pos ∧ pos ≤ s.size ∧ l.length ≤ pos ∧ Hid (l ++ rs s pos = rs s 0) ∧ wr.ownsRow w.heap.size 86 2 v l.length (pcs (toI l)) ∧ Below w.heap.size w wr ∧ Hid (sd 10 11 s (rs s pos) = sd 10 11 s (rs s 0))) (fun _ s6 _ => match s6 with | .int _ p => ((s.size : Int) - p).toNat | _ => 0)
  case atStart => exact ⟨0, [], rfl, by omega, by simp, rfl, World.ownsRow_nil _ _ _ _, Below.refl _ _, rfl⟩
  case round =>
    obtain ⟨pos, l, rfl, hps, hll, HL, hown, hbw, HS⟩ := hrel
    by_cases hp : pos < s.size
    · have hp1 : (pos : Int) < (s.size : Int) := by omega
      have S := seq_c s pos hp (by omega) wr
      have hwd := width_pos s pos
      have hw4 := width_in s pos hp
      have HS' := HS.out
      have HL' := HL.out
      rw [rs_step hp] at HS' HL'
      simp only [sd] at HS'
      generalize hd : Utf8.decode s pos = d at *
      obtain ⟨r, k⟩ := d
      simp only [] at *
      by_cases hn : noSeq (r, k) = true
      · simp only [seqV, if_pos hn] at S
        have hf : flt 10 11 (r, k) = 10 := if_pos hn
        rw [hf, if_neg (by decide)] at HS'
        have HE : Hid (sd 10 11 s (rs s 0) = (pos, 10)) := HS'.symm
        clear HS HS' hd hn HL HL' hf
        go_wp2_with (go_at_call 78; refine S.mono ?_; rintro e w' ⟨rfl, rfl⟩)
        go_ret3
        exact ⟨⟨_, by rw [HE.out]; rfl, by rw [HE.out]; rfl⟩, hbw⟩
      · simp only [seqV, if_neg hn] at S
        have I := rLetIn_c (r : Int) wr
        have hf : flt 10 11 (r, k) = if decide (InP (r : Int)) = true then 0 else 11 := by unfold flt; rw [if_neg hn, lets_in]
        rw [hf] at HS'
        obtain ⟨b, hb⟩ : ∃ b, Hid (b = decide (InP (r : Int))) := ⟨_, rfl⟩
        rw [← hb.out] at I HS'
        have k0 : ((k : Int) == 0) = false := beq_eq_false_iff_ne.2 (by omega)
        cases b with
        | false =>
          have HE : Hid (sd 10 11 s (rs s 0) = (pos, 11)) := HS'.symm
          clear HS HS' hd hn HL HL' hf hb
          go_wp2_with (first
            | (go_at_call 78; refine S.mono ?_; rintro e w' ⟨rfl, rfl⟩)
            | (go_at_call 79; refine I.mono ?_; rintro e w' ⟨rfl, rfl⟩))
          go_ret3
          exact ⟨⟨_, by rw [HE.out]; rfl, by rw [HE.out]; rfl⟩, hbw⟩
        | true =>
          have HE : Hid (sd 10 11 s (rs s (pos + k)) = sd 10 11 s (rs s 0)) := HS'
          have HM : Hid ((l ++ [(r, pos)]) ++ rs s (pos + k) = rs s 0) := by show _ = _; rw [← HL']; simp
          have hsz := hbw.size
          have hkw : IntKind.i64.wrap ((pos : Int) + (k : Int)) = ((pos + k : Nat) : Int) := by rw [IntKind.wrap_i64]; omega
          clear HS HS' hd hn HL HL' hf hb
          go_wp2_with (first
            | (go_at_call 78; refine S.mono ?_; rintro e w' ⟨rfl, rfl⟩)
            | (go_at_call 79; refine I.mono ?_; rintro e w' ⟨rfl, rfl⟩)
            | (at_builtin; refine wpList_append_own _ rfl _ _ 82 rfl w.heap.size 86 i0 (.agg #[.int .i64 0, .int .i64 0]) 2 16 Tryz.underlying82 hi hz0 hz1 hz2 rfl (by decide) _ _ _ rfl (hown.alloc _) ⟨_, 0, none⟩ 1 1 [.int .i64 (r : Int), .int .i64 (pos : Int)] rfl rfl ?c1 ?c2 ?c3 ?c4 ?c5 ?_))
          case c1 => exact cell_two_new _ _ _ _
          case c2 => intro u hu; simp at hu; rcases hu with rfl | rfl <;> rfl
          case c3 => unfold maxLen; omega
          case c4 => omega
          case c5 => simp; omega
          intro v' w1 hown' hgrow _
          have hown2 : w1.ownsRow w.heap.size 86 2 v' (l ++ [(r, pos)]).length (pcs (toI (l ++ [(r, pos)]))) := by
            have e : toI (l ++ [(r, pos)]) = toI l ++ [((r : Int), (pos : Int))] := by simp [toI]
            rw [e, pcs_snoc, List.length_append]
            exact hown'
          have hbl2 := below_own hbw hsz _ (Nat.le_refl _) hown hgrow
          clear hown' hgrow
          go_wp2_with fail
          go_roundw
          case rel => exact ⟨pos + k, l ++ [(r, pos)], rfl, hw4, by simp; omega, HM.out, hown2, hbl2, HE.out⟩
          case measure => simp only []; omega
    · have hp1 : ¬ (pos : Int) < (s.size : Int) := by omega
      have HS' := HS.out
      have HL' := HL.out
      rw [rs_end hp] at HS' HL'
      rw [List.append_nil] at HL'
      subst HL'
      have HE : Hid (sd 10 11 s (rs s 0) = (0, 0)) := HS'.symm
      clear HS HS' HL
      go_wp2_with fail
      go_ret3
      exact ⟨⟨_, by rw [HE.out]; rfl, by rw [HE.out]; exact hown⟩, hbw⟩
end Go.Proofs.YtecdfnpbcabdnaaGreatDoor
