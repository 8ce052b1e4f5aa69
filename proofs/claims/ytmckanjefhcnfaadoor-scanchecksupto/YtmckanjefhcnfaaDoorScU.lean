/- Package scan: Runes. -/
import Derived.Test.YtmckanjefhcnfaaDoorScX
import Derived.Laws.MakeOwn
namespace Go.Proofs.YtmckanjefhcnfaaDoor
open Go.RowKit

theorem iter_grown {w w' : World} {k B size : Nat} {e : TypeId} {v : Value} {n : Nat} {xs : List Value} {s : ByteArray} {p : Nat} {o : Obj} (h : w.heap[k]? = some (.stringIter s p)) (hown : w.ownsRow B e size v n xs) (hg : (w.alloc o).grownBy w' v.ownBlock) : w'.heap[k]? = some (.stringIter s p) := by
  have hlt : k < w.heap.size := (Array.getElem?_eq_some_iff.1 h).1
  rw [hg.block k (by simp; omega) ?_, Below.heap_alloc _ _ _ hlt]
  · exact h
  · intro hk
    rcases hown.2 with ⟨rfl, _⟩ | ⟨g, cap, cur, rfl, _, hgg, _⟩
    · simp [Value.ownBlock] at hk
    · simp [Value.ownBlock] at hk
      subst hk
      rw [h] at hgg
      cases hgg
theorem own_iterAt {w : World} {k B size : Nat} {e : TypeId} {v : Value} {n : Nat} {xs : List Value} {s : ByteArray} {p : Nat} (hown : w.ownsRow B e size v n xs) (h : w.heap[k]? = some (.stringIter s p)) (q : Nat) : (w.iterAt k s q).ownsRow B e size v n xs := by
  obtain ⟨h1, h2⟩ := hown
  refine ⟨h1, ?_⟩
  rcases h2 with h2 | ⟨g, cap, cur, rfl, a, b, c⟩
  · exact .inl h2
  · refine .inr ⟨g, cap, cur, rfl, a, ?_, c⟩
    rw [Lib.iterAt_other _ _ _ _ _ (fun e => by subst e; rw [h] at b; cases b)]
    exact b
/-- Runes as the heap holds them. -/
def rns (l : List (Nat × Nat)) : List Value := l.map fun p => .int .i32 (p.1 : Nat)
theorem rns_snoc (l : List (Nat × Nat)) (r p : Nat) : rns (l ++ [(r, p)]) = rns l ++ [.int .i32 (r : Nat)] := by simp [rns]
theorem info_i32 : (Tryd.prog.info? 21).map (fun i => (i.zero, i.size, i.bytes)) = some (some (.int .i32 0), 1, 4) := by kernel_rfl
theorem cell_one (w : World) (a : Value) (t : TypeId) : ∀ j u, [a][j]? = some u → (w.alloc (.cells #[a] t)).cell? ((⟨w.heap.size, 0, none⟩ : Addr).add j) = some u := by
  intro j u hj
  match j, hj with
  | 0, hj => simp at hj; subst hj; simp [Addr.add]
  | j + 1, hj => simp at hj

/-- What Runes leaves. -/
structure RnPost (s : ByteArray) (w : World) (e : Ending) (w' : World) : Prop where
  val : ∃ v, e = .returned (.tuple #[v, .int .i64 ((sd 10 11 s (rs s 0)).1 : Nat), .int .i64 (sd 10 11 s (rs s 0)).2]) ∧ (if (sd 10 11 s (rs s 0)).2 = 0 then w'.ownsRow w.heap.size 21 1 v (rs s 0).length (rns (rs s 0)) else v = .slice none 0 0)
  bel : Below w.heap.size w w'

set_option maxHeartbeats 1000000 in
theorem runes_c (s : ByteArray) (hz : s.size ≤ 1048576) (w : World) (hT : TabsAt w) : Calls Tryd.prog 12 #[.string s] w (RnPost s w) := by
  obtain ⟨i0, hi, hz0, hz1, hz2⟩ := info_parts info_i32
  have C := check_c s (by omega) w hT
  by_cases h0 : (sd 10 11 s (rs s 0)).2 = 0
  · rw [chkV_ok h0] at C
    have hp0 := sd_place _ h0
    have HE : Hid (sd 10 11 s (rs s 0) = (0, 0)) := Prod.ext hp0 h0
    have hn := rs_length0 s
    clear hT h0 hp0
    go_enter Tryd.func12, Tryd.ntmps12
    go_wp2_with fail
    refine C.mono ?_
    rintro e w1 ⟨rfl, hb1⟩
    clear C
    have hsz1 := hb1.size
    obtain ⟨w2, hmk, hown0, hgr⟩ := run_make_own (P := Tryd.prog) w1 w.heap.size 29 21 i0 (.int .i32 0) 1 Tryd.underlying29 hi hz0 hz1 .i64 .i64 (rs s 0).length (by rw [hz2]; omega) (by unfold maxLen; omega) hsz1
    have hb2 : Below w.heap.size w w2 := hb1.grown hgr hsz1 (fun k hk => by cases hk)
    have hsz2 := hb2.size
    clear hgr
    clear hb1
    go_wp2_with fail
    go_loopw [8] (fun v wr => ∃ (pos : Nat) (l : List (Nat × Nat)), wr.heap[w2.heap.size]? = some (.stringIter s pos) ∧ pos ≤ s.size ∧ l.length ≤ pos ∧ Hid (l ++ rs s pos = rs s 0) ∧ wr.ownsRow w.heap.size 21 1 v l.length (rns l) ∧ Below w.heap.size w wr) (fun _ wr => s.size - wr.iterPos w2.heap.size)
    case atStart => exact ⟨0, [], World.iter_heap w2 s 0, by omega, by simp, rfl, hown0.alloc _, hb2.alloc hsz2 _⟩
    case round =>
      obtain ⟨pos, l, hit, hps, hll, HL, hown, hbw⟩ := hrel
      have hpos0 := iterPos_of hit
      have hszr := hbw.size
      by_cases hp : pos < s.size
      · have hnx : ∀ ty, (Instr.next (.pointer (some ⟨w2.heap.size, 0, none⟩)) true ty).run Tryd.prog wr = _ := fun ty => Lib.run_next_any_at wr w2.heap.size s pos ty hit hp
        have hwd := width_pos s pos
        have hw4 := width_in s pos hp
        have hit2 := Lib.iterAt_heap wr w2.heap.size s pos (pos + (Utf8.decode s pos).2) hit
        have hbw2 := Lib.below_iterAt hbw (k := w2.heap.size) hsz2 s (pos + (Utf8.decode s pos).2)
        have hown2 := own_iterAt hown hit (pos + (Utf8.decode s pos).2)
        obtain ⟨W1, hW1⟩ : ∃ W1, W1 = wr.iterAt w2.heap.size s (pos + (Utf8.decode s pos).2) := ⟨_, rfl⟩
        rw [← hW1] at hnx hit2 hbw2 hown2
        have HL' := HL.out
        rw [rs_step hp] at HL'
        generalize hd : Utf8.decode s pos = d at *
        obtain ⟨r, k⟩ := d
        simp only [] at *
        have HM : Hid ((l ++ [(r, pos)]) ++ rs s (pos + k) = rs s 0) := by show _ = _; rw [← HL']; simp
        have hsz3 := hbw2.size
        clear HL HL' hd hW1 hit hown hbw hown0 hmk hb2
        go_wp2_with (at_builtin; refine wpList_append_own _ rfl _ _ 29 rfl w.heap.size 21 i0 (.int .i32 0) 1 4 Tryd.underlying29 hi hz0 hz1 hz2 rfl (by decide) _ _ _ rfl (hown2.alloc _) ⟨_, 0, none⟩ 1 1 [.int .i32 (r : Int)] rfl rfl ?c1 ?c2 ?c3 ?c4 ?c5 ?_)
        case c1 => exact cell_one _ _ _
        case c2 => intro u hu; simp at hu; subst hu; rfl
        case c3 => unfold maxLen; omega
        case c4 => omega
        case c5 => simp; omega
        intro v' w3 hown' hgrow _
        have hown3 : w3.ownsRow w.heap.size 21 1 v' (l ++ [(r, pos)]).length (rns (l ++ [(r, pos)])) := by
          rw [rns_snoc, List.length_append]
          exact hown'
        have hbl3 := below_own hbw2 hsz3 _ (Nat.le_refl _) hown2 hgrow
        have hit3 := iter_grown hit2 hown2 hgrow
        clear hown' hgrow hown2 hbw2 hit2
        go_wp2_with fail
        go_roundw
        case rel => exact ⟨pos + k, l ++ [(r, pos)], hit3, hw4, by simp; omega, HM.out, hown3, hbl3⟩
        case measure => rw [iterPos_of hit3, hpos0]; omega
      · have hnx : ∀ ty, (Instr.next (.pointer (some ⟨w2.heap.size, 0, none⟩)) true ty).run Tryd.prog wr = _ := fun ty => Lib.run_next_end_at wr w2.heap.size s pos ty hit hp
        have HL' := HL.out
        rw [rs_end hp, List.append_nil] at HL'
        subst HL'
        clear HL hown0 hmk hb2
        go_wp2_with fail
        go_ret3
        exact ⟨⟨_, by rw [HE.out]; rfl, by rw [HE.out]; exact hown⟩, hbw⟩
  · obtain ⟨p, e, he⟩ : ∃ p e, sd 10 11 s (rs s 0) = (p, e) := ⟨_, _, rfl⟩
    have he0 : e ≠ 0 := by rw [he] at h0; exact h0
    rw [chkV_no he he0] at C
    have HE : Hid (sd 10 11 s (rs s 0) = (p, e)) := he
    have HZ : Hid (e ≠ 0) := he0
    have he1 : (e != 0) = true := by simp [he0]
    clear hT h0 he he0
    go_enter Tryd.func12, Tryd.ntmps12
    go_wp2_with (go_at_call 11; refine C.mono ?_; rintro e w1 ⟨rfl, hb1⟩; clear C)
    go_ret3
    exact ⟨⟨_, by rw [HE.out]; rfl, by rw [HE.out]; simp only [HZ.out, if_false]; rfl⟩, hb1⟩
end Go.Proofs.YtmckanjefhcnfaaDoor
