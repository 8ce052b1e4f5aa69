/- The document's cutter: text, put, skip. -/
import Derived.Test.YtecdfnpbcabdnaaGreatDoorLyC
import Derived.Test.YtecdfnpbcabdnaaGreatDoorLxV
import Derived.Deep.RegionLaw
namespace Go.Proofs.YtecdfnpbcabdnaaGreatDoor
open Go.RowKit Go.Lib

/-- The cutter at work: all that it turns was made behind w; the tokens lie from B on. -/
structure Ct (w : World) (B : Nat) (W : World) (b g cap : Nat) (s : ByteArray) (I : Nat) (v : Value) (L : List Tk) : Prop where
  box : Box W b [.string s, .slice (some ⟨g, 0, none⟩) (PL s).length cap, .int .i64 (I : Nat), v]
  pc : Box W g (pcs (PL s))
  own : Toks W B v L
  bel : Below w.heap.size w W
  wb : w.heap.size ≤ b
  bB : b < B
  gB : g < B
  ne : g ≠ b
  BW : B ≤ W.heap.size
theorem Ct.next {w W W' : World} {B b g cap I : Nat} {s : ByteArray} {v : Value} {L : List Tk} (h : Ct w B W b g cap s I v L) (k : Below W.heap.size W W') : Ct w B W' b g cap s I v L :=
  ⟨h.box.next k, h.pc.next k, own_on h.own k, below_on h.bel k h.bel.size, h.wb, h.bB, h.gB, h.ne, Nat.le_trans h.BW k.size⟩
theorem Ct.cu {w W : World} {B b g cap I : Nat} {s : ByteArray} {v : Value} {L : List Tk} (h : Ct w B W b g cap s I v L) : Cu W b s I v := ⟨g, cap, h.box, h.pc, h.ne⟩
theorem Ct.goTo {w W : World} {B b g cap I : Nat} {s : ByteArray} {v : Value} {L : List Tk} (h : Ct w B W b g cap s I v L) (E : Nat) : Ct w B (W.setCell ⟨b, 2, none⟩ (.int .i64 (E : Nat))) b g cap s E v L :=
  ⟨h.box.set 2 (by simp) _, h.pc.other h.ne, own_turn h.own (Turn.set (S := [b]) _ _ _ (by simp)) (by have := h.bB; simp; omega), h.bel.setCell h.wb _, h.wb, h.bB, h.gB, h.ne, by simpa using h.BW⟩
theorem Ct.added {w W W' : World} {B b g cap I : Nat} {s : ByteArray} {v v' : Value} {L L' : List Tk} (h : Ct w B W b g cap s I v L) (k : Below B W W') (o : Toks W' B v' L') : Ct w B (W'.setCell ⟨b, 3, none⟩ v') b g cap s I v' L' := by
  have h1 := h.bB
  have h2 := h.gB
  have h3 := h.wb
  exact ⟨(h.box.later k h1).set 3 (by simp) _, (h.pc.later k h2).other h.ne, own_turn o (Turn.set (S := [b]) _ _ _ (by simp)) (by simp; omega), (h.bel.trans (k.mono (by omega))).setCell h.wb _, h.wb, h.bB, h.gB, h.ne, by simpa using Nat.le_trans h.BW k.size⟩
theorem step_append_tk {ops : Array Oper} {o : Oper} {a : Act} {w : World} {K : Act → World → Prop} {Q : Exit → Act → World → Prop} {E : Prop} (w0 : World) (B : Nat) (hgd : o.guard = none) (s x : Operand)
    (hop : o.op = Op.call { callee := Callee.builtin Builtin.append, args := #[s, x], argTypes := #[49, 49] }) (v : Value) (L : List Tk) (k : Int) (y : ByteArray) (n : Int) (i : Nat) (hw : w = w0.alloc (.cells #[.int .i64 k, .string y, .int .i64 n, .int .i64 (i : Nat)] 47)) (hs : a.eval s = v) (h : Toks w0 B v L) (hl : L.length ≤ 16384) (hB : B ≤ w0.heap.size)
    (hx : a.eval x = .slice (some ⟨w0.heap.size, 0, none⟩) 1 1)
    (hK : ∀ a' c' w', Toks w' B (.slice a' (L.length + 1) c') (L ++ [⟨k, y, n, i⟩]) → Below B w0 w' → K (a.put o.dst (.slice a' (L.length + 1) c')) w') :
    if Region.wanted o (yielded ops a.tmps) = true then Oper.wp Tryz.prog o a w K Q else E := by
  have hwd : Region.wanted o (yielded ops a.tmps) = true := by simp [Region.wanted, hgd]
  rw [if_pos hwd]
  subst hw
  obtain ⟨i0, hi, hz0, hz1, hz2⟩ := info_parts info_tk
  obtain ⟨v', w', hrun, ho, hg, _⟩ := run_append_own (P := Tryz.prog) (w0.alloc (.cells #[.int .i64 k, .string y, .int .i64 n, .int .i64 (i : Nat)] 47)) B 49 o.type 47 i0 (.agg #[.int .i64 0, .string ⟨#[]⟩, .int .i64 0, .int .i64 0]) 4 40 Tryz.underlying49 hi hz0 hz1 hz2 rfl (by decide) v L.length (tks L) (h.alloc _) ⟨w0.heap.size, 0, none⟩ 1 1 [.int .i64 k, .string y, .int .i64 n, .int .i64 (i : Nat)] rfl (cell_four_new _ _ _ _ _ _) (by intro u hu; simp at hu; rcases hu with rfl | rfl | rfl | rfl <;> rfl) (by unfold maxLen; omega) (by omega) (by simp; omega)
  obtain ⟨a', c', rfl⟩ := own_val ho
  unfold Oper.wp
  simp [execOp, hop, resolve, invoke, builtin, hs, hx, hrun, Result.andThen]
  refine hK a' c' w' ?_ (below_own (Below.refl _ _) hB _ (Nat.le_refl _) h hg)
  show w'.ownsRow _ _ _ _ (L ++ [(⟨k, y, n, i⟩ : Tk)]).length _
  rw [tks_snoc, List.length_append]
  exact ho
set_option maxHeartbeats 4000000 in
theorem text_c (b : Nat) (s : ByteArray) (I J K i k : Nat) (lv : Value) (w : World) (h : Cu w b s J lv) (hp : Plc s I i) (hq : Plc s K k) (hik : i ≤ k) :
    Calls Tryz.prog 82 #[.pointer (some ⟨b, 0, none⟩), .int .i64 (I : Nat), .int .i64 (K : Nat)] w fun e w' => e = .returned (.string (s.extract i k)) ∧ ∃ q, w' = w.drewN q := by
  obtain ⟨g, cap, hb, hg, _⟩ := h.box
  obtain ⟨c0, c1, c2, c3, _⟩ := hb.four
  have hlt := hb.lt
  have hlg := hg.lt
  have g1 := hg.cell (2 * I + 1) _ (pcs_get _ _ _ hp.get).2
  have g2 := hg.cell (2 * K + 1) _ (pcs_get _ _ _ hq.get).2
  have hl := PL_len s
  have hI2 : (I : Int) < (((PL s).length : Nat) : Int) := by have := hp.le; omega
  have hK2 : (K : Int) < (((PL s).length : Nat) : Int) := by have := hq.le; omega
  have hs := fun wx => sl_lh s i k hik hq.inn wx
  rw [Nat.mul_comm] at g1 g2
  generalize s.extract i k = x at *
  generalize (PL s).length = n at *
  clear h hb hg hp hq hl
  go_enter Tryz.func82, Tryz.ntmps82
  go_wp2_with fail
  go_quiet (fail)
  go_wp2_with fail
  go_ret
  exact ⟨rfl, _, rfl⟩
set_option maxHeartbeats 4000000 in
theorem put_c (w : World) (B : Nat) (W : World) (b g cap : Nat) (s : ByteArray) (I i E : Nat) (v : Value) (L : List Tk) (k : Int) (y : ByteArray) (n : Int) (h : Ct w B W b g cap s I v L) (hp : Plc s I i) (hl : L.length ≤ 16384) :
    Calls Tryz.prog 58 #[.pointer (some ⟨b, 0, none⟩), .int .i64 k, .string y, .int .i64 n, .int .i64 (E : Nat)] W fun e w' => e = .returned (.int .i64 0) ∧ ∃ v', Ct w B w' b g cap s E v' (L ++ [⟨k, y, n, i⟩]) := by
  obtain ⟨c0, c1, c2, c3, f0, f1, f2, f3⟩ := h.box.four
  have hlt := h.box.lt
  have hlg := h.pc.lt
  have g1 := h.pc.cell (2 * I + 1) _ (pcs_get _ _ _ hp.get).2
  have hll := PL_len s
  have hI2 : (I : Int) < (((PL s).length : Nat) : Int) := by have := hp.le; omega
  rw [Nat.mul_comm] at g1
  have H := hid2 h
  obtain ⟨va, vc, hvv⟩ := own_val h.own
  subst hvv
  clear h hp hll
  generalize hPn : (PL s).length = nn at *
  go_enter Tryz.func58, Tryz.ntmps58
  go_wp2_with fail
  go_region_law (refine step_append_tk W.drew B rfl (.tmp 15) (.tmp 31) rfl (.slice va L.length vc) L k y n i rfl (by simp [Act.eval]) (H.out.next (Below.refl _ _).drew).own hl (H.out.next (Below.refl _ _).drew).BW (by simp [Act.eval]) ?_; intro a2 c2' w2 o2 k2; have X := (H.out.next (Below.refl _ _).drew); obtain ⟨d0, d1, d2, d3, e0, e1, e2, e3⟩ := (X.box.later k2 X.bB).four; have l2 := (X.box.later k2 X.bB).lt; have A2 := hid2 (X.added k2 o2); clear X o2 k2)
  all_goals go_wp2_with fail
  all_goals go_ret
  all_goals exact ⟨rfl, _, A2.out.goTo E⟩
end Go.Proofs.YtecdfnpbcabdnaaGreatDoor
