/- Package lex: names and words, signs. -/
import Derived.Test.YtecdfnpbcabdnaaGreatDoorLxD
namespace Go.Proofs.YtecdfnpbcabdnaaGreatDoor
open Go.RowKit Go.Lib

def tkV (t : Tk) : Value := .agg #[.int .i64 t.kind, .string t.text, .int .i64 t.n, .int .i64 (t.at_ : Nat)]
def noV : Value := .agg #[.int .i64 0, .string ⟨#[]⟩, .int .i64 0, .int .i64 0]
/-- What a cut answers: a token and gone over it, a fault, or nothing: then the reader stands where it stood. -/
def CutPost (w : World) (b : Nat) (s : ByteArray) (i : Nat) (own : Bool) (r : TR) (e : Ending) (w' : World) : Prop :=
  if own = true then
    match r with
    | .ok te => e = .returned (.tuple #[tkV te.1, .int .i64 0]) ∧ Moved w b s te.2 w'
    | .error k => e = .returned (.tuple #[noV, .int .i64 k]) ∧ Moved w b s i w'
  else e = .returned (.tuple #[noV, .int .i64 0]) ∧ Moved w b s i w'
theorem keep2 {w0 w1 : World} {b i : Nat} {s : ByteArray} (hb : Below w0.heap.size w0 w1) (h : Rdr w0 b s i) : w1.cell? ⟨b, 0, none⟩ = some (.string s) ∧ w1.cell? ⟨b, 1, none⟩ = some (.int .i64 (i : Nat)) ∧ w1.frozen? ⟨b, 0, none⟩ = false ∧ w1.frozen? ⟨b, 1, none⟩ = false := (h.next hb).two
/-- The name at a place is a name by itself. -/
theorem isN_cut {s : ByteArray} {i : Nat} (hi : i < s.size) (hv : Vd s i) (h1 : cls s 1 i ≠ i) : isN (s.extract i (cls s 3 i)) = (decide ((seg s (fun r => isC (r : Int) 3) i).length ≤ 32) && !(resv (s.extract i (cls s 3 i)).data.toList)) := by
  have hin := cls_in s 3 i (by omega)
  have hsz := size_cut s i (cls s 3 i) hin.2
  have hc := count_cut (fun r => isC (r : Int) 3) i (by omega) hv
  have hs := seg_cut (fun r => isC (r : Int) 3) i (cls s 3 i) hin.2 i (by omega) (Nat.le_refl _) rfl hv
  rw [Nat.sub_self] at hs
  have hy : isC ((Utf8.decode s i).1 : Int) 1 = true := by
    rcases cls_step (c := 1) hi with ⟨h, _⟩ | ⟨_, h⟩
    · exact absurd h h1
    · exact h
  have hy3 : isC ((Utf8.decode s i).1 : Int) 3 = true := by
    unfold isC at hy ⊢
    simp only [if_true, Int.reduceEq, if_false] at hy ⊢
    simp only [decide_eq_true_eq] at hy ⊢
    exact .inl hy
  have hp := seg_yes (p := fun r => isC (r : Int) 3) hi hy3
  have hall := seg_all s (fun r => isC (r : Int) 3) i
  generalize hT : s.extract i (cls s 3 i) = t at *
  have e3 : cls t 3 0 = t.size := by
    show rne t.size _ (rs t 0) = _
    rw [hs]
    generalize seg s (fun r => isC (r : Int) 3) i = L at *
    clear hp hs hc
    induction L with
    | nil => rfl
    | cons q r ih =>
      simp only [List.map_cons, rne]
      have := hall q List.mem_cons_self
      rw [if_pos this]
      exact ih (fun x hx => hall x (List.mem_cons_of_mem _ hx))
  have e1 : ¬ cls t 1 0 = 0 := by
    show ¬ rne t.size _ (rs t 0) = 0
    rw [hs, hp]
    simp only [List.map_cons, rne]
    rw [if_pos hy]
    intro e0
    have ht0 : 0 < t.size := by
      have := width_pos s i
      have hw := width_in s i hi
      have h3 : cls s 3 i = cls s 3 (i + (Utf8.decode s i).2) := rn_yes (p := fun r => isC (r : Int) 3) hi hy3
      have := cls_in s 3 _ hw
      omega
    have h5 : rs t 0 = ((Utf8.decode t 0).1, 0) :: rs t (0 + (Utf8.decode t 0).2) := rs_step ht0
    rw [hs, hp] at h5
    simp only [List.map_cons, List.cons.injEq] at h5
    rw [h5.2] at e0
    have hw := width_in t 0 ht0
    have := (rne_in (fun r => isC (r : Int) 1) t _ hw).1
    have := width_pos t 0
    omega
  unfold isN
  rw [decide_eq_false e1, decide_eq_true e3]
  rw [hc]
  rfl
abbrev zs : List Value := [.int .i64 0, .string ⟨#[]⟩, .int .i64 0, .int .i64 0]
/-- Inside of a cut: the reader, the place of the answer; nothing else has turned. -/
structure St (w W : World) (b i : Nat) (s : ByteArray) (vs : List Value) : Prop where
  rd : Rdr W b s i
  rb : Box W w.heap.size vs
  bel : Below w.heap.size w W
  lt : b < w.heap.size
theorem St.next {w W W' : World} {b i : Nat} {s : ByteArray} {vs : List Value} (h : St w W b i s vs) (k : Below W.heap.size W W') : St w W' b i s vs := ⟨h.rd.next k, h.rb.next k, below_on h.bel k h.bel.size, h.lt⟩
theorem St.made {w : World} {b i : Nat} {s : ByteArray} (h : Rdr w b s i) (t : TypeId) : St w (w.alloc (.cells zs.toArray t)) b i s zs := ⟨h.next ((Below.refl _ _).alloc (Nat.le_refl _) _), Box.new w zs t, (Below.refl _ _).alloc (Nat.le_refl _) _, h.lt⟩
theorem St.set {w W : World} {b i : Nat} {s : ByteArray} {u0 u1 u2 u3 : Value} (h : St w W b i s [u0, u1, u2, u3]) (v0 v1 v2 v3 : Value) : St w ((((W.setCell ⟨w.heap.size, 0, none⟩ v0).setCell ⟨w.heap.size, 1, none⟩ v1).setCell ⟨w.heap.size, 2, none⟩ v2).setCell ⟨w.heap.size, 3, none⟩ v3) b i s [v0, v1, v2, v3] := by
  have hn : b ≠ w.heap.size := by have := h.lt; omega
  exact ⟨((((h.rd.other hn).other hn).other hn).other hn), ((((h.rb.set 0 (by simp) v0).set 1 (by simp) v1).set 2 (by simp) v2).set 3 (by simp) v3), below_four h.bel (Nat.le_refl _) _ _ _ _, h.lt⟩
theorem St.stay {w W : World} {b i : Nat} {s : ByteArray} {vs : List Value} (h : St w W b i s vs) : Moved w b s i W := ⟨h.rd, Turn.of_below h.bel⟩
theorem St.took {w W w2 : World} {b i e : Nat} {s : ByteArray} {u0 u1 u2 u3 : Value} (h : St w W b i s [u0, u1, u2, u3]) (m : Moved W b s e w2) : Box w2 w.heap.size [u0, u1, u2, u3] ∧ ∀ v0 v1 v2 v3, Moved w b s e ((((w2.setCell ⟨w.heap.size, 0, none⟩ v0).setCell ⟨w.heap.size, 1, none⟩ v1).setCell ⟨w.heap.size, 2, none⟩ v2).setCell ⟨w.heap.size, 3, none⟩ v3) := by
  have hn : b ≠ w.heap.size := by have := h.lt; omega
  refine ⟨h.rb.turn m.2 (by simp; omega), fun v0 v1 v2 v3 => ?_⟩
  have t3 : Turn [b] w w2 := (Turn.of_below h.bel).trans m.2 (fun i hi => .inl hi)
  have t2 : Below w.heap.size w2 ((((w2.setCell ⟨w.heap.size, 0, none⟩ v0).setCell ⟨w.heap.size, 1, none⟩ v1).setCell ⟨w.heap.size, 2, none⟩ v2).setCell ⟨w.heap.size, 3, none⟩ v3) := below_four (Below.refl _ _) (Nat.le_refl _) _ _ _ _
  exact ⟨((((m.1.other hn).other hn).other hn).other hn), t2.os.trans t3.os, t2.tape.trans t3.tape, t2.output.trans t3.output, Nat.le_trans t3.size t2.size, fun k hk hn => (t2.block k hk).trans (t3.block k hk hn)⟩
set_option maxHeartbeats 4000000 in
theorem nameOrWord_c (b i : Nat) (s : ByteArray) (hi : i < s.size) (hz : s.size ≤ 1048576) (hv : Vd s i) (w : World) (h : Rdr w b s i) :
    Calls Tryz.prog 90 #[.pointer (some ⟨b, 0, none⟩)] w (CutPost w b s i (decide (cls s 1 i ≠ i)) (wordT s i)) := by
  have ST := hid2 (St.made h 47)
  have hlt := h.lt
  have hin := cls_in s 3 i (by omega)
  have R1 := hid2 (fun wx => run_at s i 1 (by omega) hz wx)
  have R3 := hid2 (fun wx => run_at s i 3 (by omega) hz wx)
  have hs := fun wx => sl_lh s i (cls s 3 i) hin.1 hin.2 wx
  have hxz : (s.extract i (cls s 3 i)).size ≤ 1048576 := by rw [size_cut s i _ hin.2]; omega
  have V := hid2 (fun wx => reserved_c (s.extract i (cls s 3 i)) wx)
  have N := hid2 (fun wx => isName_c (s.extract i (cls s 3 i)) (by omega) wx)
  have T := hid2 (fun (k : Int) w' (hw : Rdr w' b s i) => take_c b i (cls s 3 i) s (s.extract i (cls s 3 i)) k 0 hxz w' hw)
  have hnn := fun h1 => isN_cut hi hv h1
  by_cases h1 : cls s 1 i = i
  · rw [h1] at R1
    have hP : ∀ e w', e = Ending.returned (.tuple #[noV, .int .i64 0]) ∧ Moved w b s i w' → CutPost w b s i (decide (cls s 1 i ≠ i)) (wordT s i) e w' := fun e w' hh => by
      unfold CutPost
      rw [if_neg (by simp [h1])]
      exact hh
    refine Calls.mono ?_ hP
    clear hP h1 hnn T N V hxz hs R3 hin hv hi hz h
    go_enter Tryz.func90, Tryz.ntmps90
    go_wp2_with fail
    obtain ⟨c0, c1, f0, f1⟩ := ST.out.rd.two
    generalize w.alloc _ = W at *
    go_region_held3 (fun w' => w'.cell? ⟨b, 0, none⟩ = some (.string s) ∧ w'.cell? ⟨b, 1, none⟩ = some (.int .i64 (i : Nat))) (simp [go_sem, *]) (first | (go_at_call 114; refine Calls.mono (R1.out _) ?_; rintro r w1 ⟨rfl, b1⟩; have S1 := hid2 (ST.out.next (below_on (Below.refl _ _).drew b1 (Nat.le_refl _))); obtain ⟨m0, m1, _, _⟩ := S1.out.rd.two; obtain ⟨p0, p1, p2, p3, g0, g1, g2, g3⟩ := S1.out.rb.four; clear b1))
    go_wp2_with fail
    refine bodyPost_ret (v := .tuple #[noV, .int .i64 0]) (by simp [results, Tryz.results90, go_sem, *]; rfl) rfl ⟨rfl, ?_⟩
    exact (S1.out.set _ _ _ _).stay
  · have own : decide (cls s 1 i ≠ i) = true := by simp [h1]
    rw [own]
    replace hnn := hnn h1
    have hne : (((cls s 1 i : Nat) : Int) == (i : Int)) = false := beq_eq_false_iff_ne.2 (by omega)
    obtain ⟨tr, HWd⟩ : ∃ tr, Hid (tr = wordT s i) := ⟨_, rfl⟩
    rw [← HWd.out]
    unfold wordT at HWd
    generalize hx : s.extract i (cls s 3 i) = x at *
    generalize cls s 3 i = e at *
    generalize cls s 1 i = e1 at *
    generalize hrs : resv x.data.toList = rv at *
    generalize (seg s (fun r => isC (r : Int) 3) i).length = cn at *
    clear hx hrs own h1 hv
    cases rv with
    | true =>
      have hP : ∀ r w', r = Ending.returned (.tuple #[tkV ⟨6, x, 0, i⟩, .int .i64 0]) ∧ Moved w b s e w' → CutPost w b s i true tr r w' := fun r w' hh => by
        unfold CutPost
        rw [HWd.out]
        exact hh
      refine Calls.mono ?_ hP
      clear hP HWd N hnn
      go_enter Tryz.func90, Tryz.ntmps90
      go_wp2_with fail
      obtain ⟨c0, c1, f0, f1⟩ := ST.out.rd.two
      generalize w.alloc _ = W at *
      go_region_held3 (fun w' => w'.cell? ⟨b, 0, none⟩ = some (.string s) ∧ w'.cell? ⟨b, 1, none⟩ = some (.int .i64 (i : Nat))) (simp [go_sem, *]) (first | (go_at_call 114; refine Calls.mono (R1.out _) ?_; rintro r w1 ⟨rfl, b1⟩; have S1 := hid2 (ST.out.next (below_on (Below.refl _ _).drew b1 (Nat.le_refl _))); obtain ⟨m0, m1, _, _⟩ := S1.out.rd.two; obtain ⟨m2, m3, m4, m5, m6, m7, m8, m9⟩ := S1.out.rb.four; clear b1))
      clear c0 c1 f0 f1
      go_wp2_with fail
      go_region_held3 (fun w' => w'.cell? ⟨b, 0, none⟩ = some (.string s) ∧ w'.cell? ⟨b, 1, none⟩ = some (.int .i64 (i : Nat))) (simp [go_sem, *]) (first | (go_at_call 114; refine Calls.mono (R3.out _) ?_; rintro r w2 ⟨rfl, b1⟩; have S2 := hid2 (S1.out.next (below_on (Below.refl _ _).drew b1 (Nat.le_refl _))); obtain ⟨n0, n1, _, _⟩ := S2.out.rd.two; obtain ⟨n2, n3, n4, n5, n6, n7, n8, n9⟩ := S2.out.rb.four; clear b1))
      clear m0 m1 m2 m3 m4 m5 m6 m7 m8 m9
      go_wp2_with fail
      go_quiet (fail)
      have S3 := hid2 (S2.out.next (drewN_b2 w2 nq))
      generalize w2.drewN nq = W3 at *
      clear n0 n1 n2 n3 n4 n5 n6 n7 n8 n9
      go_wp2_with fail
      refine Calls.mono (V.out _) ?_
      rintro r w4 ⟨rfl, rfl⟩
      go_wp2_with fail
      refine Calls.mono (T.out 6 _ S3.out.rd) ?_
      rintro r w5 ⟨rfl, M5⟩
      obtain ⟨bx, fin⟩ := S3.out.took M5
      obtain ⟨p0, p1, p2, p3, g0, g1, g2, g3⟩ := bx.four
      have bl := bx.lt
      have FIN := hid2 fin
      clear bx fin M5
      unfold tkv
      go_wp2_with fail
      refine bodyPost_ret (v := .tuple #[tkV ⟨6, x, 0, i⟩, .int .i64 0]) (by simp [results, Tryz.results90, go_sem, *]; rfl) rfl ⟨rfl, ?_⟩
      exact FIN.out _ _ _ _
    | false =>
      by_cases hcn : cn ≤ 32
      · have hP : ∀ r w', r = Ending.returned (.tuple #[tkV ⟨1, x, 0, i⟩, .int .i64 0]) ∧ Moved w b s e w' → CutPost w b s i true tr r w' := fun r w' hh => by
          unfold CutPost
          rw [HWd.out]
          simp only [if_pos hcn]
          exact hh
        refine Calls.mono ?_ hP
        have hnt : isN x = true := by rw [hnn]; simp [hcn]
        rw [hnt] at N
        clear hP HWd hnn hnt hcn
        go_enter Tryz.func90, Tryz.ntmps90
        go_wp2_with fail
        obtain ⟨c0, c1, f0, f1⟩ := ST.out.rd.two
        generalize w.alloc _ = W at *
        go_region_held3 (fun w' => w'.cell? ⟨b, 0, none⟩ = some (.string s) ∧ w'.cell? ⟨b, 1, none⟩ = some (.int .i64 (i : Nat))) (simp [go_sem, *]) (first | (go_at_call 114; refine Calls.mono (R1.out _) ?_; rintro r w1 ⟨rfl, b1⟩; have S1 := hid2 (ST.out.next (below_on (Below.refl _ _).drew b1 (Nat.le_refl _))); obtain ⟨m0, m1, _, _⟩ := S1.out.rd.two; obtain ⟨m2, m3, m4, m5, m6, m7, m8, m9⟩ := S1.out.rb.four; clear b1))
        clear c0 c1 f0 f1
        go_wp2_with fail
        go_region_held3 (fun w' => w'.cell? ⟨b, 0, none⟩ = some (.string s) ∧ w'.cell? ⟨b, 1, none⟩ = some (.int .i64 (i : Nat))) (simp [go_sem, *]) (first | (go_at_call 114; refine Calls.mono (R3.out _) ?_; rintro r w2 ⟨rfl, b1⟩; have S2 := hid2 (S1.out.next (below_on (Below.refl _ _).drew b1 (Nat.le_refl _))); obtain ⟨n0, n1, _, _⟩ := S2.out.rd.two; obtain ⟨n2, n3, n4, n5, n6, n7, n8, n9⟩ := S2.out.rb.four; clear b1))
        clear m0 m1 m2 m3 m4 m5 m6 m7 m8 m9
        go_wp2_with fail
        go_quiet (fail)
        have S3 := hid2 (S2.out.next (drewN_b2 w2 nq))
        generalize w2.drewN nq = W3 at *
        clear n0 n1 n2 n3 n4 n5 n6 n7 n8 n9
        go_wp2_with fail
        refine Calls.mono (V.out _) ?_
        rintro r w4 ⟨rfl, rfl⟩
        go_wp2_with fail
        refine Calls.mono (N.out _) ?_
        rintro r w4 ⟨rfl, b4⟩
        have S4 := hid2 (S3.out.next b4)
        clear b4 S3
        go_wp2_with fail
        refine Calls.mono (T.out 1 _ S4.out.rd) ?_
        rintro r w5 ⟨rfl, M5⟩
        obtain ⟨bx, fin⟩ := S4.out.took M5
        obtain ⟨p0, p1, p2, p3, g0, g1, g2, g3⟩ := bx.four
        have bl := bx.lt
        have FIN := hid2 fin
        clear bx fin M5
        unfold tkv
        go_wp2_with fail
        refine bodyPost_ret (v := .tuple #[tkV ⟨1, x, 0, i⟩, .int .i64 0]) (by simp [results, Tryz.results90, go_sem, *]; rfl) rfl ⟨rfl, ?_⟩
        exact FIN.out _ _ _ _
      · have hP : ∀ r w', r = Ending.returned (.tuple #[noV, .int .i64 12]) ∧ Moved w b s i w' → CutPost w b s i true tr r w' := fun r w' hh => by
          unfold CutPost
          rw [HWd.out]
          simp only [if_neg hcn]
          exact hh
        refine Calls.mono ?_ hP
        have hnt : isN x = false := by rw [hnn]; simp [hcn]
        rw [hnt] at N
        clear hP HWd hnn hnt hcn
        go_enter Tryz.func90, Tryz.ntmps90
        go_wp2_with fail
        obtain ⟨c0, c1, f0, f1⟩ := ST.out.rd.two
        generalize w.alloc _ = W at *
        go_region_held3 (fun w' => w'.cell? ⟨b, 0, none⟩ = some (.string s) ∧ w'.cell? ⟨b, 1, none⟩ = some (.int .i64 (i : Nat))) (simp [go_sem, *]) (first | (go_at_call 114; refine Calls.mono (R1.out _) ?_; rintro r w1 ⟨rfl, b1⟩; have S1 := hid2 (ST.out.next (below_on (Below.refl _ _).drew b1 (Nat.le_refl _))); obtain ⟨m0, m1, _, _⟩ := S1.out.rd.two; obtain ⟨m2, m3, m4, m5, m6, m7, m8, m9⟩ := S1.out.rb.four; clear b1))
        clear c0 c1 f0 f1
        go_wp2_with fail
        go_region_held3 (fun w' => w'.cell? ⟨b, 0, none⟩ = some (.string s) ∧ w'.cell? ⟨b, 1, none⟩ = some (.int .i64 (i : Nat))) (simp [go_sem, *]) (first | (go_at_call 114; refine Calls.mono (R3.out _) ?_; rintro r w2 ⟨rfl, b1⟩; have S2 := hid2 (S1.out.next (below_on (Below.refl _ _).drew b1 (Nat.le_refl _))); obtain ⟨n0, n1, _, _⟩ := S2.out.rd.two; obtain ⟨n2, n3, n4, n5, n6, n7, n8, n9⟩ := S2.out.rb.four; clear b1))
        clear m0 m1 m2 m3 m4 m5 m6 m7 m8 m9
        go_wp2_with fail
        go_quiet (fail)
        have S3 := hid2 (S2.out.next (drewN_b2 w2 nq))
        generalize w2.drewN nq = W3 at *
        clear n0 n1 n2 n3 n4 n5 n6 n7 n8 n9
        go_wp2_with fail
        refine Calls.mono (V.out _) ?_
        rintro r w4 ⟨rfl, rfl⟩
        go_wp2_with fail
        refine Calls.mono (N.out _) ?_
        rintro r w4 ⟨rfl, b4⟩
        have S4 := hid2 (S3.out.next b4)
        clear b4 S3
        obtain ⟨p0, p1, p2, p3, g0, g1, g2, g3⟩ := S4.out.rb.four
        have bl := S4.out.rb.lt
        go_wp2_with fail
        refine bodyPost_ret (v := .tuple #[noV, .int .i64 12]) (by simp [results, Tryz.results90, go_sem, *]; rfl) rfl ⟨rfl, ?_⟩
        exact (S4.out.set _ _ _ _).stay
end Go.Proofs.YtecdfnpbcabdnaaGreatDoor
