/- The document's window: Right, come, Put, Read. -/
import Derived.Test.YtccgbkafcbfcgaaPaD
import Derived.Deep.RegionLaw
namespace Go.Proofs.Ytccgbkafcbfcgaa
open Go.RowKit

theorem step_append_pls {ops : Array Oper} {o : Oper} {a : Act} {w : World} {K : Act → World → Prop} {Q : Exit → Act → World → Prop} {E : Prop} (w0 : World) (hgd : o.guard = none) (s x : Operand)
    (hop : o.op = Op.call { callee := Callee.builtin Builtin.append, args := #[s, x], argTypes := #[32, 32] }) (ok : Nat → Prop) (lv : Value) (L : List Pr) (y : Pr) (hw : w = w0.alloc (.cells #[.int .i64 y.1, .int .i64 y.2] 45)) (hs : a.eval s = lv) (h : PLs w0 ok lv L) (hl : L.length < 8796093022208)
    (hx : a.eval x = .slice (some ⟨w0.heap.size, 0, none⟩) 1 1)
    (hK : ∀ b c w', PLsGrew w0 ok (.slice b (L.length + 1) c) (L ++ [y]) w' → K (a.put o.dst (.slice b (L.length + 1) c)) w') :
    if Region.wanted o (yielded ops a.tmps) = true then Oper.wp Try.prog o a w K Q else E := by
  have hwd : Region.wanted o (yielded ops a.tmps) = true := by simp [Region.wanted, hgd]
  rw [if_pos hwd]
  subst hw
  obtain ⟨b, c, w', hrun, r⟩ := run_append_pls o.type w0 ok lv L h hl y
  unfold Oper.wp
  simp [execOp, hop, resolve, invoke, builtin, hs, hx, hrun, Result.andThen]
  exact hK b c w' r
/-- The document's window at b, its samples in the block g. -/
def Rf (w : World) (b g : Nat) (m a s p ck : Int) (on : Bool) (A : List Pr) : Prop := ∃ lv, Box w b [.int .i64 m, .int .i64 a, .int .i64 s, .int .i64 p, lv, .int .i64 ck, .bool on] ∧ PSl w b g lv A
theorem Rf.turn {S : List Nat} {w w' : World} {b g : Nat} {m a s p ck : Int} {on : Bool} {A : List Pr} (h : Rf w b g m a s p ck on A) (t : Turn S w w') (hb : b ∉ S) (hg : g ∉ S) : Rf w' b g m a s p ck on A := by
  obtain ⟨lv, h1, h2⟩ := h
  exact ⟨lv, h1.turn t hb, h2.turn t (fun _ => hg)⟩
theorem Rf.next {w w' : World} {b g : Nat} {m a s p ck : Int} {on : Bool} {A : List Pr} (h : Rf w b g m a s p ck on A) (t : Below w.heap.size w w') : Rf w' b g m a s p ck on A := h.turn (S := []) (Turn.of_below t) (by simp) (by simp)
theorem Rf.lt {w : World} {b g : Nat} {m a s p ck : Int} {on : Bool} {A : List Pr} (h : Rf w b g m a s p ck on A) : b < w.heap.size ∧ g < w.heap.size := by
  obtain ⟨lv, h1, h2⟩ := h
  rcases h2 with ⟨_, _, e⟩ | ⟨_, _, _, _, e⟩
  · exact ⟨h1.lt, e ▸ h1.lt⟩
  · exact ⟨h1.lt, e.lt⟩
set_option maxRecDepth 20000 in
set_option maxHeartbeats 1000000 in
theorem fRight (m a s p : Int) (w : World) :
    Calls Try.prog 10 #[tv m a s p] w fun e w' => e = .returned (.bool (rightB m a s p)) ∧ Below w.heap.size w w' := by
  obtain ⟨hR, hB⟩ := one_box w 23 [.int .i64 m, .int .i64 a, .int .i64 s, .int .i64 p]
  have HB := hid hB
  clear hB hR
  generalize hx : rightB m a s p = x
  have HX := hid hx
  clear hx
  simp only [tv]
  by_cases h1 : m < 0 ∨ a < 1 ∨ 6 < a ∨ s < 1 ∨ 604800 < s
  · have e1 : x = false := by rw [← HX.out]; exact rightB_no (fun ⟨r1, r2, r3, r4, r5, r6, r7⟩ => by omega)
    subst e1
    by_cases k1 : m < 0
    · clear h1
      go_enter Try.func10, Try.ntmps10
      go_wp2_with fail
      go_ret
      exact ⟨rfl, HB.out⟩
    · by_cases k2 : a < 1
      · clear h1
        go_enter Try.func10, Try.ntmps10
        go_wp2_with fail
        go_ret
        exact ⟨rfl, HB.out⟩
      · by_cases k3 : 6 < a
        · clear h1
          go_enter Try.func10, Try.ntmps10
          go_wp2_with fail
          go_ret
          exact ⟨rfl, HB.out⟩
        · by_cases k4 : s < 1
          · clear h1
            go_enter Try.func10, Try.ntmps10
            go_wp2_with fail
            go_ret
            exact ⟨rfl, HB.out⟩
          · have k5 : 604800 < s := by omega
            clear h1
            go_enter Try.func10, Try.ntmps10
            go_wp2_with fail
            go_ret
            exact ⟨rfl, HB.out⟩
  · have k1 : ¬ m < 0 := by omega
    have k2 : ¬ a < 1 := by omega
    have k3 : ¬ 6 < a := by omega
    have k4 : ¬ s < 1 := by omega
    have k5 : ¬ 604800 < s := by omega
    clear h1
    by_cases h4 : a = 6
    · subst h4
      by_cases h5 : 1 ≤ p
      · by_cases h6 : p ≤ 100000000
        · have e1 : x = true := by rw [← HX.out]; exact rightB_yes ⟨by omega, by omega, by omega, by omega, by omega, fun _ => by omega, fun _ => by omega⟩
          subst e1
          go_enter Try.func10, Try.ntmps10
          go_wp2_with fail
          go_ret
          exact ⟨rfl, HB.out⟩
        · have e1 : x = false := by rw [← HX.out]; exact rightB_no (fun ⟨r1, r2, r3, r4, r5, r6, r7⟩ => by omega)
          subst e1
          go_enter Try.func10, Try.ntmps10
          go_wp2_with fail
          go_ret
          exact ⟨rfl, HB.out⟩
      · have e1 : x = false := by rw [← HX.out]; exact rightB_no (fun ⟨r1, r2, r3, r4, r5, r6, r7⟩ => by omega)
        subst e1
        go_enter Try.func10, Try.ntmps10
        go_wp2_with fail
        go_ret
        exact ⟨rfl, HB.out⟩
    · have h4' : (a == 6) = false := by simpa using h4
      by_cases h7 : p = 0
      · have e1 : x = true := by rw [← HX.out]; exact rightB_yes ⟨by omega, by omega, by omega, by omega, by omega, fun _ => by omega, fun _ => by omega⟩
        subst e1
        subst h7
        go_enter Try.func10, Try.ntmps10
        go_wp2_with fail
        go_ret
        exact ⟨rfl, HB.out⟩
      · have e1 : x = false := by rw [← HX.out]; exact rightB_no (fun ⟨r1, r2, r3, r4, r5, r6, r7⟩ => by omega)
        subst e1
        have h7' : (p == 0) = false := by simpa using h7
        clear h7
        go_enter Try.func10, Try.ntmps10
        go_wp2_with fail
        go_ret
        exact ⟨rfl, HB.out⟩
theorem Box.seven8 {w : World} {g : Nat} {v0 v1 v2 v3 v4 v5 v6 : Value} (h : Box w g [v0, v1, v2, v3, v4, v5, v6]) : w.cell? ⟨g, 4, none⟩ = some v4 ∧ w.cell? ⟨g, 5, none⟩ = some v5 ∧ w.cell? ⟨g, 6, none⟩ = some v6 ∧ w.frozen? ⟨g, 4, none⟩ = false ∧ w.frozen? ⟨g, 5, none⟩ = false ∧ w.frozen? ⟨g, 6, none⟩ = false :=
  ⟨h.cell 4 _ rfl, h.cell 5 _ rfl, h.cell 6 _ rfl, h.free 4 (by simp), h.free 5 (by simp), h.free 6 (by simp)⟩
set_option maxRecDepth 20000 in
theorem fCome_stale (b g : Nat) (m a s p ck : Int) (A : List Pr) (t : Int) (w : World) (h : Rf w b g m a s p ck true A) (ht : t < ck) :
    Calls Try.prog 29 #[.pointer (some ⟨b, 0, none⟩), .int .i64 t] w fun e w' => e = .returned (.int .i64 32) ∧ w = w' := by
  obtain ⟨lv, h1, -⟩ := h
  obtain ⟨c4, c5, c6, f4, f5, f6⟩ := h1.seven8
  have hlt := h1.lt
  clear h1
  go_enter Try.func29, Try.ntmps29
  go_wp2_with fail
  go_ret
  exact ⟨rfl, rfl⟩
set_option maxRecDepth 20000 in
theorem fCome (b g : Nat) (m a s p ck : Int) (on : Bool) (A : List Pr) (t : Int) (w : World) (h : Rf w b g m a s p ck on A) (ht : on = true → ck ≤ t) :
    Calls Try.prog 29 #[.pointer (some ⟨b, 0, none⟩), .int .i64 t] w fun e w' => e = .returned (.int .i64 0) ∧ Rf w' b g m a s p t true A ∧ Turn [b] w w' := by
  obtain ⟨lv, h1, h2⟩ := h
  obtain ⟨c4, c5, c6, f4, f5, f6⟩ := h1.seven8
  have hlt := h1.lt
  have hend : Rf ((w.setCell ⟨b, 5, none⟩ (.int .i64 t)).setCell ⟨b, 6, none⟩ (.bool true)) b g m a s p t true A ∧ Turn [b] w ((w.setCell ⟨b, 5, none⟩ (.int .i64 t)).setCell ⟨b, 6, none⟩ (.bool true)) := by
    have tt : Turn [b] w ((w.setCell ⟨b, 5, none⟩ (.int .i64 t)).setCell ⟨b, 6, none⟩ (.bool true)) := (Turn.set _ _ _ (by simp)).andSet _ _ (.inl (by simp))
    exact ⟨⟨lv, by simpa using (h1.set 5 (by simp) (.int .i64 t)).set 6 (by simp) (.bool true), h2.turn tt (fun hne => by simpa using hne)⟩, tt⟩
  have d6 := (h1.set 5 (by simp) (.int .i64 t)).cell 6 _ rfl
  have e6 : (w.setCell ⟨b, 5, none⟩ (.int .i64 t)).frozen? ⟨b, 6, none⟩ = false := (World.frozen?_setCell _ _ _ _).trans f6
  have HE := hid hend
  have hs' : on = false ∨ ¬ t < ck := by
    cases on with
    | false => exact .inl rfl
    | true => exact .inr (by have := ht rfl; omega)
  clear h1 h2 hend ht
  rcases on with _ | _
  case' false => clear hs'
  case' true => replace hs' : ¬ t < ck := by simpa using hs'
  all_goals (
    go_enter Try.func29, Try.ntmps29
    go_wp2_with fail
    go_ret
    exact ⟨rfl, HE.out⟩)
set_option maxRecDepth 20000 in
set_option maxHeartbeats 1000000 in
theorem fPut_stale (b g : Nat) (m a s p ck : Int) (A : List Pr) (x : Pr) (w : World) (h : Rf w b g m a s p ck true A) (ht : x.1 < ck) :
    Calls Try.prog 15 #[.pointer (some ⟨b, 0, none⟩), .agg #[.int .i64 x.1, .int .i64 x.2]] w fun e w' => e = .returned (.int .i64 32) ∧ Below w.heap.size w w' := by
  obtain ⟨hN, hB⟩ := one_box w 45 [.int .i64 x.1, .int .i64 x.2]
  have HG := hid (fCome_stale b g m a s p ck A x.1 _ (h.next hB) ht)
  have HB := hid hB
  clear h hB ht hN
  go_enter Try.func15, Try.ntmps15
  go_wp2_with fail
  refine Calls.mono HG.out ?_
  rintro e w1 ⟨rfl, rfl⟩
  go_wp2_with fail
  go_ret
  exact ⟨rfl, HB.out⟩
/-- The document's window as it is then, all else as it was. -/
def RfGone (w : World) (b g : Nat) (m a s p t : Int) (A : List Pr) (w' : World) : Prop := ∃ g', Rf w' b g' m a s p t true A ∧ Turn [b, g] w w' ∧ (g' = g ∨ w.heap.size ≤ g')
theorem rf_grown {w w0 w1 w2 : World} {b g : Nat} {m a s p t : Int} {v0 lv2 : Value} {A : List Pr} (hB : Below w.heap.size w w0) (t1 : Turn [b] w0 w1) (h1 : Box w1 b [.int .i64 m, .int .i64 a, .int .i64 s, .int .i64 p, v0, .int .i64 t, .bool true]) (hgr : PLsGrew w1.drew (fun i => i = g ∧ g ≠ b) lv2 A w2) :
    Box w2 b [.int .i64 m, .int .i64 a, .int .i64 s, .int .i64 p, v0, .int .i64 t, .bool true] ∧ RfGone w b g m a s p t A (w2.setCell ⟨b, 4, none⟩ lv2) := by
  obtain ⟨⟨g', off, cap, ho, e, h⟩, S, tt, hS⟩ := hgr
  have t2 : Turn S w1 w2 := Turn.undrew tt
  have lb := h1.lt
  have hbx := h1.turn t2 (fun hm => by have := hS b hm; omega)
  have hgb : g' ≠ b := by
    rcases ho with ⟨rfl, h⟩ | ho
    · exact h
    · have : w1.heap.size ≤ g' := ho
      omega
  have s0 := hB.size
  have s1 := t1.size
  refine ⟨hbx, g', ⟨lv2, by simpa using hbx.set 4 (by simp) lv2, .inr ⟨hgb, off, cap, e, h.turn (S := [b]) (Turn.set _ _ _ (by simp)) (by simpa using hgb)⟩⟩, ?_, ?_⟩
  · have q1 : Turn [b, g] w w1 := (Turn.of_below hB).trans t1 (fun i hi => .inl (by simp at hi ⊢; exact .inl hi))
    exact (q1.trans t2 (fun i hi => .inl (by have := hS i hi; simp [this.1]))).andSet _ _ (.inl (by simp))
  · rcases ho with ⟨rfl, _⟩ | ho
    · exact .inl rfl
    · exact .inr (by have : w1.heap.size ≤ g' := ho; omega)
set_option maxRecDepth 20000 in
set_option maxHeartbeats 1000000 in
theorem fPut (b g : Nat) (m a s p ck : Int) (on : Bool) (A : List Pr) (x : Pr) (w : World) (h : Rf w b g m a s p ck on A) (ht : on = true → ck ≤ x.1) (hl : A.length < 8796093022208) :
    Calls Try.prog 15 #[.pointer (some ⟨b, 0, none⟩), .agg #[.int .i64 x.1, .int .i64 x.2]] w fun e w' => e = .returned (.int .i64 0) ∧ RfGone w b g m a s p x.1 (A ++ [x]) w' := by
  obtain ⟨hN, hB⟩ := one_box w 45 [.int .i64 x.1, .int .i64 x.2]
  have HG := hid (fCome b g m a s p ck on A x.1 _ (h.next hB) ht)
  have hbl := h.lt
  have HB := hid hB
  have HN := hid hN
  clear h hB ht hN
  go_enter Try.func15, Try.ntmps15
  go_wp2_with fail
  refine Calls.mono HG.out ?_
  rintro e w1 ⟨rfl, ⟨lv, h1, h2⟩, t1⟩
  have hN1 := HN.out.turn t1 (by simp; omega)
  obtain ⟨c4, c5, c6, f4, f5, f6⟩ := h1.seven8
  have lb := h1.lt
  have x0 := hN1.cell 0 _ rfl
  have x1 := hN1.cell 1 _ rfl
  have xl := hN1.lt
  have hpl : PLs w1 (fun i => i = g ∧ g ≠ b) lv A := by
    rcases h2 with ⟨e1, e2, _⟩ | ⟨hne, off, cap, e1, h2⟩
    · exact .inl ⟨e1, e2⟩
    · exact .inr ⟨g, off, cap, ⟨rfl, hne⟩, e1, h2⟩
  obtain ⟨al, cl, hlv⟩ := hpl.shape
  subst hlv
  have HP := hid hpl
  have H1 := hid h1
  have HT := hid t1
  clear h1 h2 t1 hN1 hpl
  go_wp2_with fail
  go_region_law (refine step_append_pls w1.drew rfl (.tmp 16) (.tmp 18) rfl (fun i => i = g ∧ g ≠ b) (.slice al A.length cl) A x rfl (by simp [Act.eval]) (HP.out.turn (S := []) (drewN_turn [] w1 1) (by simp)) hl (by simp [Act.eval]) ?_; intro b2 c2 w2 hgr; obtain ⟨hx2, hend⟩ := rf_grown HB.out HT.out H1.out hgr; have y4 := hx2.cell 4 _ rfl; have z4 := hx2.free 4 (by simp); have l4 := hx2.lt; have HE := hid hend; clear hx2 hend hgr)
  all_goals go_wp2_with fail
  all_goals go_ret
  all_goals exact ⟨rfl, HE.out⟩
set_option maxRecDepth 20000 in
set_option maxHeartbeats 1000000 in
theorem gRead_stale (b g : Nat) (m a s p ck : Int) (A : List Pr) (t : Int) (w : World) (h : Rf w b g m a s p ck true A) (ht : t < ck) :
    Calls Try.prog 17 #[.pointer (some ⟨b, 0, none⟩), .int .i64 t] w fun e w' => e = .returned (.tuple #[rv r0, .int .i64 32]) ∧ Below w.heap.size w w' := by
  obtain ⟨hR, hB⟩ := one_box w 49 [.int .i64 0, .int .i64 0]
  have HG := hid (fCome_stale b g m a s p ck A t _ (h.next hB) ht)
  have HB := hid hB
  clear h hB ht hR
  go_enter Try.func17, Try.ntmps17
  go_wp2_with fail
  refine Calls.mono HG.out ?_
  rintro e w1 ⟨rfl, rfl⟩
  go_wp2_with fail
  refine bodyPost_ret (v := .tuple #[rv r0, .int .i64 32]) (by simp [results, Try.results17, go_sem, rv, r0]) rfl ⟨rfl, ?_⟩
  exact HB.out
set_option maxRecDepth 20000 in
set_option maxHeartbeats 1000000 in
theorem gRead (b g : Nat) (m a s p ck : Int) (on : Bool) (A : List Pr) (t : Int) (w : World) (h : Rf w b g m a s p ck on A) (hs : on = true → ck ≤ t) (hl : A.length < 8796093022208) (hA : ∀ x, x ∈ A → x.1 ≤ t ∧ In64 x.1 ∧ In64 x.2) (ht : In64 t) (hr : RightT m a s p) :
    Calls Try.prog 17 #[.pointer (some ⟨b, 0, none⟩), .int .i64 t] w fun e w' => e = .returned (.tuple #[rv (toldOf a p (vals (heldOf s t A))), .int .i64 0]) ∧ RfGone w b g m a s p t A w' := by
  obtain ⟨hR, hB⟩ := one_box w 49 [.int .i64 0, .int .i64 0]
  have HG := hid (fCome b g m a s p ck on A t _ (h.next hB) hs)
  have hbl := h.lt
  have HB := hid hB
  have HR := hid hR
  generalize hx : toldOf a p (vals (heldOf s t A)) = x
  have HX := hid hx
  have HA := hid hA
  clear h hB hs hR hx hA
  go_enter Try.func17, Try.ntmps17
  go_wp2_with fail
  refine Calls.mono HG.out ?_
  rintro e w1 ⟨rfl, hrf, t1⟩
  have HRF := hid hrf
  obtain ⟨lv, h1, h2⟩ := hrf
  have hrd := h2.rd
  obtain ⟨al, cl, hlv⟩ := h2.shape
  subst hlv
  have hR1 := HR.out.turn t1 (by simp; omega)
  have c0 := h1.cell 0 _ rfl
  have c1 := h1.cell 1 _ rfl
  have c2 := h1.cell 2 _ rfl
  have c3 := h1.cell 3 _ rfl
  have c4 := h1.cell 4 _ rfl
  have lb := h1.lt
  have z0 := hR1.cell 0 _ rfl
  have z1 := hR1.cell 1 _ rfl
  have HC := hid (fun k => fRead m a s p _ A t (w1.drewN k) (hrd.alike rfl) hl HA.out ht hr)
  have HR1 := hid hR1
  have HT := hid t1
  simp only [tv] at HC
  clear h1 h2 hrd hR1 t1
  go_wp2_with fail
  go_region_with (go_at_call 31; refine Calls.mono (HC.out 1) ?_; rw [HX.out]; simp only [rv]; rintro e w2 ⟨rfl, hb2⟩; have hz := HR1.out.next ((drewN_below w1 1).trans hb2); have k0 := hz.cell 0 _ rfl; have k1 := hz.cell 1 _ rfl; have k2 := hz.free 0 (by simp); have k3 : ∀ u, (w2.setCell ⟨w.heap.size, 0, none⟩ u).frozen? ⟨w.heap.size, 1, none⟩ = false := (fun u => (World.frozen?_setCell _ _ _ _).trans (hz.free 1 (by simp))); have k4 := hz.lt; have o := (fun u v => ((hz.set 0 (by simp) u).set 1 (by simp) v).two); have o0 := (fun u v => (o u v).1); have o1 := (fun u v => (o u v).2.1); have H2 := hid hb2; clear hb2 hz o)
  all_goals go_wp2_with fail
  all_goals (
    refine bodyPost_ret (v := .tuple #[rv x, .int .i64 0]) (by simp [results, Try.results17, go_sem, o0, o1, rv]) rfl ⟨rfl, ?_⟩
    have bb : Below w1.heap.size w1 w2 := (drewN_below w1 1).trans H2.out
    have s0 := HB.out.size
    have tS : Turn [w.heap.size] w1 ((w2.setCell ⟨w.heap.size, 0, none⟩ (.int .i64 x.1)).setCell ⟨w.heap.size, 1, none⟩ (.int .i64 x.2)) := ((Turn.of_below bb).andSet _ _ (.inl (by simp))).andSet _ _ (.inl (by simp))
    refine ⟨g, HRF.out.turn tS (by simp; omega) (by simp; omega), ?_, .inl rfl⟩
    exact ((Turn.of_below HB.out).trans HT.out (fun i hi => .inl (by simp at hi; simp [hi]))).trans tS (fun i hi => .inr (by simp at hi; omega)))
end Go.Proofs.Ytccgbkafcbfcgaa
