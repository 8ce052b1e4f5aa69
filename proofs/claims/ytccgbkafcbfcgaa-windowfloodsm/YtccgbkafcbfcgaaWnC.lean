/- Windows: the clock goes on. -/
import Derived.Test.YtccgbkafcbfcgaaWnB
namespace Go.Proofs.Ytccgbkafcbfcgaa
open Go.RowKit

/-- The window behind a change of its ring and of what is told. -/
theorem win_mend {w w2 w3 w4 : World} {b r q q' : Nat} {A A' : List Nat} {sp mp op : Option Addr} {agg span per ck : Int} {on : Bool} {L M : List Pr} (h : WinIs w b r q A sp mp op agg span per ck on L) (hring : Rq w2 r q' 4096 M) (t2 : Turn [r, q] w w2) (hq : q' = q ∨ w.heap.size ≤ q') (b3 : Below w2.heap.size w2 w3)
    (haux : Aux w4 (vals M) agg sp mp op A') (t4 : Turn A w3 w4) (hA : From w3 A A') (hin : ∀ s, s ∈ M → In64 s.1 ∧ In64 s.2) :
    WinIs w4 b r q' A' sp mp op agg span per ck on M ∧ Turn (b :: r :: q :: A) w w4 ∧ From w (b :: r :: q :: A) (b :: r :: q' :: A') := by
  have lb := h.box.lt
  have lr := h.ring.lt
  have lq := h.ring.qlt
  have lq2 := hring.qlt
  have hs2 := t2.size
  have hs3 := b3.size
  have hs4 := t4.size
  have lA := h.aux.lt
  have hbr := h.br
  have hbq := h.bq
  have q'A : q' ∉ A := by
    rcases hq with rfl | hq
    · exact h.qA
    · intro hm; have := lA q' hm; omega
  have out : ∀ i, i < w3.heap.size → i ∉ A → i ∉ A' := fun i hi hn hm => (hA i hm).elim hn (fun e => by omega)
  refine ⟨⟨?_, ?_, haux, hbr, ?_, out b (by omega) h.bA, out r (by omega) h.rA, out q' (by omega) q'A, hin, h.fair, h.now⟩, ?_, ?_⟩
  · exact ((h.box.turn t2 (by simp; omega)).next b3).turn t4 h.bA
  · exact (hring.next b3).turn t4 h.rA q'A
  · rcases hq with rfl | hq
    · exact hbq
    · omega
  · refine Turn.trans (S' := A) (Turn.andBelow (Turn.trans (S' := [r, q]) (Turn.refl _ w) t2 (fun i hi => by simp at hi ⊢; omega)) b3) t4 (fun i hi => .inl (by simp [hi]))
  · intro i hi
    simp only [List.mem_cons] at hi ⊢
    rcases hi with rfl | rfl | rfl | hi
    · simp
    · simp
    · rcases hq with rfl | hq
      · simp
      · exact .inr hq
    · rcases hA i hi with h1 | h1
      · exact .inl (by simp [h1])
      · exact .inr (by omega)
/-- How many the ring holds, off its count. -/
def ringLen (w : World) (r : Nat) : Nat := (intOf ((w.cell? ⟨r, 2, none⟩).getD (.int .i64 0))).toNat
theorem ringLen_eq {w : World} {r q room : Nat} {L : List Pr} (h : Rq w r q room L) : ringLen w r = L.length := by
  obtain ⟨f, s, c, h⟩ := h
  have c2 := h.box.cell 2 _ rfl
  simp [ringLen, c2, intOf]
theorem fresh_cons (span t : Int) (s : Pr) (L : List Pr) (h : tooOld span t (s :: L) = true) : fresh span t (s :: L) = fresh span t L := by
  simp only [tooOld, decide_eq_true_eq] at h
  simp [fresh, h]
theorem fresh_stop (span t : Int) (L : List Pr) (h : tooOld span t L = false) : fresh span t L = L := by
  cases L with
  | nil => rfl
  | cons s L =>
    simp only [tooOld, decide_eq_false_iff_not] at h
    simp [fresh, h]
theorem vals_cons (s : Pr) (L : List Pr) : vals (s :: L) = s.2 :: vals L := rfl
theorem vals_append (L M : List Pr) : vals (L ++ M) = vals L ++ vals M := by simp [vals]
theorem vals_in {L : List Pr} (h : ∀ s, s ∈ L → In64 s.1 ∧ In64 s.2) : ∀ x, x ∈ vals L → In64 x := by
  intro x hx
  obtain ⟨s, hs, rfl⟩ := List.mem_map.1 hx
  exact (h s hs).2
/-- The window as it is at t, all else as it was. -/
def Gone (w : World) (b : Nat) (F : List Nat) (agg span per t : Int) (L : List Pr) (w' : World) : Prop := ∃ F', Win w' b F' agg span per t true L ∧ Turn F w w' ∧ From w F F'
set_option maxRecDepth 20000 in
set_option maxHeartbeats 1000000 in
theorem wGoOn_stale (b : Nat) (F : List Nat) (agg span per ck : Int) (L : List Pr) (t : Int) (w : World) (h : Win w b F agg span per ck true L) (ht : t < ck) :
    Calls Try.prog 25 #[.pointer (some ⟨b, 0, none⟩), .int .i64 t] w fun e w' => e = .returned (.int .i64 32) ∧ w = w' := by
  obtain ⟨r, q, A, sp, mp, op, rfl, h⟩ := h
  have hlt := h.box.lt
  have c0 := h.box.cell 0 _ rfl
  have c4 := h.box.cell 4 _ rfl
  have c5 := h.box.cell 5 _ rfl
  have HR := hid (qRoom r q 4096 L w h.ring)
  clear h
  go_enter Try.func25, Try.ntmps25
  go_wp2_with fail
  refine Calls.mono HR.out ?_
  rintro e w1 ⟨rfl, rfl⟩
  go_wp2_with fail
  go_ret
  exact ⟨rfl, rfl⟩
set_option maxRecDepth 20000 in
set_option maxHeartbeats 1000000 in
theorem wGoOn_nil (t : Int) (w : World) : Calls Try.prog 25 #[.pointer none, .int .i64 t] w fun e w' => e = .returned (.int .i64 4) ∧ w = w' := by
  go_enter Try.func25, Try.ntmps25
  go_wp2_with fail
  go_ret
  exact ⟨rfl, rfl⟩
set_option maxRecDepth 20000 in
set_option maxHeartbeats 1000000 in
theorem wGoOn_zero (b : Nat) (vs : List Value) (t : Int) (w : World) (h : Box w b (.pointer none :: vs)) : Calls Try.prog 25 #[.pointer (some ⟨b, 0, none⟩), .int .i64 t] w fun e w' => e = .returned (.int .i64 4) ∧ w = w' := by
  have hlt := h.lt
  have c0 := h.cell 0 _ rfl
  clear h
  go_enter Try.func25, Try.ntmps25
  go_wp2_with fail
  refine Calls.mono (qRoom_nil w) ?_
  rintro e w1 ⟨rfl, rfl⟩
  go_wp2_with fail
  go_ret
  exact ⟨rfl, rfl⟩
set_option maxRecDepth 20000 in
set_option maxHeartbeats 4000000 in
theorem wGoOn_is (b r q : Nat) (A : List Nat) (sp mp op : Option Addr) (agg span per ck : Int) (on : Bool) (L : List Pr) (t : Int) (w : World) (h : WinIs w b r q A sp mp op agg span per ck on L) (ht : In64 t) (hs : on = true → ck ≤ t) :
    Calls Try.prog 25 #[.pointer (some ⟨b, 0, none⟩), .int .i64 t] w fun e w' => e = .returned (.int .i64 0) ∧ ∃ q' A', WinIs w' b r q' A' sp mp op agg span per t true (fresh span t L) ∧ Turn (b :: r :: q :: A) w w' ∧ From w (b :: r :: q :: A) (b :: r :: q' :: A') := by
  have hlt := h.box.lt
  have c0 := h.box.cell 0 _ rfl
  have c4 := h.box.cell 4 _ rfl
  have c5 := h.box.cell 5 _ rfl
  have f4 := h.box.free 4 (by simp)
  have f5 := h.box.free 5 (by simp)
  have f5' : ∀ u, (w.setCell ⟨b, 4, none⟩ u).frozen? ⟨b, 5, none⟩ = false := fun u => (World.frozen?_setCell _ _ _ _).trans f5
  have HR := hid (qRoom r q 4096 L w h.ring)
  have hst : WinIs ((w.setCell ⟨b, 4, none⟩ (.int .i64 t)).setCell ⟨b, 5, none⟩ (.bool true)) b r q A sp mp op agg span per t true L := by
    have hx := (h.box.set 4 (by simp) (.int .i64 t)).set 5 (by simp) (.bool true)
    have tt : Turn [b] w ((w.setCell ⟨b, 4, none⟩ (.int .i64 t)).setCell ⟨b, 5, none⟩ (.bool true)) := (Turn.set _ _ _ (by simp)).andSet _ _ (.inl (by simp))
    exact ⟨by simpa using hx, h.ring.turn tt (by simpa using Ne.symm h.br) (by simpa using Ne.symm h.bq), h.aux.turn tt (fun i hi => by simp; rintro rfl; exact h.bA hi), h.br, h.bq, h.bA, h.rA, h.qA, h.inn, h.fair, ht⟩
  have tst : Turn (b :: r :: q :: A) w ((w.setCell ⟨b, 4, none⟩ (.int .i64 t)).setCell ⟨b, 5, none⟩ (.bool true)) := (Turn.set _ _ _ (by simp)).andSet _ _ (.inl (by simp))
  have HST := hid hst
  have HTS := hid tst
  have hrq := h.br
  clear h hst tst
  go_enter Try.func25, Try.ntmps25
  go_wp2_with fail
  refine Calls.mono HR.out ?_
  rintro e w1 ⟨rfl, rfl⟩
  have hs' : on = false ∨ ¬ t < ck := by
    cases on with
    | false => exact .inl rfl
    | true => exact .inr (by have := hs rfl; omega)
  clear hs
  rcases on with _ | _
  case' false => clear hs'
  case' true => replace hs' : ¬ t < ck := by simpa using hs'
  all_goals (
    go_wp2_with fail
    go_loopw [6] (fun _ wr => ∃ q' A' M, WinIs wr b r q' A' sp mp op agg span per t true M ∧ fresh span t M = fresh span t L ∧ Turn (b :: r :: q :: A) w wr ∧ From w (b :: r :: q :: A) (b :: r :: q' :: A')) (fun _ wr => ringLen wr r)
    case atStart => exact ⟨q, A, L, HST.out, rfl, HTS.out, From.refl _ _⟩
    case round =>
      obtain ⟨q', A', M, hW, hM, hT, hF⟩ := hrel
      have HW := hid hW
      have HM := hid hM
      have HT := hid hT
      have HF := hid hF
      clear c0 c4 c5 f4 f5 f5' hlt hW hM hT hF
      go_wp2_with fail
      refine Calls.mono (wOld b r q' A' sp mp op agg span per t true M t wr HW.out ht) ?_
      rintro e w1 ⟨rfl, hB1⟩
      have hW1 := HW.out.turn (S := []) (Turn.of_below hB1) (by simp)
      have hlt := hW1.box.lt
      have c0 := hW1.box.cell 0 _ rfl
      have H1 := hid hB1
      have HW1 := hid hW1
      clear hB1 hW1
      cases ho : tooOld span t M with
      | false =>
        have HO := hid ho
        clear ho
        go_wp2_with fail
        go_ret
        exact ⟨rfl, q', A', by rw [← HM.out, fresh_stop _ _ _ HO.out]; exact HW1.out, HT.out.andBelow H1.out, HF.out⟩
      | true =>
        cases M with
        | nil => cases ho
        | cons s M =>
          have HO := hid ho
          clear ho
          have HD := hid (qDrop_yes r q' 4096 M s w1 HW1.out.ring (Nat.le_refl _))
          go_wp2_with fail
          refine Calls.mono HD.out ?_
          rintro e w2 ⟨q2, rfl, hR2, tR, hq2⟩
          have hx2 := HW1.out.box.turn tR (by have h1 := HW1.out.br; have h2 := HW1.out.bq; simp [h1, h2])
          have ha2 := HW1.out.aux.turn tR (fun i hi => by simp; exact ⟨fun e => HW1.out.rA (e ▸ hi), fun e => HW1.out.qA (e ▸ hi)⟩)
          have b3 : Below w2.heap.size w2 (w2.alloc (.cells #[.int .i64 s.1, .int .i64 s.2] 45)) := (Below.refl _ _).alloc (Nat.le_refl _) _
          have hN := (Box.new w2 [.int .i64 s.1, .int .i64 s.2] 45).cell 1 _ rfl
          have hin := HW1.out.inn
          have hL := wLeave b _ _ _ _ _ _ sp mp op A' agg s.2 (vals M) _ (hx2.next b3) (ha2.next b3) HW1.out.bA (hin s (by simp)).2 (vals_in (fun x hx => hin x (by simp [hx]))) (by have := HW1.out.ring.len; simp [vals] at this ⊢; omega)
          have HL := hid hL
          have HR2 := hid hR2
          have HTR := hid tR
          have H3 := hid b3
          have HIN := hid hin
          clear hx2 ha2 b3 hin hL hR2 tR c0 hlt
          simp only [pv]
          go_wp2_with fail
          refine Calls.mono HL.out ?_
          rintro e w4 ⟨rfl, A2, haux, t4, hA2⟩
          obtain ⟨m1, m2, m3⟩ := win_mend HW1.out HR2.out HTR.out hq2 H3.out haux t4 hA2 (fun x hx => HIN.out x (by simp [hx]))
          have M1 := hid m1
          have M2 := hid m2
          have M3 := hid m3
          clear m1 m2 m3 haux t4 hA2 hN hq2
          go_wp2_with fail
          go_roundw
          case rel =>
            refine ⟨q2, A2, M, M1.out, ?_, ?_, ?_⟩
            · rw [← fresh_cons _ _ _ _ HO.out]; exact HM.out
            · exact (HT.out.andBelow H1.out).trans M2.out (fun i hi => HF.out i hi)
            · exact HF.out.trans M3.out (Nat.le_trans HT.out.size H1.out.size)
          case measure =>
            rw [ringLen_eq M1.out.ring, ringLen_eq HW.out.ring]; simp)
theorem wGoOn (b : Nat) (F : List Nat) (agg span per ck : Int) (on : Bool) (L : List Pr) (t : Int) (w : World) (h : Win w b F agg span per ck on L) (ht : In64 t) (hs : on = true → ck ≤ t) :
    Calls Try.prog 25 #[.pointer (some ⟨b, 0, none⟩), .int .i64 t] w fun e w' => e = .returned (.int .i64 0) ∧ Gone w b F agg span per t (fresh span t L) w' := by
  obtain ⟨r, q, A, sp, mp, op, rfl, h⟩ := h
  refine (wGoOn_is b r q A sp mp op agg span per ck on L t w h ht hs).mono ?_
  rintro e w' ⟨rfl, q', A', h1, h2, h3⟩
  exact ⟨rfl, _, ⟨r, q', A', sp, mp, op, rfl, h1⟩, h2, h3⟩
end Go.Proofs.Ytccgbkafcbfcgaa
