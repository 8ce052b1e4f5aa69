/- The laws of layer 21: what Emit's program is, plain; CodeConstants walked. -/
import Derived.Test.YtbddbnjhmdbkbaaGreatDoorCaKdW
import Derived.Test.YtbddbnjhmdbkbaaGreatDoorCaKdR
import Derived.Test.YtbddbnjhmdbkbaaGreatDoorCaMhZ
namespace Go.Proofs.YtbddbnjhmdbkbaaGreatDoor
open Go.RowKit

theorem emit_ok {q : Co → Co → Bool} {p : PlP} {G : PgP} (h : emitF q p = (G, 0)) : G = progF p ∧ 0 ≤ p.loc ∧ AllOk p.loc.toNat (G.C.length - 1) G.K G.C ∧ ∃ x, G.C.getLast? = some x ∧ (x.1 = 29 ∨ x.1 = 30 ∨ x.1 = 31) := by
  unfold emitF at h
  by_cases hf : formedP q p = false
  · rw [if_pos hf] at h
    exact absurd (Prod.mk.inj h).2 (by decide)
  · rw [if_neg hf] at h
    by_cases hl : largeB (progF p) = true
    · rw [if_pos hl] at h
      exact absurd (Prod.mk.inj h).2 (by decide)
    · rw [if_neg hl] at h
      obtain rfl := (Prod.mk.inj h).1
      have hf' : formedP q p = true := by simpa using hf
      unfold formedP at hf'
      simp only [Bool.and_eq_true] at hf'
      obtain ⟨⟨⟨⟨⟨h1, h2⟩, h3⟩, h4⟩, h5⟩, h6⟩ := hf'
      have h0 := (of_decide_eq_true h1).2.2.2.1
      unfold sortsB at h5
      simp only [Bool.and_eq_true, List.all_eq_true, decide_eq_true_eq] at h5
      have e : ((p.loc.toNat : Nat) : Int) = p.loc := by omega
      have hk := planM_ok (wn := p.wins.length) (cn := p.crons.length) (nl := p.loc.toNat) p.gs p.fin (fun g hg => by rw [e]; exact h5.1 g hg) (by rw [e]; exact h5.2) []
      exact ⟨rfl, h0, hk.2.1, hk.2.2⟩
/-- Every number that is put on the stack is asked for at the first place at which it stands. -/
def ConOk (g : PgP) : Prop := ∀ (i : Nat) (a : Int), g.C[i]? = some ((1 : Int), a) → ∃ (k : Nat) (v : Int), a = (k : Int) ∧ g.K[k]? = some v ∧ ∀ j, j < k → g.K[j]? ≠ some v
theorem idxOf_le {v : Int} : ∀ {K : List Int} {j : Nat}, K[j]? = some v → K.idxOf v ≤ j
  | [], _, h => by cases h
  | a :: r, 0, h => by
    cases h
    simp
  | a :: r, j + 1, h => by
    have h1 := idxOf_le (K := r) (j := j) h
    rw [List.idxOf_cons]
    cases a == v with
    | true => exact Nat.zero_le _
    | false => show List.idxOf v r + 1 ≤ j + 1; omega
theorem emit_con {q : Co → Co → Bool} {p : PlP} {G : PgP} (h : emitF q p = (G, 0)) : ConOk G := by
  obtain ⟨-, -, ha, -⟩ := emit_ok h
  intro i a hi
  obtain ⟨k, h1, v, h2, h3⟩ := (ha i _ hi).num rfl
  refine ⟨k, v, h1, h2, fun j hj e => ?_⟩
  have h4 := idxOf_le e
  omega
set_option maxHeartbeats 4000000 in
set_option maxRecDepth 20000 in
theorem codeConstants_c (HEm : EmitC) (p : PlP) (v : PlV) (w : World) (hs : PlAt w p v) (hp : PWt p) (hF : FldAt w) (hP : PoAt w w.heap.size) (hm : p.wins.length * 32 ≤ 140737488355328 ∧ p.crons.length * 40 ≤ 140737488355328 ∧ C64 p.mets.length) :
    Calls Tryz.prog 7 #[plV p v] w fun r w' => r = .returned (.bool true) ∧ Below w.heap.size w w' := by
  classical
  obtain ⟨q, hq⟩ : ∃ q : Co → Co → Bool, ∀ a b, q a b = true ↔ a = b := ⟨fun a b => decide (a = b), fun a b => by simp⟩
  have hPW : ∀ W, Below w.heap.size w W → PoAt W W.heap.size := fun W hW => ⟨Nat.lt_of_lt_of_le hP.lt hW.size, Nat.lt_of_lt_of_le hP.lw hW.size, (hP.next hW).at'⟩
  have HAw := chid (fun W (hW : Below w.heap.size w W) => awake21_c HEm W (hF.later hW) (hPW W hW))
  have HFw := chid (fun W (hW : Below w.heap.size w W) => few21_c p v W (hs.next hW) hp.gs)
  have HPl := chid (fun W (hW : Below w.heap.size w W) => HEm q hq p v W (hs.next hW) (hF.later hW) (hPW W hW) hm.1 hm.2.1 hm.2.2)
  obtain ⟨a1, c1, a2, c2, a3, c3, a4, c4, a5, c5, rfl, g1, g2, g3, g4⟩ := hs.shapes
  have B0 := chid (bel_alloc w (.cells (plL p ⟨.slice a1 p.mets.length c1, .slice a2 p.wins.length c2, .slice a3 p.crons.length c3, .slice a4 p.gs.length c4, .slice a5 p.fin.parts.length c5⟩).toArray 32))
  have HY0 := chid (Box.new w (plL p ⟨.slice a1 p.mets.length c1, .slice a2 p.wins.length c2, .slice a3 p.crons.length c3, .slice a4 p.gs.length c4, .slice a5 p.fin.parts.length c5⟩) 32)
  clear hs hF hp hP hm hq g1 g2 g3 g4 hPW HEm
  obtain ⟨Q, er, hR⟩ : ∃ Q er, Hid (emitF q p = (Q, er)) := ⟨_, _, rfl⟩
  rw [hR.out] at HPl
  dsimp only at HPl
  go_enter Tryz.func7, Tryz.ntmps7
  go_wp2_with fail
  refine Calls.mono (HAw.out _ B0.out) ?_
  rintro e w1 ⟨rfl, b1⟩
  have B1 := chid (cbelow_on B0.out b1 B0.out.size)
  replace HY0 := chid (HY0.out.next b1)
  clear b1 B0
  have x0 := HY0.out.cell 0 _ rfl
  have x1 := HY0.out.cell 1 _ rfl
  have x2 := HY0.out.cell 2 _ rfl
  have x3 := HY0.out.cell 3 _ rfl
  have x4 := HY0.out.cell 4 _ rfl
  have x5 := HY0.out.cell 5 _ rfl
  have x6 := HY0.out.cell 6 _ rfl
  have x7 := HY0.out.cell 7 _ rfl
  have x8 := HY0.out.cell 8 _ rfl
  have x9 := HY0.out.cell 9 _ rfl
  have x10 := HY0.out.cell 10 _ rfl
  have x11 := HY0.out.cell 11 _ rfl
  have x12 := HY0.out.cell 12 _ rfl
  have x13 := HY0.out.cell 13 _ rfl
  have xl := HY0.out.lt
  go_wp2_with fail
  refine Calls.mono (HFw.out _ B1.out) ?_
  rintro e w2 ⟨rfl, b2⟩
  have B2 := chid (cbelow_on B1.out b2 B1.out.size)
  replace HY0 := chid (HY0.out.next b2)
  clear b2 B1 x0 x1 x2 x3 x4 x5 x6 x7 x8 x9 x10 x11 x12 x13 xl HFw
  cases hfw : fewL p with
  | false =>
    go_wp2_with fail
    refine Calls.mono (HAw.out _ B2.out) ?_
    rintro e w3 ⟨rfl, b3⟩
    have B3 := chid (cbelow_on B2.out b3 B2.out.size)
    clear b3
    go_wp2_with fail
    go_ret
    exact ⟨rfl, B3.out⟩
  | true =>
    clear HAw hfw
    have x0 := HY0.out.cell 0 _ rfl
    have x1 := HY0.out.cell 1 _ rfl
    have x2 := HY0.out.cell 2 _ rfl
    have x3 := HY0.out.cell 3 _ rfl
    have x4 := HY0.out.cell 4 _ rfl
    have x5 := HY0.out.cell 5 _ rfl
    have x6 := HY0.out.cell 6 _ rfl
    have x7 := HY0.out.cell 7 _ rfl
    have x8 := HY0.out.cell 8 _ rfl
    have x9 := HY0.out.cell 9 _ rfl
    have x10 := HY0.out.cell 10 _ rfl
    have x11 := HY0.out.cell 11 _ rfl
    have x12 := HY0.out.cell 12 _ rfl
    have x13 := HY0.out.cell 13 _ rfl
    have xl := HY0.out.lt
    go_wp2_with fail
    refine Calls.mono (HPl.out _ B2.out) ?_
    rintro r w3 ⟨u, rfl, pu, b3⟩
    have B3 := chid (cbelow_on B2.out b3 B2.out.size)
    obtain ⟨ak, ck, e1⟩ := own_shape pu.k
    obtain ⟨aw, cw, e2⟩ := own_shape pu.wi
    obtain ⟨ar, cr, e3⟩ := own_shape pu.cr
    obtain ⟨ac, cc, e4⟩ := own_shape pu.c
    obtain ⟨vk, vw, vr, vc⟩ := u
    simp only at e1 e2 e3 e4
    subst e1 e2 e3 e4
    have HPu := chid pu
    clear pu b3 B2 x0 x1 x2 x3 x4 x5 x6 x7 x8 x9 x10 x11 x12 x13 xl HPl HY0
    have HB4 := chid (fun o => B3.out.alloc B3.out.size o)
    by_cases her : er = 0
    · subst her
      have HCo := chid (emit_con hR.out)
      have HYq := chid (Box.new w3 (pgL Q ⟨.slice ak Q.K.length ck, .slice aw Q.wins.length cw, .slice ar Q.crons.length cr, .slice ac Q.C.length cc⟩) 55)
      have HRd : Hid ((∀ (i : Nat) (x : Ins), Q.C[i]? = some x → ∃ g, ac = some ⟨g, 0, none⟩ ∧ g < w3.heap.size ∧ w3.cell? ⟨g, i * 2, none⟩ = some (.int .i64 x.1) ∧ w3.cell? ⟨g, i * 2 + 1, none⟩ = some (.int .i64 x.2)) ∧ ∀ (i : Nat) (y : Int), Q.K[i]? = some y → ∃ g, ak = some ⟨g, 0, none⟩ ∧ g < w3.heap.size ∧ w3.cell? ⟨g, i, none⟩ = some (.int .i64 y)) := chid (by
        refine ⟨fun i x hx => ?_, fun i y hy => ?_⟩
        · obtain ⟨h1, ⟨h2, h3⟩ | ⟨g, cap, cur, h2, h3, h4, h5, h6, h7, h8⟩⟩ := HPu.out.c
          · have := (List.getElem?_eq_some_iff.1 hx).1; omega
          · have BX : Box w3 g (flI Q.C) := (Box.ofBlock h4).part (by rw [← h8]; exact List.take_prefix _ _)
            exact ⟨g, (Value.slice.inj h2).1, BX.lt, BX.cell _ _ (flI_at Q.C i x hx).1, BX.cell _ _ (flI_at Q.C i x hx).2⟩
        · obtain ⟨h1, ⟨h2, h3⟩ | ⟨g, cap, cur, h2, h3, h4, h5, h6, h7, h8⟩⟩ := HPu.out.k
          · have := (List.getElem?_eq_some_iff.1 hy).1; omega
          · have BX : Box w3 g (flK Q.K) := (Box.ofBlock h4).part (by rw [← h8]; exact List.take_prefix _ _)
            exact ⟨g, (Value.slice.inj h2).1, BX.lt, BX.cell i _ (by simp [flK, hy])⟩)
      go_wp2_with fail
      obtain ⟨N, hN⟩ : ∃ N, Hid (N = Q.C.length) := ⟨_, chid rfl⟩
      obtain ⟨M, hM⟩ : ∃ M, Hid (M = Q.K.length) := ⟨_, chid rfl⟩
      have hNs : N ≤ 9223372036854775807 := by
        have h := HPu.out.c
        obtain ⟨h1, ⟨h2, h3⟩ | ⟨g, cap, cur, h2, h3, h4, h5, h6, h7, h8⟩⟩ := h
        · rw [hN.out, h3]; omega
        · have h9 : cap ≤ 9223372036854775807 := h6
          rw [hN.out]; omega
      have hMs : M ≤ 9223372036854775807 := by
        have h := HPu.out.k
        obtain ⟨h1, ⟨h2, h3⟩ | ⟨g, cap, cur, h2, h3, h4, h5, h6, h7, h8⟩⟩ := h
        · rw [hM.out, h3]; omega
        · have h9 : cap ≤ 9223372036854775807 := h6
          rw [hM.out]; omega
      rw [← hN.out, ← hM.out] at HYq ⊢
      have HB4q : Hid (∀ o, Below w3.heap.size w3 (w3.alloc o)) := chid (fun o => bel_alloc w3 o)
      have HK3 := chid (HB4q.out (.cells #[.int .i64 Q.met, .int .i64 Q.ru.mn, .int .i64 Q.ru.mx, .int .i64 Q.ru.st, .int .i64 Q.ru.up, .int .i64 Q.ru.dn, .slice ak M ck, .slice aw Q.wins.length cw, .slice ar Q.crons.length cr, .int .i64 Q.loc, .int .i64 Q.h, .slice ac N cc] 55))
      have HB5 := chid (HB4.out (.cells #[.int .i64 Q.met, .int .i64 Q.ru.mn, .int .i64 Q.ru.mx, .int .i64 Q.ru.st, .int .i64 Q.ru.up, .int .i64 Q.ru.dn, .slice ak M ck, .slice aw Q.wins.length cw, .slice ar Q.crons.length cr, .int .i64 Q.loc, .int .i64 Q.h, .slice ac N cc] 55))
      generalize hX : (w3.alloc _) = X3 at *
      clear hX HB4 HB4q
      go_loopw [5] (fun i wr => ∃ (j : Nat), i = .int .i64 (j : Nat) ∧ j ≤ N ∧ Hid (Below X3.heap.size X3 wr)) (fun i _ => match i with | .int _ z => ((N : Int) - z).toNat | _ => 0)
      case atStart => exact ⟨0, rfl, Nat.zero_le _, chid (Below.refl _ _)⟩
      case round =>
        obtain ⟨j, rfl, hj, HW⟩ := hrel
        have Y := HYq.out.next HW.out
        have x6 := Y.cell 6 _ rfl
        have x11 := Y.cell 11 _ rfl
        have xl := Y.lt
        clear Y
        by_cases hlt : j < N
        · have hlt' : (j : Int) < (N : Int) := by omega
          have hwj : IntKind.i64.wrap ((j : Int) + 1) = (j : Int) + 1 := by rw [IntKind.wrap_i64]; omega
          have hjl : j < Q.C.length := by rw [← hN.out]; exact hlt
          have hxx : Q.C[j]? = some Q.C[j] := List.getElem?_eq_getElem hjl
          generalize Q.C[j] = x at hxx
          obtain ⟨xo, xa⟩ := x
          have HCx := chid hxx
          obtain ⟨g, rfl, hgl, e0, e1⟩ := HRd.out.1 j _ hxx
          have HKr : Hid (Below w3.heap.size w3 wr) := chid (cbelow_on HK3.out HW.out HK3.out.size)
          have y0 := keepc HKr.out e0
          have y1 := keepc HKr.out e1
          have gl : g < wr.heap.size := Nat.lt_of_lt_of_le hgl HKr.out.size
          have hja : ((j : Int)).toNat = j := by omega
          have ba := bel_alloc wr (.cells #[.int .i64 xo, .int .i64 xa] 61)
          have HWa := chid (cbelow_on HW.out ba HW.out.size)
          have HKa := chid (cbelow_on HKr.out ba HKr.out.size)
          have Z := Box.new wr [.int .i64 xo, .int .i64 xa] 61
          have Ya := (HYq.out.next HWa.out)
          clear hxx e0 e1 hgl ba hjl
          by_cases ho : xo = 1
          · subst ho
            obtain ⟨k, kv, rfl, hkv, hkn⟩ := HCo.out j xa HCx.out
            have hkM : k < M := by rw [hM.out]; exact (List.getElem?_eq_some_iff.1 hkv).1
            have hk0 : ¬ (k : Int) < 0 := by omega
            have hk1 : ¬ (M : Int) ≤ (k : Int) := by omega
            have hk1' : decide ((M : Int) ≤ (k : Int)) = false := by simp; omega
            have hk0' : decide ((k : Int) < 0) = false := by simp
            have HKv := chid hkv
            have HKn := chid hkn
            clear hkv hkn
            have HYa := chid Ya
            have HZ := chid Z
            have zz0 := Z.cell 0 _ rfl
            have zz1 := Z.cell 1 _ rfl
            have zzl := Z.lt
            have x6a := Ya.cell 6 _ rfl
            have xla := Ya.lt
            clear Z Ya
            obtain ⟨zb, hzb⟩ : ∃ zb, Hid (zb = wr.heap.size) := ⟨_, chid rfl⟩
            go_wp2_with fail
            rw [← hzb.out] at HZ ⊢
            generalize hV : (wr.alloc _) = V at *
            clear hV x6 x11 xl y0 y1 gl zz0 zz1 zzl x6a xla
            have HV0 := chid (Below.refl V.heap.size V)
            go_loopw [7] (fun i wq => ∃ (m : Nat), i = .int .i64 (m : Nat) ∧ m ≤ k ∧ Hid (Below V.heap.size V wq)) (fun i _ => match i with | .int _ z => ((k : Int) - z).toNat | _ => 0)
            case atStart => exact ⟨0, rfl, Nat.zero_le _, HV0⟩
            case round =>
              obtain ⟨m, rfl, hm, HV⟩ := hrel
              have Y := HYa.out.next HV.out
              have Z := HZ.out.next HV.out
              have zz1 := Z.cell 1 _ rfl
              have zzl := Z.lt
              have x6a := Y.cell 6 _ rfl
              have xla := Y.lt
              clear Y Z
              by_cases hmk : m < k
              · have hmk' : (m : Int) < (k : Int) := by omega
                have hmM : (m : Int) < (M : Int) := by omega
                have hkM' : (k : Int) < (M : Int) := by omega
                have hml : m < Q.K.length := by have := hM.out; omega
                have hmy : Q.K[m]? = some Q.K[m] := List.getElem?_eq_getElem hml
                have hne := HKn.out m hmk
                rw [hmy] at hne
                generalize Q.K[m] = y at hmy hne
                obtain ⟨g2, rfl, hg2, e2⟩ := HRd.out.2 m y hmy
                obtain ⟨g3, e3', hg3, e3⟩ := HRd.out.2 k kv HKv.out
                have e3'' : g2 = g3 := by
                  have := Option.some.inj e3'
                  exact (Addr.mk.inj this).1
                subst e3''
                have HKv2 := cbelow_on HKa.out HV.out HKa.out.size
                have u2 := keepc HKv2 e2
                have u3 := keepc HKv2 e3
                have ul := Nat.lt_of_lt_of_le hg2 HKv2.size
                have hyv : (y == kv) = false := by simpa using fun e => hne (by rw [e])
                have hwm : IntKind.i64.wrap ((m : Int) + 1) = (m : Int) + 1 := by rw [IntKind.wrap_i64]; omega
                clear hmy hne e3' hg2 hg3 e2 e3 HKv2
                go_wp2_with fail
                go_quiet (fail)
                go_wp2_with fail
                go_roundw
                case rel => exact ⟨m + 1, by go_num, by omega, chid (cdrewN HV.out _)⟩
                case measure => simp; omega
              · have hmk' : ¬ (m : Int) < (k : Int) := by omega
                go_wp2_with fail
                exact ⟨⟨j + 1, by go_num, by omega, chid (cbelow_on HWa.out HV.out HWa.out.size)⟩, by simp; omega⟩
          · have ho' : (xo != 1) = true := by simpa using ho
            go_wp2_with fail
            exact ⟨⟨j + 1, by go_num, by omega, HWa⟩, by simp; omega⟩
        · have hlt' : ¬ (j : Int) < (N : Int) := by omega
          go_wp2_with fail
          go_ret
          exact ⟨rfl, cbelow_on HB5.out HW.out HB5.out.size⟩
    · have her' : (er != 0) = true := by simpa using her
      go_wp2_with fail
      go_ret
      exact ⟨rfl, HB4.out _⟩
end Go.Proofs.YtbddbnjhmdbkbaaGreatDoor
