import Derived.Test.YtigldebdljfnbaaDoorNbH
namespace Go.Proofs.YtigldebdljfnbaaDoor
open Go.RowKit

abbrev frkL (H A B : List Ins) (op over : Int) : List Ins := cat (cat (cat (cat H [(op, ((A.length + 2 : Nat) : Int))]) A) [(over, ((1 + B.length : Nat) : Int))]) B
set_option maxHeartbeats 4000000 in
set_option maxRecDepth 20000 in
theorem fork_c (H A B : List Ins) (hh ha hb h : Nat) (op over : Int) (vh va vb : Value) (w : World) (h0 : PcQ w H vh) (h1 : PcQ w A va) (h2 : PcQ w B vb) (hl : H.length + A.length + B.length ≤ 900000) (hs : hh + ha + hb ≤ 900000) (jA : JB A) (jB : JB B) (hm : h = max hh (max ha hb)) :
    Calls Tryd.prog 23 #[.agg #[vh, .int .i64 (hh : Nat)], .int .i64 op, .int .i64 over, .int .i64 0, .agg #[va, .int .i64 (ha : Nat)], .agg #[vb, .int .i64 (hb : Nat)]] w fun e w' => ∃ v, e = .returned (pcV v h) ∧ Below w.heap.size w w' ∧ PcR w.heap.size w' (frkL H A B op over) v := by
  obtain ⟨ah, ch, rfl⟩ := h0.shape
  obtain ⟨aa, ca, rfl⟩ := h1.shape
  obtain ⟨ab, cb, rfl⟩ := h2.shape
  have HF := chid (four_new w 55 55 55 55 [.slice ah H.length ch, .int .i64 hh] [.slice aa A.length ca, .int .i64 ha] [.slice ab B.length cb, .int .i64 hb] [.slice none 0 0, .int .i64 0])
  have HQ := chid (And.intro (h0.next HF.out.2.2.2.2) (And.intro (h1.next HF.out.2.2.2.2) (h2.next HF.out.2.2.2.2)))
  have HJ := chid (And.intro jA jB)
  have HM := chid hm
  clear h0 h1 h2 jA jB hm
  go_enter Tryd.func23, Tryd.ntmps23
  go_wp2_with fail
  generalize hW : ((((w.alloc _).alloc _).alloc _).alloc _) = W at *
  clear hW
  obtain ⟨Y0, Y1, Y2, Y3, YB⟩ := HF.out
  have x0 := Y0.cell 0 _ rfl
  have x1 := Y0.cell 1 _ rfl
  have xl := Y0.lt
  have HY := chid (And.intro Y0 (And.intro Y1 (And.intro Y2 (And.intro Y3 YB))))
  clear Y0 Y1 Y2 Y3 YB HF
  have hw2 : IntKind.i64.wrap ((A.length : Int) + 2) = (A.length : Int) + 2 := by rw [IntKind.wrap_i64]; omega
  obtain ⟨C1, hC1⟩ : ∃ C1, Hid (C1 = cat H [(op, ((A.length + 2 : Nat) : Int))]) := ⟨_, chid rfl⟩
  obtain ⟨n1, hn1⟩ : ∃ n1, Hid (n1 = C1.length) := ⟨_, chid rfl⟩
  have HT1 := chid (fun (X : World) (v : Value) (hX : Below W.heap.size W X) (hv : PcQ X [(op, ((A.length : Int) + 2))] v) => ethen_b H [(op, ((A.length : Int) + 2))] hh 0 0 (.slice ah H.length ch) v X (HQ.out.1.next hX) hv (by simp; omega) (by omega) (JB.one (fun _ => by omega)) C1 (by rw [hC1.out]; rfl) n1 hn1.out hh (by omega))
  have nw := Nat.ne_of_lt xl
  have nw' := Nat.ne_of_gt xl
  apply viaP2 (fun dd a1 c1 a2 c2 w' => OutAt W C1 n1 hh dd a2 c2 w')
  case hreg =>
    go_region_held3 (fun w' => w'.cell? ⟨w.heap.size, 0, none⟩ = some (.slice ah H.length ch) ∧ w'.cell? ⟨w.heap.size, 1, none⟩ = some (.int .i64 hh)) (simp [go_sem, *]) (first | (go_at_call 14; refine Calls.mono (eone_b op ((A.length : Int) + 2) 0 _) ?_; rintro e u1 ⟨a1, c1, rfl, b1, p1⟩; (first | (have k1 := chid (cbelow_on (bdr W) b1 (Nat.le_refl _)); have Bf := chid b1) | (have k1 := chid (cbelow_on (bda W _) b1 (bda W _).size); have Zz := zboxd b1; have HZ := chid Zz; have z0 := Zz.cell 0 _ rfl; have z1 := Zz.cell 1 _ rfl; have zf0 := Zz.free 0 (by simp); have zf1 := Zz.free 1 (by simp); have zl := Zz.lt; clear Zz; have Bf := chid b1)); have HP1 := chid (fun X (hX : Below u1.heap.size u1 X) => (pc_read p1).next hX); have Yn := HY.out.1.next k1.out; replace x0 := Yn.cell 0 _ rfl; replace x1 := Yn.cell 1 _ rfl; replace xl := Yn.lt; have nu := Nat.ne_of_lt xl; have nu' := Nat.ne_of_gt xl; clear Yn b1 p1) | (go_at_call 13; refine Calls.mono (HT1.out _ _ (by first | exact k1.out | exact k1.out.alloc k1.out.size _) (HP1.out _ (by first | exact Below.refl _ _ | exact ebel _ _))) ?_; rintro e u2 ⟨a2, c2, rfl, b2, p2⟩; have HP2 := chid p2; have Bt := chid b2; (first | (have Zz := zbox b2; have z0 := Zz.cell 0 _ rfl; have z1 := Zz.cell 1 _ rfl; have zf0 := Zz.free 0 (by simp); have zf1 := Zz.free 1 (by simp); have zl := Zz.lt; clear Zz) | (have Zz := HZ.out.next b2; replace z0 := Zz.cell 0 _ rfl; replace z1 := Zz.cell 1 _ rfl; replace zf0 := Zz.free 0 (by simp); replace zf1 := Zz.free 1 (by simp); replace zl := Zz.lt; clear Zz) | skip); (have Yn := HY.out.1.next (cbelow_on (B := W.heap.size) (w := W) (by first | exact k1.out | exact k1.out.alloc k1.out.size _) b2 (by first | exact k1.out.size | exact (k1.out.alloc k1.out.size _).size)); replace x0 := Yn.cell 0 _ rfl; replace x1 := Yn.cell 1 _ rfl; replace xl := Yn.lt; clear Yn); clear b2 p2))
    · obtain ⟨dd, hdd⟩ : ∃ dd, dd = u2.heap.size := ⟨_, rfl⟩
      rw [← hdd]
      refine ⟨dd, a1, c1, a2, c2, rfl, ?_⟩
      rw [hdd]
      exact OutAt.last (cbelow_on k1.out Bt.out k1.out.size) HP2.out
    · obtain ⟨dd, hdd⟩ : ∃ dd, dd = u1.heap.size := ⟨_, rfl⟩
      rw [← hdd]
      refine ⟨dd, a1, c1, a2, c2, rfl, ?_⟩
      rw [hdd]
      exact OutAt.first (by simp) (k1.out.alloc k1.out.size _) (Box.new u1 [.slice none 0 0, .int .i64 0] 55) k1.out.size Bt.out HP2.out
    · obtain ⟨dd, hdd⟩ : ∃ dd, dd = W.heap.size := ⟨_, rfl⟩
      rw [← hdd]
      refine ⟨dd, a1, c1, a2, c2, rfl, ?_⟩
      rw [hdd]
      exact OutAt.first HZ.out.lt k1.out HZ.out (Nat.le_refl _) Bt.out HP2.out
  case hrest =>
    intro dd a1 c1 a2 c2 w1 hG
    clear x0 x1 xl nw nw' hw2
    have HG := chid hG
    have y0 := (HY.out.2.1.next hG.bl).cell 0 _ rfl
    have y1 := (HY.out.2.1.next hG.bl).cell 1 _ rfl
    have yl := (HY.out.2.1.next hG.bl).lt
    have d0 := hG.box.cell 0 _ rfl
    have d1 := hG.box.cell 1 _ rfl
    have dl := hG.box.lt
    clear hG
    obtain ⟨C2, hC2⟩ : ∃ C2, Hid (C2 = cat C1 A) := ⟨_, chid rfl⟩
    obtain ⟨n2, hn2⟩ : ∃ n2, Hid (n2 = C2.length) := ⟨_, chid rfl⟩
    have HN1 : Hid (n1 = H.length + 1 ∧ C1.length = H.length + 1 ∧ n2 = H.length + 1 + A.length ∧ C2.length = H.length + 1 + A.length) := chid (by
      have e1 : C1.length = H.length + 1 := by rw [hC1.out, cat_len]; rfl
      have e2 : C2.length = H.length + 1 + A.length := by rw [hC2.out, cat_len, e1]
      exact ⟨hn1.out.trans e1, e1, hn2.out.trans e2, e2⟩)
    obtain ⟨m2, hm2⟩ : ∃ m2, Hid (m2 = max hh ha) := ⟨_, chid rfl⟩
    go_wp2_with fail
    refine Calls.mono (ethen_b C1 A hh ha 0 _ _ w1 HG.out.pc (HQ.out.2.1.next HG.out.bl) (by have := HN1.out; omega) (by omega) HJ.out.1 C2 hC2.out n2 hn2.out m2 (by have := hm2.out; omega)) ?_
    rintro e u3 ⟨a3, c3, rfl, b3, p3⟩
    have Zz := HG.out.box.next b3
    have z0 := Zz.cell 0 _ rfl
    have z1 := Zz.cell 1 _ rfl
    have zf0 := Zz.free 0 (by simp)
    have zf1 := Zz.free 1 (by simp)
    have zl := Zz.lt
    have HG2 := chid (HG.out.more (h2 := m2) b3 p3)
    clear Zz y0 y1 yl d0 d1 dl b3 p3
    go_wp2_with fail
    generalize hV : ((u3.setCell _ _).setCell _ _) = V at *
    clear hV z0 z1 zf0 zf1 zl
    have y0 := (HY.out.2.2.1.next HG2.out.bl).cell 0 _ rfl
    have y1 := (HY.out.2.2.1.next HG2.out.bl).cell 1 _ rfl
    have yl := (HY.out.2.2.1.next HG2.out.bl).lt
    have d0 := HG2.out.box.cell 0 _ rfl
    have d1 := HG2.out.box.cell 1 _ rfl
    have dl := HG2.out.box.lt
    obtain ⟨C3, hC3⟩ : ∃ C3, Hid (C3 = cat C2 [(over, ((1 + B.length : Nat) : Int))]) := ⟨_, chid rfl⟩
    obtain ⟨n3, hn3⟩ : ∃ n3, Hid (n3 = C3.length) := ⟨_, chid rfl⟩
    have HN3 : Hid (n3 = H.length + 2 + A.length ∧ C3.length = H.length + 2 + A.length) := chid (by
      have e2 := HN1.out.2.2.2
      have e1 : C3.length = H.length + 2 + A.length := by rw [hC3.out, cat_len, e2]; simp only [List.length_singleton]; omega
      exact ⟨hn3.out.trans e1, e1⟩)
    have hw2 : IntKind.i64.wrap (1 + (B.length : Int)) = 1 + (B.length : Int) := by rw [IntKind.wrap_i64]; omega
    have HSk : Hid (∀ W', Below V.heap.size V W' → (fun w' => w'.cell? ⟨(w.heap.size + 1 + 1), 0, none⟩ = some (.slice ab B.length cb) ∧ (w.heap.size + 1 + 1) < w'.heap.size) W') := chid (fun W' hW' => ⟨(hW'.cell (p := ⟨(w.heap.size + 1 + 1), 0, none⟩) yl).trans y0, Nat.lt_of_lt_of_le yl hW'.size⟩)
    have HT3 := chid (fun (X : World) (v : Value) (hX : Below V.heap.size V X) (hv : PcQ X [(over, (1 + (B.length : Int)))] v) => ethen_s C2 [(over, (1 + (B.length : Int)))] m2 0 0 (.slice a3 n2 c3) v X (HG2.out.pc.next hX) hv (by have := HN1.out; simp only [List.length_singleton]; omega) (by have := hm2.out; omega) (JB.one (fun _ => by omega)) C3 (by rw [hC3.out]; rfl) n3 hn3.out m2 (by omega))
    clear y0 y1 d0 d1 dl
    apply viaQ2 (fun a1 c1 a2 c2 w' => OutAt W C3 n3 m2 dd a2 c2 w')
    case hreg =>
      have KD : Hid (Below V.heap.size V V.drew) := chid (Below.refl _ _).drew
      refine wp_region_held_drew (S := (fun w' => w'.cell? ⟨(w.heap.size + 1 + 1), 0, none⟩ = some (.slice ab B.length cb) ∧ (w.heap.size + 1 + 1) < w'.heap.size)) (by kernel_rfl) (HSk.out _ (Below.refl _ _).drew) (fun hS0 => ?_)
      refine wpAnyH_take (i := 1) (v := .int .i64 over) rfl (by kernel_rfl) (by kernel_rfl) (by kernel_rfl) (fun _ _ _ h => h) (Or.inl ⟨rfl, fun w' hS' => ?_⟩) hS0 ?_
      · obtain ⟨q0, q1⟩ := hS'
        go_simp
      refine wpAnyH_take (i := 2) (v := .pointer (some ⟨(w.heap.size + 1 + 1), 0, none⟩)) rfl (by kernel_rfl) (by kernel_rfl) (by kernel_rfl) (fun _ _ _ h => h) (Or.inl ⟨rfl, fun w' hS' => ?_⟩) hS0 ?_
      · obtain ⟨q0, q1⟩ := hS'
        go_simp
      refine wpAnyH_take (i := 3) (v := .slice ab B.length cb) rfl (by kernel_rfl) (by kernel_rfl) (by kernel_rfl) (fun _ _ _ h => h) (Or.inl ⟨rfl, fun w' hS' => ?_⟩) hS0 ?_
      · obtain ⟨q0, q1⟩ := hS'
        go_simp
      refine wpAnyH_take (i := 4) (v := .int .i64 (B.length : Nat)) rfl (by kernel_rfl) (by kernel_rfl) (by kernel_rfl) (fun _ _ _ h => h) (Or.inl ⟨rfl, fun w' hS' => ?_⟩) hS0 ?_
      · obtain ⟨q0, q1⟩ := hS'
        go_simp
      refine wpAnyH_take (i := 5) (v := .int .i64 (1 + (B.length : Int))) rfl (by kernel_rfl) (by kernel_rfl) (by kernel_rfl) (fun _ _ _ h => h) (Or.inl ⟨rfl, fun w' hS' => ?_⟩) hS0 ?_
      · obtain ⟨q0, q1⟩ := hS'
        go_simp
      refine wpAnyH_take (i := 7) (v := .int .i64 0) rfl (by kernel_rfl) (by kernel_rfl) (by kernel_rfl) (fun _ _ _ h => h) (Or.inl ⟨rfl, fun w' hS' => ?_⟩) hS0 ?_
      · obtain ⟨q0, q1⟩ := hS'
        go_simp
      refine wpAnyH_ready (rs := [0, 6]) (by kernel_rfl) (by simp) (AllReadyH.cons (i := 0) rfl (fun K hK => ?_) (AllReadyH.cons (i := 6) rfl (fun K hK => ?_) AllReadyH.nil))
      · skip
        have bo := HG2.out.box.next KD.out
        have d0 := bo.cell 0 _ rfl
        have d1 := bo.cell 1 _ rfl
        have dl := bo.lt
        clear bo
        rw [if_pos (show Region.wanted _ _ = true from rfl)]
        go_simp
        refine hK.out _ _ hS0 (fun _ => ?_)
        clear hK
        refine wpAnyH_ready (rs := [6]) (by kernel_rfl) (by simp) (AllReadyH.cons (i := 6) rfl (fun K hK => ?_) AllReadyH.nil)
        refine step_e rfl (eone_s over (1 + (B.length : Int)) 0 _) (by first | rfl | go_simp) ?_
        intro u w1 hu
        obtain ⟨a1, c1, rfl, b1, p1⟩ := hu
        have K1 := chid (cbelow_on (B := V.heap.size) (w := V) (a := V.drew) (Below.refl _ _).drew b1 (Nat.le_refl _))
        have P1 := chid (pc_read p1)
        have hS1 := HSk.out _ K1.out
        clear b1 p1
        refine hK.out _ _ hS1 (fun _ => ?_)
        clear hK
        refine wpAnyH_ready (rs := [8]) (by kernel_rfl) (by simp) (AllReadyH.cons (i := 8) rfl (fun K hK => ?_) AllReadyH.nil)
        refine step_e rfl (HT3.out _ _ K1.out P1.out) (by first | rfl | go_simp) ?_
        intro u w2 hu
        obtain ⟨a2, c2, rfl, b2, p2⟩ := hu
        have K2 := chid (cbelow_on K1.out b2 K1.out.size)
        have hS2 := HSk.out _ K2.out
        have bo := HG2.out.box.next K2.out
        have z0 := bo.cell 0 _ rfl
        have z1 := bo.cell 1 _ rfl
        have zf0 := bo.free 0 (by simp)
        have zf1 := bo.free 1 (by simp)
        have zl := bo.lt
        have HF := chid (HG2.out.more2 (h2 := m2) K1.out b2 p2)
        have hS3 : Hid ((fun w' => w'.cell? ⟨(w.heap.size + 1 + 1), 0, none⟩ = some (.slice ab B.length cb) ∧ (w.heap.size + 1 + 1) < w'.heap.size) ((w2.setCell ⟨dd, 0, none⟩ (.slice a2 n3 c2)).setCell ⟨dd, 1, none⟩ (.int .i64 (m2 : Nat)))) := chid ⟨by rw [cell2_far (by have h7 := HG2.out.lo; have h8 := HY.out.2.2.1.lt; omega)]; exact hS2.1, by simpa using hS2.2⟩
        clear bo b2 p2
        refine hK.out _ _ hS2 (fun _ => ?_)
        clear hK
        refine wpAnyH_ready (rs := [9]) (by kernel_rfl) (by simp) (AllReadyH.cons (i := 9) rfl (fun K hK => ?_) AllReadyH.nil)
        rw [if_pos (show Region.wanted _ _ = true from rfl)]
        go_simp
        refine hK.out _ _ hS3.out (fun _ => ?_)
        clear hK
        refine wpAnyH_done (by kernel_rfl) ?_ _
        exact ⟨a1, c1, a2, c2, rfl, HF.out⟩
      · skip
        refine step_e rfl (eone_s over (1 + (B.length : Int)) 0 _) (by first | rfl | go_simp) ?_
        intro u w1 hu
        obtain ⟨a1, c1, rfl, b1, p1⟩ := hu
        have K1 := chid (cbelow_on (B := V.heap.size) (w := V) (a := V.drew) (Below.refl _ _).drew b1 (Nat.le_refl _))
        have P1 := chid (pc_read p1)
        have hS1 := HSk.out _ K1.out
        clear b1 p1
        refine hK.out _ _ hS1 (fun _ => ?_)
        clear hK
        refine wpAnyH_ready (rs := [0]) (by kernel_rfl) (by simp) (AllReadyH.cons (i := 0) rfl (fun K hK => ?_) AllReadyH.nil)
        have bo := HG2.out.box.next K1.out
        have d0 := bo.cell 0 _ rfl
        have d1 := bo.cell 1 _ rfl
        have dl := bo.lt
        clear bo
        rw [if_pos (show Region.wanted _ _ = true from rfl)]
        go_simp
        refine hK.out _ _ hS1 (fun _ => ?_)
        clear hK
        refine wpAnyH_ready (rs := [8]) (by kernel_rfl) (by simp) (AllReadyH.cons (i := 8) rfl (fun K hK => ?_) AllReadyH.nil)
        refine step_e rfl (HT3.out _ _ K1.out P1.out) (by first | rfl | go_simp) ?_
        intro u w2 hu
        obtain ⟨a2, c2, rfl, b2, p2⟩ := hu
        have K2 := chid (cbelow_on K1.out b2 K1.out.size)
        have hS2 := HSk.out _ K2.out
        have bo := HG2.out.box.next K2.out
        have z0 := bo.cell 0 _ rfl
        have z1 := bo.cell 1 _ rfl
        have zf0 := bo.free 0 (by simp)
        have zf1 := bo.free 1 (by simp)
        have zl := bo.lt
        have HF := chid (HG2.out.more2 (h2 := m2) K1.out b2 p2)
        have hS3 : Hid ((fun w' => w'.cell? ⟨(w.heap.size + 1 + 1), 0, none⟩ = some (.slice ab B.length cb) ∧ (w.heap.size + 1 + 1) < w'.heap.size) ((w2.setCell ⟨dd, 0, none⟩ (.slice a2 n3 c2)).setCell ⟨dd, 1, none⟩ (.int .i64 (m2 : Nat)))) := chid ⟨by rw [cell2_far (by have h7 := HG2.out.lo; have h8 := HY.out.2.2.1.lt; omega)]; exact hS2.1, by simpa using hS2.2⟩
        clear bo b2 p2
        refine hK.out _ _ hS2 (fun _ => ?_)
        clear hK
        refine wpAnyH_ready (rs := [9]) (by kernel_rfl) (by simp) (AllReadyH.cons (i := 9) rfl (fun K hK => ?_) AllReadyH.nil)
        rw [if_pos (show Region.wanted _ _ = true from rfl)]
        go_simp
        refine hK.out _ _ hS3.out (fun _ => ?_)
        clear hK
        refine wpAnyH_done (by kernel_rfl) ?_ _
        exact ⟨a1, c1, a2, c2, rfl, HF.out⟩
    case hrest =>
      intro a4 c4 a5 c5 w4 hG
      have HG4 := chid hG
      have y0 := (HY.out.2.2.1.next hG.bl).cell 0 _ rfl
      have y1 := (HY.out.2.2.1.next hG.bl).cell 1 _ rfl
      have yl := (HY.out.2.2.1.next hG.bl).lt
      have d0 := hG.box.cell 0 _ rfl
      have d1 := hG.box.cell 1 _ rfl
      have dl := hG.box.lt
      clear hG hw2 HSk HT3
      obtain ⟨L6, hL6⟩ : ∃ L6, Hid (L6 = (frkL H A B op over).length) := ⟨_, chid rfl⟩
      go_wp2_with fail
      refine Calls.mono (ethen_b C3 B m2 hb 0 _ _ w4 HG4.out.pc (HQ.out.2.2.next HG4.out.bl) (by have := HN3.out; omega) (by have := hm2.out; omega) HJ.out.2 (frkL H A B op over) (by rw [hC3.out, hC2.out, hC1.out]) L6 hL6.out h (by have := hm2.out; have := HM.out; omega)) ?_
      rintro e u6 ⟨a6, c6, rfl, b6, p6⟩
      have K6 := chid (cbelow_on HG4.out.bl b6 HG4.out.bl.size)
      have Zz := HY.out.2.2.2.1.next K6.out
      have z0 := Zz.cell 0 _ rfl
      have z1 := Zz.cell 1 _ rfl
      have zf0 := Zz.free 0 (by simp)
      have zf1 := Zz.free 1 (by simp)
      have zl := Zz.lt
      have HP6 := chid p6
      clear Zz y0 y1 yl d0 d1 dl b6 p6
      go_wp2_with fail
      refine bodyPost_ret (v := pcV (.slice a6 L6 c6) h) (by simp [results, Tryd.results23, go_sem, *]) rfl ?_
      have T := turn_tr (cturn_set u6 (w.heap.size + 1 + 1 + 1) 0 (.slice a6 L6 c6)) (cturn_set _ (w.heap.size + 1 + 1 + 1) 1 (.int .i64 (h : Nat)))
      have k7 := cbelow_on HY.out.2.2.2.2 K6.out HY.out.2.2.2.2.size
      have h8 := HG4.out.bl.size
      have h9 := HY.out.2.2.2.1.lt
      refine ⟨_, rfl, k7.trans (T.below (fun i hi => by rw [List.mem_singleton.1 hi]; omega) k7.size), ?_⟩
      have hp := HP6.out
      show World.ownsRow _ _ _ _ _ (frkL H A B op over).length _
      rw [← hL6.out]
      replace hp : u6.ownsRow w4.heap.size 49 2 (.slice a6 L6 c6) L6 (flI (frkL H A B op over)) := by rw [hL6.out] at hp ⊢; exact hp
      exact own_low _ (own_of_keep hp (fun b hb => T.block b (hp.lt b hb).2 (by have := (hp.lt b hb).1; simp; omega))) (by omega)

def ValD (t : Co) : Prop := ∀ (v : Value) (mb : Nat) (K : List Int) (vk : Value) (w : World), CSP (fun b => b < mb) w t v → Mkr w mb K vk → 8 * cnodes t ≤ 800000 → K.length + 2 * cnodes t ≤ 900000 → Calls Tryd.prog 11 #[.pointer (some ⟨mb, 0, none⟩), coV t v] w fun e w' => Mwent mb (mft mb vk) w (codF t K).2 (codF t K).1 (hgtF t) e w'
theorem epart_at {w w' : World} {mb b off : Nat} {P : List Co} (hx : ∀ i (h : i < P.length), ∃ u, Four w b (off + i * 4) P[i] u ∧ CSP (fun b => b < mb) w P[i] u) (hb : b < w.heap.size) (k : Below w.heap.size w w') {i : Nat} {x : Co} (h : P[i]? = some x) :
    ∃ a c, CSP (fun b => b < mb) w' x (.slice a x.parts.length c) ∧ w'.cell? ⟨b, off + i * 4, none⟩ = some (.int .i64 x.op) ∧ w'.cell? ⟨b, off + i * 4 + 1, none⟩ = some (.int .i64 x.n) ∧ w'.cell? ⟨b, off + i * 4 + 2, none⟩ = some (.int .i64 x.m) ∧ w'.cell? ⟨b, off + i * 4 + 3, none⟩ = some (.slice a x.parts.length c) := by
  obtain ⟨hi, rfl⟩ := List.getElem?_eq_some_iff.1 h
  obtain ⟨u, f, s⟩ := hx i hi
  obtain ⟨a, c, rfl, -, -⟩ := s.parts.shape
  exact ⟨a, c, s.next k, (k.cell (p := ⟨b, _, none⟩) hb).trans f.c0, (k.cell (p := ⟨b, _, none⟩) hb).trans f.c1, (k.cell (p := ⟨b, _, none⟩) hb).trans f.c2, (k.cell (p := ⟨b, _, none⟩) hb).trans f.c3⟩
structure Env (mb : Nat) (F : List Nat) (W : World) (L : List (Nat × List Value)) (PS : List (List Ins × Value)) (K : List Int) (vk : Value) (w' : World) : Prop where
  mw : Mw mb F W K vk w'
  fm : ∀ i, i ∈ F → mb ≤ i
  bx : ∀ p, p ∈ L → Box w' p.1 p.2 ∧ p.1 ∉ mft mb vk
  pc : ∀ q, q ∈ PS → PcR (mb + 1) w' q.1 q.2
  ne : ∀ p, p ∈ L → ∀ q, q ∈ PS → q.2.ownBlock ≠ some p.1
section
variable {mb : Nat} {F : List Nat} {W : World} {L : List (Nat × List Value)} {PS : List (List Ins × Value)} {K : List Int} {vk : Value} {w' : World}
theorem Env.next {u : World} (h : Env mb F W L PS K vk w') (k : Below w'.heap.size w' u) : Env mb F W L PS K vk u :=
  ⟨h.mw.next k, h.fm, fun p hp => ⟨(h.bx p hp).1.next k, (h.bx p hp).2⟩, fun q hq => pc_next (h.pc q hq) k, h.ne⟩
theorem Env.turned {K2 : List Int} {v2 : Value} {u : World} (h : Env mb F W L PS K vk w') (g : Mw mb (mft mb vk) w' K2 v2 u) : Env mb F W L PS K2 v2 u := by
  refine ⟨h.mw.step g, h.fm, fun p hp => ?_, fun q hq => pc_turn (h.pc q hq) h.mw.mkr (Nat.lt_succ_self _) g.turn, h.ne⟩
  obtain ⟨h1, h2⟩ := h.bx p hp
  refine ⟨h1.turn g.turn h2, fun hm => ?_⟩
  rcases g.foot _ hm with h3 | h3
  · exact h2 h3
  · have := h1.lt; omega
theorem Env.piece {lo : Nat} {C : List Ins} {v : Value} (h : Env mb F W L PS K vk w') (hp : PcR lo w' C v) (hm : mb < lo) (hl : ∀ p, p ∈ L → p.1 < lo) : Env mb F W L ((C, v) :: PS) K vk w' := by
  refine ⟨h.mw, h.fm, h.bx, fun q hq => ?_, fun p hp' q hq => ?_⟩
  · rcases List.mem_cons.1 hq with rfl | hq
    · exact pc_low hp hm
    · exact h.pc q hq
  · rcases List.mem_cons.1 hq with rfl | hq
    · intro e
      have := (hp.lt _ e).1
      have := hl p hp'
      omega
    · exact h.ne p hp' q hq
theorem Env.lts (h : Env mb F W L PS K vk w') : ∀ p, p ∈ L → p.1 < w'.heap.size := fun p hp => (h.bx p hp).1.lt
theorem Env.call {K2 : List Int} {C : List Ins} {hh : Nat} {e : Ending} {u : World} (h : Env mb F W L PS K vk w') (g : Mwent mb (mft mb vk) w' K2 C hh e u) : ∃ v2 a c, e = .returned (.agg #[.slice a C.length c, .int .i64 (hh : Nat)]) ∧ Env mb F W L ((C, .slice a C.length c) :: PS) K2 v2 u := by
  obtain ⟨v2, v, rfl, q, p⟩ := g
  obtain ⟨a, c, rfl⟩ := own_shape p
  exact ⟨v2, a, c, rfl, (h.turned q).piece p h.mw.mkr.box.lt h.lts⟩
theorem Env.callN {K2 : List Int} {C : List Ins} {hh : Nat} {e : Ending} {u : World} (h : Env mb F W L PS K vk w') (g : Mwent mb (mft mb vk) w' K2 C hh e u) (n : Nat) (hn : n = C.length) : ∃ v2 a c, e = .returned (.agg #[.slice a n c, .int .i64 (hh : Nat)]) ∧ Env mb F W L ((C, .slice a n c) :: PS) K2 v2 u := by
  subst hn
  exact h.call g
theorem Env.made {C : List Ins} {v : Value} {u : World} (h : Env mb F W L PS K vk w') (k : Below w'.heap.size w' u) (p : PcR w'.heap.size u C v) : Env mb F W L ((C, v) :: PS) K vk u :=
  (h.next k).piece p h.mw.mkr.box.lt h.lts
theorem Env.alloc {l : List Value} {t : TypeId} (h : Env mb F W L PS K vk w') : Env mb F W ((w'.heap.size, l) :: L) PS K vk (w'.alloc (.cells l.toArray t)) := by
  have h1 := h.next ((Below.refl _ _).alloc (Nat.le_refl _) (.cells l.toArray t))
  refine ⟨h1.mw, h1.fm, fun p hp => ?_, h1.pc, fun p hp q hq => ?_⟩
  · rcases List.mem_cons.1 hp with rfl | hp
    · exact ⟨Box.new w' l t, fun hm => by have := (h.mw.mkr.ge _ hm).2; omega⟩
    · exact h1.bx p hp
  · rcases List.mem_cons.1 hp with rfl | hp
    · intro e
      have := ((h.pc q hq).lt _ e).2
      omega
    · exact h1.ne p hp q hq
theorem Env.cell (h : Env mb F W L PS K vk w') {b j : Nat} {x : Value} (hb : b < W.heap.size) (hm : b < mb) (hc : W.cell? ⟨b, j, none⟩ = some x) : w'.cell? ⟨b, j, none⟩ = some x :=
  (cturn_cell h.mw.turn hb (fun hh => by have := h.fm b hh; omega)).trans hc
theorem Env.core (h : Env mb F W L PS K vk w') {t : Co} {v : Value} (s : CSP (fun b => b < mb) W t v) : CSP (fun b => b < mb) w' t v := h.mw.core h.fm s
theorem Env.read (h : Env mb F W L PS K vk w') {C : List Ins} {v : Value} (hq : (C, v) ∈ PS) : PcQ w' C v := pc_read (h.pc _ hq)
theorem Env.put {d : Nat} {l l' : List Value} {u : World} (h : Env mb F W ((d, l) :: L) PS K vk w') (t : Turn [d] w' u) (hb : Box u d l') (hd : ∀ p, p ∈ L → p.1 ≠ d) (hw : W.heap.size ≤ d) : Env mb F W ((d, l') :: L) PS K vk u := by
  have hdm := (h.bx (d, l) (by simp)).2
  refine ⟨⟨h.mw.mkr.turn t (fun i hi hm => hdm (by rw [← List.mem_singleton.1 hm]; exact hi)), ⟨t.os.trans h.mw.turn.os, t.tape.trans h.mw.turn.tape, t.output.trans h.mw.turn.output, Nat.le_trans h.mw.turn.size t.size, fun k hk hn => (t.block k (Nat.lt_of_lt_of_le hk h.mw.turn.size) (by simp; omega)).trans (h.mw.turn.block k hk hn)⟩, h.mw.foot⟩, h.fm, fun p hp => ?_, fun q hq => ?_, fun p hp q hq => ?_⟩
  · rcases List.mem_cons.1 hp with rfl | hp
    · exact ⟨hb, hdm⟩
    · have h1 := h.bx p (List.mem_cons_of_mem _ hp)
      exact ⟨h1.1.turn t (by simp; exact hd p hp), h1.2⟩
  · exact own_of_keep (h.pc q hq) (fun b hb' => t.block b ((h.pc q hq).lt b hb').2 (fun hm => h.ne (d, l) (by simp) q hq (by rw [hb', List.mem_singleton.1 hm])))
  · rcases List.mem_cons.1 hp with rfl | hp
    · exact h.ne (d, l) (by simp) q hq
    · exact h.ne p (List.mem_cons_of_mem _ hp) q hq
theorem Env.put2 {d : Nat} {a b x y : Value} (h : Env mb F W ((d, [a, b]) :: L) PS K vk w') (hd : ∀ p, p ∈ L → p.1 ≠ d) (hw : W.heap.size ≤ d) : Env mb F W ((d, [x, y]) :: L) PS K vk ((w'.setCell ⟨d, 0, none⟩ x).setCell ⟨d, 1, none⟩ y) :=
  h.put (turn_tr (cturn_set w' d 0 x) (cturn_set _ d 1 y)) (((h.bx (d, [a, b]) (by simp)).1.set 0 (by simp) x).set 1 (by simp) y) hd hw
end
theorem msize {mb : Nat} {F : List Nat} {w w' : World} {K : List Int} {C : List Ins} {hh : Nat} {e : Ending} (g : Mwent mb F w K C hh e w') : w.heap.size ≤ w'.heap.size := by
  obtain ⟨_, _, _, q, _⟩ := g
  exact q.turn.size
theorem jb_of {nl b : Nat} {K : List Int} {C : List Ins} (h : AllOk nl b K C) (hn : nl ≤ 1000000) (hb : b ≤ 1000000) : JB C := by
  intro x hx hj
  obtain ⟨i, hi, e⟩ := List.getElem_of_mem hx
  have h1 := h i x (by rw [List.getElem?_eq_getElem hi, e])
  by_cases h27 : x.1 = 27
  · obtain ⟨n, to, h2, h3, h4, h5, h6⟩ := h1.have_ h27
    omega
  · have : x.1 = 23 ∨ x.1 = 24 ∨ x.1 = 25 ∨ x.1 = 26 := by
      unfold jmpB at hj
      simp only [Bool.or_eq_true, beq_iff_eq] at hj
      omega
    obtain ⟨h2, h3⟩ := h1.jump this
    omega
theorem cod_jb {wn cn : Int} {nl : Nat} {t : Co} (h : csort ladF wn cn nl t ≠ 0) (hn : nl ≤ 1000000) (hc : 8 * cnodes t ≤ 800000) (K : List Int) : JB (codF t K).1 := by
  have hk := cod_ok t h
  have hl := (cod_lb t K).1
  have hr := csort_range wn cn nl t
  by_cases h3 : csort ladF wn cn nl t = 3
  · exact jb_of (hk.2 h3 K).2.1 hn (by omega)
  · exact jb_of (hk.1 (by omega) K).2 hn (by omega)
end Go.Proofs.YtigldebdljfnbaaDoor
