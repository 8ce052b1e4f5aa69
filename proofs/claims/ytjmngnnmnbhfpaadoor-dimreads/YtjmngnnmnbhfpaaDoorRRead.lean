/- The document's Read (package capstanref02): the walk. -/
import Derived.Test.YtjmngnnmnbhfpaaDoorRMath
import Derived.Deep.CutRange
namespace Go.Proofs.YtjmngnnmnbhfpaaDoor
open Go.RowKit

/-- What the document's Read finds in memory. -/
structure RS (B g9 : Nat) (p : P3) (d : D5) (pc : List Value) (w wr : World) : Prop where
  o : Box wr B [.int .i64 0, .int .i64 0, .int .i64 0, .int .i64 0, .int .i64 0, .int .i64 0, .int .i64 0]
  p : Box wr (B + 1) (pCells p)
  d : Box wr (B + 1 + 1) (dCells d)
  q : Box wr g9 pc
  bl : Below B w wr
  sz : B ≤ w.heap.size
  lt : B + 1 + 1 < g9
theorem RS.next {B g9 : Nat} {p : P3} {d : D5} {pc : List Value} {w wr w' : World} (h : RS B g9 p d pc w wr) (hb : Below wr.heap.size wr w') : RS B g9 p d pc w w' :=
  ⟨h.o.next hb, h.p.next hb, h.d.next hb, h.q.next hb, h.bl.trans (hb.mono (Nat.le_trans h.sz h.bl.size)), h.sz, h.lt⟩
theorem RS.put {B g9 g j : Nat} {p : P3} {d : D5} {pc : List Value} {w wr : World} {v : Value} (h : RS B g9 p d pc w wr) (hg : B + 1 + 1 < g) (hn : g9 ≠ g) : RS B g9 p d pc w (wr.setCell ⟨g, j, none⟩ v) :=
  ⟨h.o.other (by omega), h.p.other (by omega), h.d.other (by omega), h.q.other hn, h.bl.setCell (by simp; omega) _, h.sz, h.lt⟩
theorem rb1 {W w' : World} (hb : Below W.drew.heap.size W.drew w') : Below W.heap.size W w' := (Below.refl _ _).drew.trans hb
theorem rb2 {W w' : World} {o : Obj} (hb : Below (W.alloc o).heap.size (W.alloc o) w') : Below W.heap.size W w' := ((Below.refl _ _).alloc (Nat.le_refl _) o).trans (hb.mono (by simp))
theorem rb3 {W w' : World} {o : Obj} (hb : Below (W.alloc o).drew.heap.size (W.alloc o).drew w') : Below W.heap.size W w' := rb2 (rb1 hb)
theorem drew_size (w : World) : w.drew.heap.size = w.heap.size := rfl
theorem alloc_size (w : World) (o : Obj) : (w.alloc o).heap.size = w.heap.size + 1 := by simp
theorem names_box {V wn : World} (h : wn = V.alloc (.cells rAll.toArray 53)) : Box wn V.heap.size rAll ∧ Below V.heap.size V wn := by
  subst h
  exact ⟨Box.new _ _ _, (Below.refl _ _).alloc (Nat.le_refl _) _⟩
theorem rRow_cells (k : Nat) (h : k < 18) (j : Nat) (hj : j < 5) {v : Value} (hv : (rCells (rRow k))[j]? = some v) {w : World} {g : Nat} (hb : Box w g rAll) : w.cell? ⟨g, k * 5 + j, none⟩ = some v := by
  have e := rAll_at k j h hj
  rw [hv, Nat.mul_comm] at e
  exact hb.cell _ _ e
theorem rRow_cell0 (k : Nat) (h : k < 18) {v : Value} (hv : (rCells (rRow k))[0]? = some v) {w : World} {g : Nat} (hb : Box w g rAll) : w.cell? ⟨g, k * 5, none⟩ = some v := rRow_cells k h 0 (by decide) hv hb
theorem readF_K (l : List UInt8) (k n : Nat) (und : Bool) (v : U5) (k0 c f : Nat) (h : facK l n = .ok (k0, c, f)) : readF l (k + 1) n und v = match timesS (if und then invS (unitOf k0) else unitOf k0) c v with
    | none => (unit0, n, 21)
    | some x => if f = l.length then (x, 0, 0) else if bt l f ≠ 42 ∧ bt l f ≠ 47 then (unit0, f, 20) else readF l k (f + 1) (bt l f == 47) x := by
  simp only [readF, facS_K, h, toFac]
  rfl
theorem readF_E (l : List UInt8) (k n : Nat) (und : Bool) (v : U5) (p : Nat) (h : facK l n = .error p) : readF l (k + 1) n und v = (unit0, p, 20) := by
  simp only [readF, facS_K, h, toFac]
theorem name_sign (k : Nat) (h : k < 18) (g : Int) (hg : g = 1 ∨ g = -1) : (if (g == -1) = true then invS (unitOf k) else unitOf k) = nameU k g := by
  rcases hg with rfl | rfl
  · exact nameU_one k h
  · exact nameU_inv k h
def mix (p q : P3) (g : Int) : Nat → P3
  | 0 => p
  | 1 => ⟨p.a + g * q.a, p.b, p.c⟩
  | 2 => ⟨p.a + g * q.a, p.b + g * q.b, p.c⟩
  | _ => p.add (q.scale g)
theorem mix_set (p q : P3) (g : Int) (i : Nat) (h : i < 3) : (pCells (mix p q g i)).set i (.int .i64 (p.at i + g * q.at i)) = pCells (mix p q g (i + 1)) := by
  rcases (show i = 0 ∨ i = 1 ∨ i = 2 by omega) with rfl | rfl | rfl <;> rfl
theorem mix_at (p q : P3) (g : Int) (i : Nat) (h : i < 3) : (pCells (mix p q g i))[i]? = some (.int .i64 (p.at i)) := by
  rcases (show i = 0 ∨ i = 1 ∨ i = 2 by omega) with rfl | rfl | rfl <;> rfl
theorem row_at (r : List UInt8 × P3 × Int) (i : Nat) (h : i < 3) : (rCells r)[1 + i]? = some (.int .i64 (r.2.1.at i)) := by
  rcases (show i = 0 ∨ i = 1 ∨ i = 2 by omega) with rfl | rfl | rfl <;> rfl

set_option maxHeartbeats 20000000 in
set_option maxRecDepth 100000 in
theorem rRead_short (s : ByteArray) (l : List UInt8) (hl : s.data.toList = l) (hz : s.size ≤ 64) (w : World) :
    Calls Tryd.prog 11 #[.string s] w fun e w' => e = .returned (readV (readF l (l.length + 1) 0 false unit1)) ∧ Below w.heap.size w w' := by
  have hs : l.length = s.size := by rw [← hl]; rfl
  have kz : ¬ (64 : Int) < (s.size : Int) := by omega
  generalize hR : readF l (l.length + 1) 0 false unit1 = R
  have HR : Hid _ := hR
  clear hR
  obtain ⟨ob, pb, db, l0⟩ := three_boxes w 26 47 24 [.int .i64 0, .int .i64 0, .int .i64 0, .int .i64 0, .int .i64 0, .int .i64 0, .int .i64 0] (pCells ⟨0, 0, 0⟩) (dCells dim0)
  go_enter Tryd.func11, Tryd.ntmps11
  go_wp2_with fail
  go_loopw [7, 8] (fun i sg wr => ∃ (n k : Nat) (g : Int) (p : P3) (d : D5), i = .int .i64 n ∧ sg = .int .i64 g ∧ (g = 1 ∨ g = -1) ∧ n ≤ s.size ∧ l.length < k + n ∧ p.Fine ∧ d.In ∧ readF l k n (g == -1) (mkU p d) = R ∧ Box wr w.heap.size [.int .i64 0, .int .i64 0, .int .i64 0, .int .i64 0, .int .i64 0, .int .i64 0, .int .i64 0] ∧ Box wr (w.heap.size + 1) (pCells p) ∧ Box wr (w.heap.size + 1 + 1) (dCells d) ∧ Below w.heap.size w wr) (fun i _ _ => s.size + 1 - (intOf i).toNat)
  case atStart => exact ⟨0, l.length + 1, 1, ⟨0, 0, 0⟩, dim0, rfl, rfl, .inl rfl, Nat.zero_le _, by omega, zero_fine, dim0_in, HR.out, ob, pb, db, l0⟩
  case round =>
    clear ob pb db l0 HR
    obtain ⟨n, k, g, p, d, rfl, rfl, hg, hn, hk, hp, hd, hR, ob, pb, db, bl⟩ := hrel
    obtain _ | k := k
    · omega
    have hpart := fun wx => part_any s l n hl hn hz wx
    cases hf : facK l n with
    | error p0 =>
      have e1 := readF_E l k n (g == -1) (mkU p d) p0 hf
      rw [hR] at e1
      have E1 : Hid _ := e1
      rw [hf] at hpart
      simp only [facKV] at hpart
      clear e1 hR hf
      go_wp2_with fail
      refine (hpart _).mono ?_
      rintro e w1 ⟨rfl, hb1⟩
      have l1 : Below w1.heap.size w1 (w1.alloc (.cells #[.int .i64 0, .int .i64 0, .int .i64 0, .int .i64 0] 49)) := (Below.refl _ _).alloc (Nat.le_refl _) _
      have ox := (ob.next hb1).next l1
      have bl2 := (bl.trans (hb1.mono bl.size)).trans (l1.mono (Nat.le_trans bl.size hb1.size))
      obtain ⟨o0, o1, o2, o3, o4, o5, o6, g0, g1, g2, g3, g4, g5, g6⟩ := ox.seven
      clear ob pb db hb1 l1 ox
      go_wp2_with fail
      refine bodyPost_ret (v := .tuple #[unitV unit0, .int .i64 p0, .int .i64 20]) (by simp [results, Tryd.results11, go_sem, unit0, dim0, o0, o1, o2, o3, o4, o5, o6]) rfl ⟨by rw [E1.out]; rfl, ?_⟩
      exact below_seven bl2 (Nat.le_refl _) _ _ _ _ _ _ _
    | ok t =>
      obtain ⟨k0, c, f⟩ := t
      have hk18 := facK_lt l n k0 c f hf
      obtain ⟨_, hc, hf0, hf1⟩ := facS_ok l n f c (unitOf k0) (by omega) (by rw [facS_K, hf]; rfl)
      have er := readF_K l k n (g == -1) (mkU p d) k0 c f hf
      rw [hR, name_sign k0 hk18 g hg] at er
      have ER : Hid _ := er
      rw [hf] at hpart
      simp only [facKV] at hpart
      clear er hR hf
      go_wp2_with fail
      refine (hpart _).mono ?_
      rintro e w1 ⟨rfl, hb1⟩
      have l1 : Below w1.heap.size w1 (w1.alloc (.cells #[.int .i64 k0, .int .i64 c, .int .i64 n, .int .i64 f] 49)) := (Below.refl _ _).alloc (Nat.le_refl _) _
      have szw := hb1.size
      have szd := db.lt
      have rs : RS w.heap.size w1.heap.size p d [.int .i64 k0, .int .i64 c, .int .i64 n, .int .i64 f] w (w1.alloc (.cells #[.int .i64 k0, .int .i64 c, .int .i64 n, .int .i64 f] 49)) :=
        ⟨(ob.next hb1).next l1, (pb.next hb1).next l1, (db.next hb1).next l1, Box.new w1 [.int .i64 k0, .int .i64 c, .int .i64 n, .int .i64 f] _, (bl.trans (hb1.mono bl.size)).trans (l1.mono (Nat.le_trans bl.size hb1.size)), Nat.le_refl _, by omega⟩
      clear ob pb db bl hb1 l1
      go_upto_region 10 with fail
      generalize w1.alloc (.cells #[.int .i64 k0, .int .i64 c, .int .i64 n, .int .i64 f] 49) = W2 at *
      have q0 := rs.q.cell 0 _ rfl
      have q9 := fun o => (rs.next ((Below.refl _ _).alloc (Nat.le_refl _) o)).q.cell 0 _ rfl
      have qz := rs.q.lt
      have k18 : (k0 : Int) < 18 := by omega
      have r0 : (rCells (rRow k0))[0]? = some (.string ⟨(rRow k0).1.toArray⟩) := rfl
      have r1 : (rCells (rRow k0))[1]? = some (.int .i64 (rRow k0).2.1.a) := rfl
      have r2 : (rCells (rRow k0))[2]? = some (.int .i64 (rRow k0).2.1.b) := rfl
      have r3 : (rCells (rRow k0))[3]? = some (.int .i64 (rRow k0).2.1.c) := rfl
      have r4 : (rCells (rRow k0))[4]? = some (.int .i64 (rRow k0).2.2) := rfl
      go_cut [12] from 19 to 128 (fun s12 wc => ∃ g12 : Nat, s12 = .pointer (some ⟨g12, 0, none⟩) ∧ Box wc g12 (rCells (rRow k0)) ∧ RS w.heap.size w1.heap.size p d [.int .i64 k0, .int .i64 c, .int .i64 n, .int .i64 f] w wc ∧ w.heap.size + 1 + 1 < g12 ∧ g12 ≠ w1.heap.size)
      case first =>
        go_region_with (first
          | (go_at_call 23; refine (Names_any _).mono ?_; rintro e wn ⟨rfl, hw⟩; obtain ⟨nb, hbn⟩ := names_box hw; clear hw; (try simp only [drew_size, alloc_size] at nb); (first | have rs := rs.next hbn | have rs := rs.next (rb1 hbn) | have rs := rs.next (rb2 hbn) | have rs := rs.next (rb3 hbn)); (first | have cb := (Box.new _ [.string ⟨#[]⟩, .int .i64 0, .int .i64 0, .int .i64 0, .int .i64 0] 53).next hbn | have cb := (Box.new _ [.string ⟨#[]⟩, .int .i64 0, .int .i64 0, .int .i64 0, .int .i64 0] 53).next (rb1 hbn) | skip); have q0 := rs.q.cell 0 _ rfl; have q9 := fun o => (rs.next ((Below.refl _ _).alloc (Nat.le_refl _) o)).q.cell 0 _ rfl; have n0 := rRow_cell0 k0 hk18 r0 nb; have y0 := fun o => rRow_cell0 k0 hk18 r0 (nb.next ((Below.refl _ _).alloc (Nat.le_refl _) o)); have n1 := rRow_cells k0 hk18 1 (by decide) r1 nb; have y1 := fun o => rRow_cells k0 hk18 1 (by decide) r1 (nb.next ((Below.refl _ _).alloc (Nat.le_refl _) o)); have n2 := rRow_cells k0 hk18 2 (by decide) r2 nb; have y2 := fun o => rRow_cells k0 hk18 2 (by decide) r2 (nb.next ((Below.refl _ _).alloc (Nat.le_refl _) o)); have n3 := rRow_cells k0 hk18 3 (by decide) r3 nb; have y3 := fun o => rRow_cells k0 hk18 3 (by decide) r3 (nb.next ((Below.refl _ _).alloc (Nat.le_refl _) o)); have n4 := rRow_cells k0 hk18 4 (by decide) r4 nb; have y4 := fun o => rRow_cells k0 hk18 4 (by decide) r4 (nb.next ((Below.refl _ _).alloc (Nat.le_refl _) o)); (try obtain ⟨c0, c1, c2, c3, c4, c5, c6, c7, c8, c9⟩ := cb.five)))
        all_goals
          go_wp2_with fail
          go_meet
          have y1 := rs.q.lt
          have y2 := rs.lt
          first
            | exact ⟨_, rfl, Box.new wn (rCells (rRow k0)) _, rs.next ((Below.refl _ _).alloc (Nat.le_refl _) _), by omega, by omega⟩
            | exact ⟨_, rfl, cb.put_five _ _ _ _ _, ((((rs.put (by omega) (by omega)).put (by omega) (by omega)).put (by omega) (by omega)).put (by omega) (by omega)).put (by omega) (by omega), by omega, by omega⟩
      case rest =>
        clear q0 q9 qz r0 r1 r2 r3 r4 rs
        obtain ⟨g12, rfl, nb, rs, hg12, hgn⟩ := hcut
        have hU : nameU k0 g = mkU ((rRow k0).2.1.scale g) (baseD (rRow k0).2.2 g) := rfl
        rw [hU] at ER
        have hsm := rRow_small k0 hk18
        clear hU
        generalize rRow k0 = row at *
        obtain ⟨nm, q, b⟩ := row
        simp only at ER hsm
        generalize hT : timesS (mkU (q.scale g) (baseD b g)) c (mkU p d) = T at ER
        have HT : Hid _ := hT
        clear hT
        go_wp2_with fail
        go_loopw [13] (fun t wr => ∃ (m : Nat) (p' : P3) (d' : D5), t = .int .i64 m ∧ m ≤ c ∧ p'.Fine ∧ d'.In ∧ timesS (mkU (q.scale g) (baseD b g)) (c - m) (mkU p' d') = T ∧ RS w.heap.size w1.heap.size p' d' [.int .i64 k0, .int .i64 c, .int .i64 n, .int .i64 f] w wr ∧ Box wr g12 (rCells (nm, q, b))) (fun t _ => c - (intOf t).toNat)
        case atStart => exact ⟨0, p, d, rfl, Nat.zero_le _, hp, hd, HT.out, rs, nb⟩
        case round =>
          clear rs nb HT
          obtain ⟨m, p', d', rfl, hm, hp', hd', hT', rs, nb⟩ := hrel
          have x1 := rs.q.cell 1 _ rfl
          have x3 := rs.q.cell 3 _ rfl
          have h60 := hp'.sixty
          by_cases hlt : m < c
          · have k1 : (m : Int) < (c : Int) := by omega
            have e1 : c - m = (c - (m + 1)) + 1 := by omega
            rw [e1] at hT'
            have HT : Hid _ := hT'
            clear hT' e1
            go_wp2_with fail
            go_loopw [14] (fun j wr => ∃ i : Nat, j = .int .i64 i ∧ i ≤ 3 ∧ RS w.heap.size w1.heap.size (mix p' q g i) d' [.int .i64 k0, .int .i64 c, .int .i64 n, .int .i64 f] w wr ∧ Box wr g12 (rCells (nm, q, b))) (fun j _ => 3 - (intOf j).toNat)
            case atStart => exact ⟨0, rfl, by decide, rs, nb⟩
            case round =>
              clear rs nb x1 x3
              obtain ⟨i, rfl, hi, rs, nb⟩ := hrel
              by_cases hi3 : i < 3
              · have a0 := rs.p.cell i _ (mix_at p' q g i hi3)
                have a1 := rs.p.free i (by simp; omega)
                have b0 := nb.cell (1 + i) _ (row_at (nm, q, b) i hi3)
                have hset := rs.p.set i (by simp; omega) (.int .i64 (p'.at i + g * q.at i))
                rw [mix_set p' q g i hi3] at hset
                have pz : -60 ≤ p'.at i ∧ p'.at i ≤ 60 := by unfold P3.at; split <;> omega
                have qz : -30 ≤ q.at i ∧ q.at i ≤ 30 := by unfold P3.at; split <;> omega
                have gz : -30 ≤ g * q.at i ∧ g * q.at i ≤ 30 := by rcases hg with rfl | rfl <;> omega
                have k2 : (i : Int) < 3 := by omega
                have HSET : Hid _ := hset
                simp only at b0
                clear hset
                generalize p'.at i = xx at *
                generalize q.at i = yy at *
                go_wp2_with fail
                go_region
                all_goals
                  go_wp2_with fail
                  go_roundw
                  case rel => exact ⟨i + 1, by go_num, by omega, RS.next (wr := wr.setCell ⟨w.heap.size + 1, i, none⟩ (.int .i64 (xx + g * yy))) ⟨rs.o.other (by omega), HSET.out, rs.d.other (by omega), rs.q.other (by have := rs.lt; omega), rs.bl.setCell (by simp) _, rs.sz, rs.lt⟩ (Below.refl _ _).drew, (nb.other (by omega)).next (Below.refl _ _).drew⟩
                  case measure => simp [intOf]; omega
              · obtain rfl : i = 3 := by omega
                have hp2 : mix p' q g 3 = p'.add (q.scale g) := rfl
                rw [hp2] at rs
                have hgq : ∀ y : Int, -30 ≤ y → y ≤ 30 → -30 ≤ g * y ∧ g * y ≤ 30 := fun y h1 h2 => by rcases hg with rfl | rfl <;> omega
                have ga := hgq q.a (by omega) (by omega)
                have gb := hgq q.b (by omega) (by omega)
                have gc := hgq q.c (by omega) (by omega)
                have hsmall : (p'.add (q.scale g)).Small := by unfold P3.add P3.scale; constructor <;> simp only <;> omega
                have hs1 := fun wx => side_any (p'.add (q.scale g)) 1 (.inl rfl) hsmall wx
                have hs2 := fun wx => side_any (p'.add (q.scale g)) (-1) (.inr rfl) hsmall wx
                rw [scale_one'] at hs1
                rw [scale_neg'] at hs2
                have SG1 : Hid _ := side_gt (p'.add (q.scale g))
                have SG2 : Hid _ := side_gt (p'.add (q.scale g)).neg
                generalize hP2 : p'.add (q.scale g) = p2 at *
                have HP2 : Hid _ := hP2
                clear hP2 hp2 ga gb gc hgq hsmall h60
                have z0 := rs.p.cell 0 _ rfl
                have z1 := rs.p.cell 1 _ rfl
                have z2 := rs.p.cell 2 _ rfl
                have zb := nb.cell 4 _ rfl
                simp only at zb
                by_cases hb0 : 0 ≤ b
                · obtain ⟨bn, rfl⟩ := Int.eq_ofNat_of_zero_le hb0
                  have hbn : bn < 5 := by omega
                  have kb1 : (bn : Int) < 5 := by omega
                  have dx0 := rs.d.cell bn _ (dCells_ex d' bn hbn)
                  have dx1 := rs.d.free bn (by simp; omega)
                  have hset := rs.d.set bn (by simp; omega) (.int .i64 (d'.ex2 bn + g))
                  rw [dCells_bump d' bn hbn g] at hset
                  have hin := In_ex hd' bn
                  have w0 : -9223372036854775808 ≤ d'.ex2 bn + g := by have := hin.1; rcases hg with rfl | rfl <;> omega
                  have w2 : d'.ex2 bn + g ≤ 9223372036854775807 := by have := hin.2; rcases hg with rfl | rfl <;> omega
                  have HDX : Hid ((dCells (d'.bump bn g))[bn]? = some (.int .i64 (d'.ex2 bn + g))) := by
                    have := dCells_ex (d'.bump bn g) bn hbn
                    rw [bump_ex d' bn hbn g] at this
                    exact this
                  have rs : RS w.heap.size w1.heap.size p2 (d'.bump bn g) [.int .i64 k0, .int .i64 c, .int .i64 n, .int .i64 f] w (wr.setCell ⟨w.heap.size + 1 + 1, bn, none⟩ (.int .i64 (d'.ex2 bn + g))) :=
                    ⟨rs.o.other (by omega), rs.p.other (by omega), hset, rs.q.other (by have := rs.lt; omega), rs.bl.setCell (by simp; omega) _, rs.sz, rs.lt⟩
                  have nb := nb.other (q := w.heap.size + 1 + 1) (j := bn) (v := .int .i64 (d'.ex2 bn + g)) (by omega)
                  clear hset hin
                  have z0 := rs.p.cell 0 _ rfl
                  have z1 := rs.p.cell 1 _ rfl
                  have z2 := rs.p.cell 2 _ rfl
                  have zb := nb.cell 4 _ rfl
                  have zd := rs.d.cell bn _ HDX.out
                  simp only at zb
                  by_cases hup : prN p2 ≤ 1000000000000000
                  · have s1 := SG1.out.2.1 hup
                    have u1 : ¬ (1000000000000000 : Int) < ((sideS p2 : Nat) : Int) := by omega
                    by_cases hdn : prN p2.neg ≤ 1000000000000000
                    · have s2 := SG2.out.2.1 hdn
                      have u2 : ¬ (1000000000000000 : Int) < ((sideS p2.neg : Nat) : Int) := by omega
                      have HF : Hid _ := P3.Fine.mk hup hdn
                      clear s1 s2 hup hdn
                      generalize sideS p2 = S1 at *
                      generalize sideS p2.neg = S2 at *
                      by_cases h8 : In8 (d'.ex2 bn + g)
                      · have hj := join_base d' hd' bn hbn g h8
                        have hpr := prod_yes p' (q.scale g) d' (baseD (bn : Int) g) _ hj (by rw [HP2.out]; exact HF.out.up) (by rw [HP2.out]; exact HF.out.dn)
                        have ht := times_some _ _ _ (c - (m + 1)) hpr
                        rw [HT.out, HP2.out] at ht
                        have HN : Hid _ := ht
                        have HI : Hid _ := bump_in hd' bn hbn g h8
                        have v1 : ¬ 8 < d'.ex2 bn + g := by have := h8.2; omega
                        have v2 : ¬ d'.ex2 bn + g < -8 := by have := h8.1; omega
                        clear hj hpr ht h8
                        go_wp2_with fail
                        refine (hs1 _).mono ?_
                        rintro e w5 ⟨rfl, hb_w5⟩
                        have rs := rs.next hb_w5
                        have nb := nb.next hb_w5
                        clear hb_w5 z0 z1 z2 zb
                        have z0 := rs.p.cell 0 _ rfl
                        have z1 := rs.p.cell 1 _ rfl
                        have z2 := rs.p.cell 2 _ rfl
                        have zb := nb.cell 4 _ rfl
                        have zd := rs.d.cell bn _ HDX.out
                        go_wp2_with fail
                        refine (hs2 _).mono ?_
                        rintro e w6 ⟨rfl, hb_w6⟩
                        have rs := rs.next hb_w6
                        have nb := nb.next hb_w6
                        clear hb_w6 z0 z1 z2 zb
                        have z0 := rs.p.cell 0 _ rfl
                        have z1 := rs.p.cell 1 _ rfl
                        have z2 := rs.p.cell 2 _ rfl
                        have zb := nb.cell 4 _ rfl
                        have zd := rs.d.cell bn _ HDX.out
                        go_wp2_with fail
                        go_roundw
                        case rel => exact ⟨m + 1, p2, d'.bump bn g, by go_num, by omega, HF.out, HI.out, HN.out.symm, rs, nb⟩
                        case measure => simp [intOf]; omega
                      · have hj := join_base_no d' bn hbn g h8
                        have ht := times_none _ _ (c - (m + 1)) (prod_dim p' (q.scale g) d' (baseD (bn : Int) g) hj)
                        rw [HT.out] at ht
                        have hRn : R = (unit0, n, 21) := by rw [ER.out, ht]
                        have RN : Hid _ := hRn
                        have h88 : 8 < d'.ex2 bn + g ∨ (¬ 8 < d'.ex2 bn + g ∧ d'.ex2 bn + g < -8) := by unfold In8 at h8; omega
                        clear hj ht h8 hRn ER HT
                        rcases h88 with h8 | ⟨h8, h9⟩
                        all_goals
                          go_wp2_with fail
                          refine (hs1 _).mono ?_
                          rintro e w5 ⟨rfl, hb_w5⟩
                          have rs := rs.next hb_w5
                          have nb := nb.next hb_w5
                          clear hb_w5 z0 z1 z2 zb
                          have z0 := rs.p.cell 0 _ rfl
                          have z1 := rs.p.cell 1 _ rfl
                          have z2 := rs.p.cell 2 _ rfl
                          have zb := nb.cell 4 _ rfl
                          have zd := rs.d.cell bn _ HDX.out
                          go_wp2_with fail
                          refine (hs2 _).mono ?_
                          rintro e w6 ⟨rfl, hb_w6⟩
                          have rs := rs.next hb_w6
                          have nb := nb.next hb_w6
                          clear hb_w6 z0 z1 z2 zb
                          have z0 := rs.p.cell 0 _ rfl
                          have z1 := rs.p.cell 1 _ rfl
                          have z2 := rs.p.cell 2 _ rfl
                          have zb := nb.cell 4 _ rfl
                          have zd := rs.d.cell bn _ HDX.out
                          obtain ⟨o0, o1, o2, o3, o4, o5, o6, g0, g1, g2, g3, g4, g5, g6⟩ := rs.o.seven
                          have bl := rs.bl
                          clear rs nb
                          go_wp2_with fail
                          refine bodyPost_ret (v := .tuple #[unitV unit0, .int .i64 n, .int .i64 21]) (by simp [results, Tryd.results11, go_sem, unit0, dim0, o0, o1, o2, o3, o4, o5, o6]) rfl ⟨by rw [RN.out]; rfl, ?_⟩
                          exact below_seven bl (Nat.le_refl _) _ _ _ _ _ _ _
                    · have ht := times_none _ _ (c - (m + 1)) (prod_dn p' (q.scale g) d' (baseD (bn : Int) g) (by rw [HP2.out]; exact hdn))
                      rw [HT.out] at ht
                      have hRn : R = (unit0, n, 21) := by rw [ER.out, ht]
                      have RN : Hid _ := hRn
                      have u2 : (1000000000000000 : Int) < ((sideS p2.neg : Nat) : Int) := by have := SG2.out.1.2 hdn; omega
                      clear s1 hup hdn ht hRn ER HT
                      generalize sideS p2 = S1 at *
                      generalize sideS p2.neg = S2 at *
                      go_wp2_with fail
                      refine (hs1 _).mono ?_
                      rintro e w5 ⟨rfl, hb_w5⟩
                      have rs := rs.next hb_w5
                      have nb := nb.next hb_w5
                      clear hb_w5 z0 z1 z2 zb
                      have z0 := rs.p.cell 0 _ rfl
                      have z1 := rs.p.cell 1 _ rfl
                      have z2 := rs.p.cell 2 _ rfl
                      have zb := nb.cell 4 _ rfl
                      go_wp2_with fail
                      refine (hs2 _).mono ?_
                      rintro e w6 ⟨rfl, hb_w6⟩
                      have rs := rs.next hb_w6
                      have nb := nb.next hb_w6
                      clear hb_w6 z0 z1 z2 zb
                      have z0 := rs.p.cell 0 _ rfl
                      have z1 := rs.p.cell 1 _ rfl
                      have z2 := rs.p.cell 2 _ rfl
                      have zb := nb.cell 4 _ rfl
                      obtain ⟨o0, o1, o2, o3, o4, o5, o6, g0, g1, g2, g3, g4, g5, g6⟩ := rs.o.seven
                      have bl := rs.bl
                      clear rs nb
                      go_wp2_with fail
                      refine bodyPost_ret (v := .tuple #[unitV unit0, .int .i64 n, .int .i64 21]) (by simp [results, Tryd.results11, go_sem, unit0, dim0, o0, o1, o2, o3, o4, o5, o6]) rfl ⟨by rw [RN.out]; rfl, ?_⟩
                      exact below_seven bl (Nat.le_refl _) _ _ _ _ _ _ _
                  · have ht := times_none _ _ (c - (m + 1)) (prod_up p' (q.scale g) d' (baseD (bn : Int) g) (by rw [HP2.out]; exact hup))
                    rw [HT.out] at ht
                    have hRn : R = (unit0, n, 21) := by rw [ER.out, ht]
                    have RN : Hid _ := hRn
                    have u1 : (1000000000000000 : Int) < ((sideS p2 : Nat) : Int) := by have := SG1.out.1.2 hup; omega
                    clear hup ht hRn ER HT
                    generalize sideS p2 = S1 at *
                    go_wp2_with fail
                    refine (hs1 _).mono ?_
                    rintro e w5 ⟨rfl, hb_w5⟩
                    have rs := rs.next hb_w5
                    have nb := nb.next hb_w5
                    clear hb_w5 z0 z1 z2 zb
                    have z0 := rs.p.cell 0 _ rfl
                    have z1 := rs.p.cell 1 _ rfl
                    have z2 := rs.p.cell 2 _ rfl
                    have zb := nb.cell 4 _ rfl
                    obtain ⟨o0, o1, o2, o3, o4, o5, o6, g0, g1, g2, g3, g4, g5, g6⟩ := rs.o.seven
                    have bl := rs.bl
                    clear rs nb
                    go_wp2_with fail
                    refine bodyPost_ret (v := .tuple #[unitV unit0, .int .i64 n, .int .i64 21]) (by simp [results, Tryd.results11, go_sem, unit0, dim0, o0, o1, o2, o3, o4, o5, o6]) rfl ⟨by rw [RN.out]; rfl, ?_⟩
                    exact below_seven bl (Nat.le_refl _) _ _ _ _ _ _ _
                · obtain rfl : b = -1 := by omega
                  by_cases hup : prN p2 ≤ 1000000000000000
                  · have s1 := SG1.out.2.1 hup
                    have u1 : ¬ (1000000000000000 : Int) < ((sideS p2 : Nat) : Int) := by omega
                    by_cases hdn : prN p2.neg ≤ 1000000000000000
                    · have s2 := SG2.out.2.1 hdn
                      have u2 : ¬ (1000000000000000 : Int) < ((sideS p2.neg : Nat) : Int) := by omega
                      have HF : Hid _ := P3.Fine.mk hup hdn
                      clear s1 s2 hup hdn
                      generalize sideS p2 = S1 at *
                      generalize sideS p2.neg = S2 at *
                      have hj := join_none_base d' hd' g
                      have hpr := prod_yes p' (q.scale g) d' (baseD (-1) g) _ hj (by rw [HP2.out]; exact HF.out.up) (by rw [HP2.out]; exact HF.out.dn)
                      have ht := times_some _ _ _ (c - (m + 1)) hpr
                      rw [HT.out, HP2.out] at ht
                      have HN : Hid _ := ht
                      clear hj hpr ht
                      go_wp2_with fail
                      refine (hs1 _).mono ?_
                      rintro e w5 ⟨rfl, hb_w5⟩
                      have rs := rs.next hb_w5
                      have nb := nb.next hb_w5
                      clear hb_w5 z0 z1 z2 zb
                      have z0 := rs.p.cell 0 _ rfl
                      have z1 := rs.p.cell 1 _ rfl
                      have z2 := rs.p.cell 2 _ rfl
                      have zb := nb.cell 4 _ rfl
                      go_wp2_with fail
                      refine (hs2 _).mono ?_
                      rintro e w6 ⟨rfl, hb_w6⟩
                      have rs := rs.next hb_w6
                      have nb := nb.next hb_w6
                      clear hb_w6 z0 z1 z2 zb
                      have z0 := rs.p.cell 0 _ rfl
                      have z1 := rs.p.cell 1 _ rfl
                      have z2 := rs.p.cell 2 _ rfl
                      have zb := nb.cell 4 _ rfl
                      go_wp2_with fail
                      go_roundw
                      case rel => exact ⟨m + 1, p2, d', by go_num, by omega, HF.out, hd', HN.out.symm, rs, nb⟩
                      case measure => simp [intOf]; omega
                    · have ht := times_none _ _ (c - (m + 1)) (prod_dn p' (q.scale g) d' (baseD (-1) g) (by rw [HP2.out]; exact hdn))
                      rw [HT.out] at ht
                      have hRn : R = (unit0, n, 21) := by rw [ER.out, ht]
                      have RN : Hid _ := hRn
                      have u2 : (1000000000000000 : Int) < ((sideS p2.neg : Nat) : Int) := by have := SG2.out.1.2 hdn; omega
                      clear s1 hup hdn ht hRn ER HT
                      generalize sideS p2 = S1 at *
                      generalize sideS p2.neg = S2 at *
                      go_wp2_with fail
                      refine (hs1 _).mono ?_
                      rintro e w5 ⟨rfl, hb_w5⟩
                      have rs := rs.next hb_w5
                      have nb := nb.next hb_w5
                      clear hb_w5 z0 z1 z2 zb
                      have z0 := rs.p.cell 0 _ rfl
                      have z1 := rs.p.cell 1 _ rfl
                      have z2 := rs.p.cell 2 _ rfl
                      have zb := nb.cell 4 _ rfl
                      go_wp2_with fail
                      refine (hs2 _).mono ?_
                      rintro e w6 ⟨rfl, hb_w6⟩
                      have rs := rs.next hb_w6
                      have nb := nb.next hb_w6
                      clear hb_w6 z0 z1 z2 zb
                      have z0 := rs.p.cell 0 _ rfl
                      have z1 := rs.p.cell 1 _ rfl
                      have z2 := rs.p.cell 2 _ rfl
                      have zb := nb.cell 4 _ rfl
                      obtain ⟨o0, o1, o2, o3, o4, o5, o6, g0, g1, g2, g3, g4, g5, g6⟩ := rs.o.seven
                      have bl := rs.bl
                      clear rs nb
                      go_wp2_with fail
                      refine bodyPost_ret (v := .tuple #[unitV unit0, .int .i64 n, .int .i64 21]) (by simp [results, Tryd.results11, go_sem, unit0, dim0, o0, o1, o2, o3, o4, o5, o6]) rfl ⟨by rw [RN.out]; rfl, ?_⟩
                      exact below_seven bl (Nat.le_refl _) _ _ _ _ _ _ _
                  · have ht := times_none _ _ (c - (m + 1)) (prod_up p' (q.scale g) d' (baseD (-1) g) (by rw [HP2.out]; exact hup))
                    rw [HT.out] at ht
                    have hRn : R = (unit0, n, 21) := by rw [ER.out, ht]
                    have RN : Hid _ := hRn
                    have u1 : (1000000000000000 : Int) < ((sideS p2 : Nat) : Int) := by have := SG1.out.1.2 hup; omega
                    clear hup ht hRn ER HT
                    generalize sideS p2 = S1 at *
                    go_wp2_with fail
                    refine (hs1 _).mono ?_
                    rintro e w5 ⟨rfl, hb_w5⟩
                    have rs := rs.next hb_w5
                    have nb := nb.next hb_w5
                    clear hb_w5 z0 z1 z2 zb
                    have z0 := rs.p.cell 0 _ rfl
                    have z1 := rs.p.cell 1 _ rfl
                    have z2 := rs.p.cell 2 _ rfl
                    have zb := nb.cell 4 _ rfl
                    obtain ⟨o0, o1, o2, o3, o4, o5, o6, g0, g1, g2, g3, g4, g5, g6⟩ := rs.o.seven
                    have bl := rs.bl
                    clear rs nb
                    go_wp2_with fail
                    refine bodyPost_ret (v := .tuple #[unitV unit0, .int .i64 n, .int .i64 21]) (by simp [results, Tryd.results11, go_sem, unit0, dim0, o0, o1, o2, o3, o4, o5, o6]) rfl ⟨by rw [RN.out]; rfl, ?_⟩
                    exact below_seven bl (Nat.le_refl _) _ _ _ _ _ _ _
          · obtain rfl : m = c := by omega
            rw [Nat.sub_self] at hT'
            simp only [timesS] at hT'
            rw [← hT'] at ER
            have er : R = if f = l.length then (mkU p' d', 0, 0) else if bt l f ≠ 42 ∧ bt l f ≠ 47 then (unit0, f, 20) else readF l k (f + 1) (bt l f == 47) (mkU p' d') := ER.out
            clear ER hT'
            have hsmall : p'.Small := by constructor <;> omega
            have hs1 := fun wx => side_any p' 1 (.inl rfl) hsmall wx
            have hs2 := fun wx => side_any p' (-1) (.inr rfl) hsmall wx
            rw [scale_one', (side_gt p').2.1 hp'.up] at hs1
            rw [scale_neg', (side_gt p'.neg).2.1 hp'.dn] at hs2
            have x3 := rs.q.cell 3 _ rfl
            clear hsmall h60
            by_cases hL : f = l.length
            · rw [if_pos hL] at er
              have E1 : Hid _ := er
              have k1 : ((f : Int) == (s.size : Int)) = true := by rw [beq_iff_eq]; omega
              clear er hL
              have HMK : Hid (mkU p' d' = ⟨(prN p' : Nat), (prN p'.neg : Nat), d'⟩) := rfl
              generalize prN p' = n1 at *
              generalize prN p'.neg = n2 at *
              have z0 := rs.p.cell 0 _ rfl; have z1 := rs.p.cell 1 _ rfl; have z2 := rs.p.cell 2 _ rfl; obtain ⟨e0, e1, e2, e3, e4⟩ := rs.d.cells5; obtain ⟨o0, o1, o2, o3, o4, o5, o6, g0, g1, g2, g3, g4, g5, g6⟩ := rs.o.seven
              go_wp2_with fail
              go_region_with (first
                | (go_at_call 24; first | ((with_reducible refine (hs1 _).mono ?_); rintro e wA ⟨rfl, hbwA⟩; (first | have rs := rs.next hbwA | have rs := rs.next (rb1 hbwA)); clear hbwA; have z0 := rs.p.cell 0 _ rfl; have z1 := rs.p.cell 1 _ rfl; have z2 := rs.p.cell 2 _ rfl; obtain ⟨e0, e1, e2, e3, e4⟩ := rs.d.cells5; obtain ⟨o0, o1, o2, o3, o4, o5, o6, g0, g1, g2, g3, g4, g5, g6⟩ := rs.o.seven) | ((with_reducible refine (hs2 _).mono ?_); rintro e wB ⟨rfl, hbwB⟩; (first | have rs := rs.next hbwB | have rs := rs.next (rb1 hbwB)); clear hbwB; have z0 := rs.p.cell 0 _ rfl; have z1 := rs.p.cell 1 _ rfl; have z2 := rs.p.cell 2 _ rfl; obtain ⟨e0, e1, e2, e3, e4⟩ := rs.d.cells5; obtain ⟨o0, o1, o2, o3, o4, o5, o6, g0, g1, g2, g3, g4, g5, g6⟩ := rs.o.seven)))
              all_goals
                have bl := rs.bl
                go_wp2_with fail
                refine bodyPost_ret (v := .tuple #[.agg #[.int .i64 (n1 : Nat), .int .i64 (n2 : Nat), .int .i64 d'.a, .int .i64 d'.b, .int .i64 d'.c, .int .i64 d'.d, .int .i64 d'.e], .int .i64 0, .int .i64 0]) (by simp [results, Tryd.results11, go_sem, o0, o1, o2, o3, o4, o5, o6]) rfl ⟨by rw [E1.out, HMK.out]; rfl, ?_⟩
                exact below_seven bl (Nat.le_refl _) _ _ _ _ _ _ _
            · rw [if_neg hL] at er
              have k1 : ((f : Int) == (s.size : Int)) = false := beq_eq_false_iff_ne.2 (by omega)
              have k2 : (f : Int) < (s.size : Int) := by omega
              have k3 : f < s.size := by omega
              have hg := bt_get s f k3
              rw [hl] at hg
              clear hs1 hs2
              by_cases h42 : bt l f = 42
              · rw [if_neg (by omega)] at er
                have e2 : (bt l f == 47) = false := beq_eq_false_iff_ne.2 (by omega)
                rw [e2] at er
                have E1 : Hid _ := er
                rw [h42] at hg
                clear er hL h42 e2
                go_wp2_with fail
                go_roundw
                case rel => exact ⟨f + 1, k, 1, p', d', by go_num, rfl, .inl rfl, by omega, by omega, hp', hd', E1.out.symm, rs.o, rs.p, rs.d, rs.bl⟩
                case measure => simp [intOf]; omega
              · by_cases h47 : bt l f = 47
                · rw [if_neg (by omega)] at er
                  have e2 : (bt l f == 47) = true := by rw [beq_iff_eq]; exact h47
                  rw [e2] at er
                  have E1 : Hid _ := er
                  rw [h47] at hg
                  clear er hL h42 e2 h47
                  go_wp2_with fail
                  go_roundw
                  case rel => exact ⟨f + 1, k, -1, p', d', by go_num, rfl, .inr rfl, by omega, by omega, hp', hd', E1.out.symm, rs.o, rs.p, rs.d, rs.bl⟩
                  case measure => simp [intOf]; omega
                · rw [if_pos ⟨h42, h47⟩] at er
                  have E1 : Hid _ := er
                  have e2 : (bt l f != 42) = true := bne_iff_ne.2 h42
                  have e3 : (bt l f != 47) = true := bne_iff_ne.2 h47
                  clear er hL
                  generalize bt l f = b0 at *
                  obtain ⟨o0, o1, o2, o3, o4, o5, o6, g0, g1, g2, g3, g4, g5, g6⟩ := rs.o.seven
                  have bl := rs.bl
                  have ne1 : ¬ w1.heap.size = w.heap.size := by have := rs.lt; omega
                  have ne2 : ¬ w.heap.size = w1.heap.size := by have := rs.lt; omega
                  go_wp2_with fail
                  go_region
                  all_goals
                    go_wp2_with fail
                    refine bodyPost_ret (v := .tuple #[unitV unit0, .int .i64 f, .int .i64 20]) (by simp [results, Tryd.results11, go_sem, unit0, dim0, o0, o1, o2, o3, o4, o5, o6]) rfl ⟨by rw [E1.out]; rfl, ?_⟩
                    exact (below_seven bl (Nat.le_refl _) _ _ _ _ _ _ _).drew
end Go.Proofs.YtjmngnnmnbhfpaaDoor
