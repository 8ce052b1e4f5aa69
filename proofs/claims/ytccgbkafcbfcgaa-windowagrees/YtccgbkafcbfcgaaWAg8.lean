/- The walk of WindowAgrees. -/
import Derived.Test.YtccgbkafcbfcgaaSixD
import Derived.Test.YtccgbkafcbfcgaaWnO
import Derived.Test.YtccgbkafcbfcgaaRgAl
import Derived.Deep.RegionHeld3
namespace Go.Proofs.Ytccgbkafcbfcgaa
open Go.RowKit

/-- The list of windows at g, which is no window's block. -/
structure ListAt (w : World) (g off : Nat) (bs : Nat → Nat) (Fs : Nat → List Nat) : Prop where
  cell : ∀ j, j < 6 → w.cell? ⟨g, off + j, none⟩ = some (.pointer (some ⟨bs j, 0, none⟩))
  lt : g < w.heap.size
  off : ∀ j, j < 6 → g ∉ Fs j
theorem ListAt.next {w w' : World} {g off : Nat} {bs : Nat → Nat} {Fs : Nat → List Nat} (h : ListAt w g off bs Fs) (t : Below w.heap.size w w') : ListAt w' g off bs Fs := ⟨fun j hj => (t.cell (p := ⟨g, off + j, none⟩) h.lt).trans (h.cell j hj), Nat.lt_of_lt_of_le h.lt t.size, h.off⟩
/-- Ahead of the sample number k: all six at one state, whose clock is t. -/
structure AgAt (B : Nat) (w0 : World) (g off : Nat) (bs : Nat → Nat) (sp : Int) (len k : Nat) (t : Int) (Fs : Nat → List Nat) (ck : Int) (on : Bool) (L : List Pr) (w : World) : Prop where
  le : k ≤ len
  six : Six B w 6 bs Fs sp 0 ck on L 0 []
  list : ListAt w g off bs Fs
  t0 : 0 ≤ t
  t1 : t ≤ 99 * (k : Int)
  clk : on = true → ck ≤ t
  mild : ∀ x, x ∈ L → -8796093022208 ≤ x.2 ∧ x.2 ≤ 8796093022208
  bel : Below B w0 w
/-- Within a sample: j windows have taken it. -/
structure AgIn (B : Nat) (w0 : World) (g off : Nat) (bs : Nat → Nat) (sp : Int) (t : Int) (ck : Int) (on : Bool) (L L' : List Pr) (j : Nat) (Fs : Nat → List Nat) (w : World) : Prop where
  le : j ≤ 6
  six : Six B w 6 bs Fs sp j ck on L t L'
  list : ListAt w g off bs Fs
  bel : Below B w0 w
theorem AgIn.step {B : Nat} {w0 w w' : World} {g off : Nat} {bs : Nat → Nat} {sp t ck : Int} {on : Bool} {L L' : List Pr} {j : Nat} {Fs : Nat → List Nat} (h : AgIn B w0 g off bs sp t ck on L L' j Fs w) (hj : j < 6) (gn : Gone w (bs j) (Fs j) ((j : Int) + 1) sp (perOf j) t L' w') : ∃ Fs', AgIn B w0 g off bs sp t ck on L L' (j + 1) Fs' w' := by
  obtain ⟨Fs', h1, h2, h3⟩ := h.six.step hj gn
  obtain ⟨c1, _, c3⟩ := h3 g h.list.lt h.list.off
  exact ⟨Fs', by omega, h1, ⟨fun i hi => (c1 _).trans (h.list.cell i hi), Nat.lt_of_lt_of_le h.list.lt h2.size, c3⟩, h.bel.trans h2⟩
theorem PAt.cells_same {w w' : World} {g off cap : Nat} {K : List Pr} (h : PAt w g off cap K) (hs : w.heap.size ≤ w'.heap.size) (c : ∀ o, w'.cell? ⟨g, o, none⟩ = w.cell? ⟨g, o, none⟩) (f : ∀ o, w'.frozen? ⟨g, o, none⟩ = w.frozen? ⟨g, o, none⟩) : PAt w' g off cap K :=
  ⟨Nat.lt_of_lt_of_le h.lt hs, fun i x hx => (c _).trans (h.num i x hx), fun i x hx => (c _).trans (h.ahd i x hx), fun i hi => by rw [c]; exact h.spare i hi, fun i hi => (f _).trans (h.free i hi), h.le, h.most⟩
/-- The results of the first n. -/
def ress (V : List Int) (n : Nat) : List Pr := (List.range n).map (sixRes V)
theorem ress_len (V : List Int) (n : Nat) : (ress V n).length = n := by simp [ress]
theorem ress_more (V : List Int) (n : Nat) : ress V n ++ [sixRes V n] = ress V (n + 1) := by simp [ress, List.range_succ]
/-- A block that is no window's, nor the windows' list. -/
def Free8 (B g : Nat) (Fs : Nat → List Nat) (i : Nat) : Prop := B ≤ i ∧ i ≠ g ∧ ∀ j, j < 6 → i ∉ Fs j
/-- n windows have answered. -/
structure ReadAt (B : Nat) (w0 : World) (g off : Nat) (bs : Nat → Nat) (sp t ck : Int) (on : Bool) (L M : List Pr) (n : Nat) (Fs : Nat → List Nat) (lvr : Value) (w : World) : Prop where
  le : n ≤ 6
  six : Six B w 6 bs Fs sp n ck on L t M
  list : ListAt w g off bs Fs
  ls : PLs w (Free8 B g Fs) lvr (ress (vals M) n)
  bel : Below B w0 w
/-- Behind a Read. -/
theorem read_first {B : Nat} {w0 w w1 : World} {g off : Nat} {bs : Nat → Nat} {sp t ck : Int} {on : Bool} {L M : List Pr} {n : Nat} {Fs : Nat → List Nat} {lvr : Value} (h : ReadAt B w0 g off bs sp t ck on L M n Fs lvr w) (hn : n < 6) (gn : Gone w (bs n) (Fs n) ((n : Int) + 1) sp (perOf n) t M w1) :
    ∃ Fs', Six B w1 6 bs Fs' sp (n + 1) ck on L t M ∧ ListAt w1 g off bs Fs' ∧ PLs w1 (Free8 B g Fs') lvr (ress (vals M) n) ∧ Below B w0 w1 := by
  obtain ⟨Fs', h1, h2, h3⟩ := h.six.step hn gn
  obtain ⟨c1, _, c3⟩ := h3 g h.list.lt h.list.off
  refine ⟨Fs', h1, ⟨fun i hi => (c1 _).trans (h.list.cell i hi), Nat.lt_of_lt_of_le h.list.lt h2.size, c3⟩, ?_, h.bel.trans h2⟩
  rcases h.ls with hl | ⟨gr, o, c, ⟨k1, k2, k3⟩, e, hp⟩
  · exact .inl hl
  · obtain ⟨d1, d2, d3⟩ := h3 gr hp.lt k3
    exact .inr ⟨gr, o, c, ⟨k1, k2, d3⟩, e, hp.cells_same h2.size d1 d2⟩
/-- Behind the append. -/
theorem read_second {B : Nat} {w0 w1 w2 w3 : World} {g off : Nat} {bs : Nat → Nat} {sp t ck : Int} {on : Bool} {L M : List Pr} {n : Nat} {Fs : Nat → List Nat} {lv' : Value} (hn : n < 6) (hsix : Six B w1 6 bs Fs sp (n + 1) ck on L t M) (hlist : ListAt w1 g off bs Fs) (hbel : Below B w0 w1) (hb2 : Below w1.heap.size w1 w2) (hg : PLsGrew w2 (Free8 B g Fs) lv' (ress (vals M) n ++ [sixRes (vals M) n]) w3) : ReadAt B w0 g off bs sp t ck on L M (n + 1) Fs lv' w3 := by
  obtain ⟨⟨g', o, c, ho, e, hp⟩, S, tt, hS⟩ := hg
  have h2 := hsix.next hb2
  have hl2 := hlist.next hb2
  have hst := h2.start
  refine ⟨by omega, h2.turn tt (fun j hj x hx hm => (hS x hm).2.2 j hj hx), ⟨fun j hj => (tt.cell (p := ⟨g, off + j, none⟩) hl2.lt (fun hm => (hS g hm).2.1 rfl)).trans (hl2.cell j hj), Nat.lt_of_lt_of_le hl2.lt tt.size, hl2.off⟩, ?_, (hbel.trans (hb2.mono hsix.start)).trans (tt.below (fun i hi => (hS i hi).1) hst)⟩
  rw [← ress_more]
  refine .inr ⟨g', o, c, ?_, e, hp⟩
  rcases ho with ho | ho
  · exact ho
  · exact ⟨by omega, by have := hl2.lt; omega, fun j hj hm => by have := h2.lt hj g' hm; omega⟩
/-- From the offset o on the block g holds cs. -/
def RowAt (g o : Nat) (cs : List Value) (w : World) : Prop := g < w.heap.size ∧ ∀ k v, cs[k]? = some v → w.cell? ⟨g, o + k, none⟩ = some v
theorem RowAt.turn {T : List Nat} {g o : Nat} {cs : List Value} {w w' : World} (h : RowAt g o cs w) (t : Turn T w w') (hg : g ∉ T) : RowAt g o cs w' := ⟨Nat.lt_of_lt_of_le h.1 t.size, fun k v hv => (t.cell (p := ⟨g, o + k, none⟩) h.1 hg).trans (h.2 k v hv)⟩
theorem RowAt.next {g o : Nat} {cs : List Value} {w w' : World} (h : RowAt g o cs w) (t : Below w.heap.size w w') : RowAt g o cs w' := h.turn (T := []) (Turn.of_below t) (by simp)
/-- Six results as cells. -/
def cells6 (y0 y1 y2 y3 y4 y5 : Pr) : List Value := [.int .i64 y0.1, .int .i64 y0.2, .int .i64 y1.1, .int .i64 y1.2, .int .i64 y2.1, .int .i64 y2.2, .int .i64 y3.1, .int .i64 y3.2, .int .i64 y4.1, .int .i64 y4.2, .int .i64 y5.1, .int .i64 y5.2]
theorem row_of_pls {w : World} {ok : Nat → Prop} {a : Option Addr} {c : Nat} {V : List Int} (h : PLs w ok (.slice a 6 c) (ress V 6)) : ∃ g o, a = some ⟨g, o, none⟩ ∧ ok g ∧ RowAt g o (cells6 (sixRes V 0) (sixRes V 1) (sixRes V 2) (sixRes V 3) (sixRes V 4) (sixRes V 5)) w := by
  rcases h with ⟨e, _⟩ | ⟨g, o, cap, hok, e, hp⟩
  · cases e
  · have e1 : ress V 6 = [sixRes V 0, sixRes V 1, sixRes V 2, sixRes V 3, sixRes V 4, sixRes V 5] := rfl
    have e2 : prs (ress V 6) = cells6 (sixRes V 0) (sixRes V 1) (sixRes V 2) (sixRes V 3) (sixRes V 4) (sixRes V 5) := by rw [e1]; rfl
    rw [ress_len] at e
    cases e
    exact ⟨_, _, rfl, hok, hp.lt, fun k v hv => hp.cells k v (by rw [e2]; exact hv)⟩
theorem row_cells {g o : Nat} {y0 y1 y2 y3 y4 y5 : Pr} {w : World} (h : RowAt g o (cells6 y0 y1 y2 y3 y4 y5) w) : w.cell? ⟨g, o, none⟩ = some (.int .i64 y0.1) ∧ w.cell? ⟨g, o + 1, none⟩ = some (.int .i64 y0.2) ∧ w.cell? ⟨g, o + 2, none⟩ = some (.int .i64 y1.1) ∧ w.cell? ⟨g, o + 2 + 1, none⟩ = some (.int .i64 y1.2) ∧ w.cell? ⟨g, o + 4, none⟩ = some (.int .i64 y2.1) ∧ w.cell? ⟨g, o + 4 + 1, none⟩ = some (.int .i64 y2.2) ∧ w.cell? ⟨g, o + 6, none⟩ = some (.int .i64 y3.1) ∧ w.cell? ⟨g, o + 6 + 1, none⟩ = some (.int .i64 y3.2) ∧ w.cell? ⟨g, o + 8, none⟩ = some (.int .i64 y4.1) ∧ w.cell? ⟨g, o + 8 + 1, none⟩ = some (.int .i64 y4.2) ∧ w.cell? ⟨g, o + 10, none⟩ = some (.int .i64 y5.1) ∧ w.cell? ⟨g, o + 10 + 1, none⟩ = some (.int .i64 y5.2) :=
  ⟨h.2 0 _ rfl, h.2 1 _ rfl, h.2 2 _ rfl, h.2 3 _ rfl, h.2 4 _ rfl, h.2 5 _ rfl, h.2 6 _ rfl, h.2 7 _ rfl, h.2 8 _ rfl, h.2 9 _ rfl, h.2 10 _ rfl, h.2 11 _ rfl⟩
theorem alloc_res (a : Act) (w : World) (o : Oper) (h : o.op = Op.alloc 49) : (execOp a.eval o).run Try.prog w = .ok (.value (.pointer (some ⟨w.heap.size, 0, none⟩))) (w.alloc (.cells [.int .i64 0, .int .i64 0].toArray 49)) := by
  simp only [execOp, h]
  kernel_rfl
theorem then_normal {K : Act → World → Prop} {Q : Exit → Act → World → Prop} {a : Act} {w : World} (h : K a w) : Exit.then K Q Exit.normal a w := h
/-- The time t isn't stale. -/
def Later8 (on : Bool) (ck t : Int) : Prop := on = true → ck ≤ t
theorem fresh_le8 (span t : Int) (X : List Pr) : (fresh span t X).length ≤ X.length := (List.dropWhile_sublist _).length_le
theorem tmod_bd8 (a n : Int) (hn : 0 < n) : -n < a.tmod n ∧ a.tmod n < n := by
  rcases Int.le_total 0 a with h | h
  · rw [Int.tmod_eq_emod_of_nonneg h]
    have h1 := Int.emod_nonneg a (by omega : n ≠ 0)
    have h2 := Int.emod_lt_of_pos a hn
    omega
  · have e : a.tmod n = -((-a).tmod n) := by rw [Int.neg_tmod, Int.neg_neg]
    rw [e, Int.tmod_eq_emod_of_nonneg (by omega)]
    have h1 := Int.emod_nonneg (-a) (by omega : n ≠ 0)
    have h2 := Int.emod_lt_of_pos (-a) hn
    omega
theorem tmod_nn8 (a n : Int) (ha : 0 ≤ a) (hn : 0 < n) : 0 ≤ a.tmod n := by
  rw [Int.tmod_eq_emod_of_nonneg ha]
  exact Int.emod_nonneg a (by omega)
set_option maxRecDepth 20000 in
set_option maxHeartbeats 16000000 in
theorem windowAgrees_walk (sv : Int) (ad : Option Addr) (len cap : Nat) (S : Nat → Pr) (lv : Int) (w : World) (hs : 0 ≤ sv ∧ sv ≤ 65535) (hO : IsSam w ad len S) (hl : len * 16 ≤ reachBytes) (hlv : 0 ≤ lv ∧ lv ≤ 65535) :
    Calls Try.prog 5 #[.int .u16 sv, .slice ad len cap, .int .u16 lv] w fun e w' => e = .returned (.bool true) ∧ Below w.heap.size w w' := by
  simp only [reachBytes] at hl
  have hlen : len < 8796093022208 * 2 := by omega
  have sb := tmod_bd8 sv 1000 (by decide)
  have sb0 := tmod_nn8 sv 1000 hs.1 (by decide)
  obtain ⟨sm, hsm⟩ : ∃ sm : Int, sv.tmod 1000 = sm := ⟨_, rfl⟩
  rw [hsm] at sb sb0
  have hsw : IntKind.i64.wrap (sm + 1) = sm + 1 := by rw [IntKind.wrap_i64]; omega
  obtain ⟨sp, hsp⟩ : ∃ sp : Int, sm + 1 = sp := ⟨_, rfl⟩
  have sp1 : 1 ≤ sp := by omega
  have sp2 : sp ≤ 1000 := by omega
  have HO := hid hO
  clear hl hO
  go_enter Try.func5, Try.ntmps5
  go_wp2_with fail
  refine Calls.mono (awake_any w) ?_
  rintro e w1 ⟨rfl, hb1⟩
  have HB1 := hid hb1
  clear hb1
  go_wp2_with fail
  refine Calls.mono (made_any sp w1 sp1 sp2) ?_
  rintro e w2 ⟨g, off, cap6, bs, Fs0, rfl, hcell, hgl, hgB, hgF, hsix, hb2⟩
  have hsix' : Six w.heap.size w2 6 bs Fs0 sp 0 0 false [] 0 [] := ⟨hsix.old, hsix.new, hsix.apart, fun j hj x hx => Nat.le_trans HB1.out.size (hsix.own j hj x hx), Nat.le_trans HB1.out.size hsix.start⟩
  have HST := hid (show AgAt w.heap.size w g off bs sp len 0 0 Fs0 0 false [] w2 from ⟨Nat.zero_le _, hsix', ⟨hcell, hgl, hgF⟩, by decide, by decide, by simp, by simp, HB1.out.trans (hb2.mono HB1.out.size)⟩)
  have hgB' : w.heap.size ≤ g := Nat.le_trans HB1.out.size hgB
  clear hcell hgl hgB hgF hsix hsix' hb2 hsm hsw hsp sb sb0
  go_wp2_with fail
  go_loopw [8, 9] (fun tt i wr => ∃ (k : Nat) (t : Int) (Fs : Nat → List Nat) (ck : Int) (on : Bool) (L : List Pr), tt = .int .i64 t ∧ i = .int .i64 k ∧ AgAt w.heap.size w g off bs sp len k t Fs ck on L wr) (fun _ i _ => len - (intOf i).toNat)
  case atStart => exact ⟨0, 0, Fs0, 0, false, [], rfl, rfl, HST.out⟩
  case round =>
    obtain ⟨k, t, Fs, ck, on, L, rfl, rfl, hA⟩ := hrel
    have hk := hA.le
    have ht0 := hA.t0
    have ht1 := hA.t1
    by_cases hkl : k = len
    · subst hkl
      have HA := hid hA
      clear hA
      go_upto_region 15 with fail
      obtain ⟨t2, ht2⟩ : ∃ t2 : Int, t + lv % 1000 = t2 := ⟨_, rfl⟩
      rw [ht2]
      have jt : In64 t2 := ⟨by omega, by omega⟩
      have hlater : Later8 on ck t2 := fun e => by have := HA.out.clk e; omega
      have HLt := hid hlater
      clear hlater ht2
      obtain ⟨M, hM⟩ : ∃ M, M = fresh sp t2 L := ⟨_, rfl⟩
      have HMM := hid hM
      have HR0 := hid (show ReadAt w.heap.size w g off bs sp t2 ck on L M 0 Fs (.slice none 0 0) wr from ⟨by omega, HA.out.six.zero _ _, HA.out.list, .inl ⟨rfl, rfl⟩, HA.out.bel⟩)
      have hmild : Mild (vals M) := by
        refine ⟨?_, fun x hx => ?_⟩
        · rw [hM]
          have h1 := fresh_le8 sp t2 L
          have h2 := (HA.out.six.old 0 (by decide) (by decide)).len
          simp [vals]; omega
        · obtain ⟨y, hy, rfl⟩ := List.mem_map.1 hx
          rw [hM] at hy
          exact HA.out.mild y ((List.dropWhile_sublist _).subset hy)
      have HMi := hid hmild
      clear hM hmild
      obtain ⟨wo, hwo⟩ : ∃ wo : World, wo = wr := ⟨_, rfl⟩
      subst hwo
      go_wp2_with fail
      go_loopw [11, 12] (fun r j wr => ∃ (n : Nat) (Gs : Nat → List Nat), j = .int .i64 n ∧ ReadAt w.heap.size w g off bs sp t2 ck on L M n Gs r wr) (fun _ j _ => 6 - (intOf j).toNat)
      case atStart => exact ⟨0, Fs, rfl, HR0.out⟩
      case round =>
        obtain ⟨n, Gs, rfl, hN⟩ := hrel
        have hn6 := hN.le
        obtain ⟨ar, cr, hlr⟩ := hN.ls.shape
        rw [ress_len] at hlr
        subst hlr
        by_cases h6 : n = 6
        · subst h6
          have HN := hid hN
          clear hN
          obtain ⟨gr, ro, har, ⟨fr1, fr2, fr3⟩, hrow⟩ := row_of_pls HN.out.ls
          subst har
          have hs0 := (six_sum HMi.out).1
          have hs4 := (six_sum HMi.out).2
          obtain ⟨y0, hy0⟩ : ∃ y, y = sixRes (vals M) 0 := ⟨_, rfl⟩
          obtain ⟨y1, hy1⟩ : ∃ y, y = sixRes (vals M) 1 := ⟨_, rfl⟩
          obtain ⟨y2, hy2⟩ : ∃ y, y = sixRes (vals M) 2 := ⟨_, rfl⟩
          obtain ⟨y3, hy3⟩ : ∃ y, y = sixRes (vals M) 3 := ⟨_, rfl⟩
          obtain ⟨y4, hy4⟩ : ∃ y, y = sixRes (vals M) 4 := ⟨_, rfl⟩
          obtain ⟨y5, hy5⟩ : ∃ y, y = sixRes (vals M) 5 := ⟨_, rfl⟩
          rw [← hy0, ← hy1, ← hy2, ← hy3, ← hy4, ← hy5] at hrow
          rw [← hy0] at hs0
          rw [← hy4] at hs4
          have Y0 := hid hs0
          have Y1 := hid hy1
          have Y2 := hid hy2
          have Y3 := hid hy3
          have Y4 := hid hs4
          have Y5 := hid hy5
          clear hs0 hs4 hy0 hy1 hy2 hy3 hy4 hy5
          go_upto_region 23 with fail
          refine wp_region_noPanic ?_
          refine wp_region_held_drew (S := RowAt gr ro (cells6 y0 y1 y2 y3 y4 y5)) (by kernel_rfl) (hrow.next (drewN_below wr 1)) (fun hHeld => ?_)
          refine wpAnyH_take (i := 0) (oi := { dst := some 91, op := Op.move (Operand.tmp 11), type := 56, pos := "law.go:155", after := #[], guard := none }) (v := ?_) rfl (by kernel_rfl) (by kernel_rfl) (by kernel_rfl) (fun _ _ _ h => h) (Or.inl ⟨by rfl, ?_⟩) hHeld ?_
          rotate_left
          · intro wq hq
            obtain ⟨q0, q1, q2, q3, q4, q5, q6, q7, q8, q9, q10, q11⟩ := row_cells hq
            clear hq
            go_simp
            all_goals with_reducible rfl
          simp only [Act.put, List.setIfInBounds_toArray, List.set_cons_zero, List.set_cons_succ] -- take
          refine wpAnyH_take (i := 1) (oi := { dst := some 92, op := Op.indexAddr 56 (Operand.tmp 91) (Operand.const (Value.int IntKind.i64 0)), type := 0, pos := "law.go:155", after := #[{ on := 0, ground := Ground.data }], guard := none }) (v := ?_) rfl (by kernel_rfl) (by kernel_rfl) (by kernel_rfl) (fun _ _ _ h => h) (Or.inl ⟨by rfl, ?_⟩) hHeld ?_
          rotate_left
          · intro wq hq
            obtain ⟨q0, q1, q2, q3, q4, q5, q6, q7, q8, q9, q10, q11⟩ := row_cells hq
            clear hq
            go_simp
            all_goals with_reducible rfl
          simp only [Act.put, List.setIfInBounds_toArray, List.set_cons_zero, List.set_cons_succ] -- take
          refine wpAnyH_take (i := 2) (oi := { dst := some 93, op := Op.load 49 (Operand.tmp 92), type := 49, pos := "law.go:155", after := #[{ on := 1, ground := Ground.data }], guard := none }) (v := ?_) rfl (by kernel_rfl) (by kernel_rfl) (by kernel_rfl) (fun _ _ _ h => h) (Or.inl ⟨by rfl, ?_⟩) hHeld ?_
          rotate_left
          · intro wq hq
            obtain ⟨q0, q1, q2, q3, q4, q5, q6, q7, q8, q9, q10, q11⟩ := row_cells hq
            clear hq
            go_simp
            all_goals with_reducible rfl
          simp only [Act.put, List.setIfInBounds_toArray, List.set_cons_zero, List.set_cons_succ] -- take
          refine wpAnyH_take (i := 3) (oi := { dst := some 94, op := Op.move (Operand.tmp 11), type := 56, pos := "law.go:155", after := #[{ on := 24, ground := Ground.gcOnly Departure.lateStores }], guard := none }) (v := ?_) rfl (by kernel_rfl) (by kernel_rfl) (by kernel_rfl) (fun _ _ _ h => h) (Or.inl ⟨by rfl, ?_⟩) hHeld ?_
          rotate_left
          · intro wq hq
            obtain ⟨q0, q1, q2, q3, q4, q5, q6, q7, q8, q9, q10, q11⟩ := row_cells hq
            clear hq
            go_simp
            all_goals with_reducible rfl
          simp only [Act.put, List.setIfInBounds_toArray, List.set_cons_zero, List.set_cons_succ] -- take
          refine wpAnyH_take (i := 4) (oi := { dst := some 95, op := Op.indexAddr 56 (Operand.tmp 94) (Operand.const (Value.int IntKind.i64 1)), type := 0, pos := "law.go:155", after := #[{ on := 3, ground := Ground.data }, { on := 24, ground := Ground.gcOnly Departure.lateStores }], guard := none }) (v := ?_) rfl (by kernel_rfl) (by kernel_rfl) (by kernel_rfl) (fun _ _ _ h => h) (Or.inl ⟨by rfl, ?_⟩) hHeld ?_
          rotate_left
          · intro wq hq
            obtain ⟨q0, q1, q2, q3, q4, q5, q6, q7, q8, q9, q10, q11⟩ := row_cells hq
            clear hq
            go_simp
            all_goals with_reducible rfl
          simp only [Act.put, List.setIfInBounds_toArray, List.set_cons_zero, List.set_cons_succ] -- take
          refine wpAnyH_take (i := 5) (oi := { dst := some 96, op := Op.load 49 (Operand.tmp 95), type := 49, pos := "law.go:155", after := #[{ on := 4, ground := Ground.data }, { on := 24, ground := Ground.gcOnly Departure.lateStores }], guard := none }) (v := ?_) rfl (by kernel_rfl) (by kernel_rfl) (by kernel_rfl) (fun _ _ _ h => h) (Or.inl ⟨by rfl, ?_⟩) hHeld ?_
          rotate_left
          · intro wq hq
            obtain ⟨q0, q1, q2, q3, q4, q5, q6, q7, q8, q9, q10, q11⟩ := row_cells hq
            clear hq
            go_simp
            all_goals with_reducible rfl
          simp only [Act.put, List.setIfInBounds_toArray, List.set_cons_zero, List.set_cons_succ] -- take
          refine wpAnyH_take (i := 6) (oi := { dst := some 97, op := Op.move (Operand.tmp 11), type := 56, pos := "law.go:155", after := #[{ on := 25, ground := Ground.gcOnly Departure.lateStores }], guard := none }) (v := ?_) rfl (by kernel_rfl) (by kernel_rfl) (by kernel_rfl) (fun _ _ _ h => h) (Or.inl ⟨by rfl, ?_⟩) hHeld ?_
          rotate_left
          · intro wq hq
            obtain ⟨q0, q1, q2, q3, q4, q5, q6, q7, q8, q9, q10, q11⟩ := row_cells hq
            clear hq
            go_simp
            all_goals with_reducible rfl
          simp only [Act.put, List.setIfInBounds_toArray, List.set_cons_zero, List.set_cons_succ] -- take
          refine wpAnyH_take (i := 7) (oi := { dst := some 98, op := Op.indexAddr 56 (Operand.tmp 97) (Operand.const (Value.int IntKind.i64 2)), type := 0, pos := "law.go:155", after := #[{ on := 6, ground := Ground.data }, { on := 25, ground := Ground.gcOnly Departure.lateStores }], guard := none }) (v := ?_) rfl (by kernel_rfl) (by kernel_rfl) (by kernel_rfl) (fun _ _ _ h => h) (Or.inl ⟨by rfl, ?_⟩) hHeld ?_
          rotate_left
          · intro wq hq
            obtain ⟨q0, q1, q2, q3, q4, q5, q6, q7, q8, q9, q10, q11⟩ := row_cells hq
            clear hq
            go_simp
            all_goals with_reducible rfl
          simp only [Act.put, List.setIfInBounds_toArray, List.set_cons_zero, List.set_cons_succ] -- take
          refine wpAnyH_take (i := 8) (oi := { dst := some 99, op := Op.load 49 (Operand.tmp 98), type := 49, pos := "law.go:155", after := #[{ on := 7, ground := Ground.data }, { on := 25, ground := Ground.gcOnly Departure.lateStores }], guard := none }) (v := ?_) rfl (by kernel_rfl) (by kernel_rfl) (by kernel_rfl) (fun _ _ _ h => h) (Or.inl ⟨by rfl, ?_⟩) hHeld ?_
          rotate_left
          · intro wq hq
            obtain ⟨q0, q1, q2, q3, q4, q5, q6, q7, q8, q9, q10, q11⟩ := row_cells hq
            clear hq
            go_simp
            all_goals with_reducible rfl
          simp only [Act.put, List.setIfInBounds_toArray, List.set_cons_zero, List.set_cons_succ] -- take
          refine wpAnyH_take (i := 9) (oi := { dst := some 100, op := Op.move (Operand.tmp 11), type := 56, pos := "law.go:155", after := #[{ on := 26, ground := Ground.gcOnly Departure.lateStores }], guard := none }) (v := ?_) rfl (by kernel_rfl) (by kernel_rfl) (by kernel_rfl) (fun _ _ _ h => h) (Or.inl ⟨by rfl, ?_⟩) hHeld ?_
          rotate_left
          · intro wq hq
            obtain ⟨q0, q1, q2, q3, q4, q5, q6, q7, q8, q9, q10, q11⟩ := row_cells hq
            clear hq
            go_simp
            all_goals with_reducible rfl
          simp only [Act.put, List.setIfInBounds_toArray, List.set_cons_zero, List.set_cons_succ] -- take
          refine wpAnyH_take (i := 10) (oi := { dst := some 101, op := Op.indexAddr 56 (Operand.tmp 100) (Operand.const (Value.int IntKind.i64 3)), type := 0, pos := "law.go:155", after := #[{ on := 9, ground := Ground.data }, { on := 26, ground := Ground.gcOnly Departure.lateStores }], guard := none }) (v := ?_) rfl (by kernel_rfl) (by kernel_rfl) (by kernel_rfl) (fun _ _ _ h => h) (Or.inl ⟨by rfl, ?_⟩) hHeld ?_
          rotate_left
          · intro wq hq
            obtain ⟨q0, q1, q2, q3, q4, q5, q6, q7, q8, q9, q10, q11⟩ := row_cells hq
            clear hq
            go_simp
            all_goals with_reducible rfl
          simp only [Act.put, List.setIfInBounds_toArray, List.set_cons_zero, List.set_cons_succ] -- take
          refine wpAnyH_take (i := 11) (oi := { dst := some 102, op := Op.load 49 (Operand.tmp 101), type := 49, pos := "law.go:155", after := #[{ on := 10, ground := Ground.data }, { on := 26, ground := Ground.gcOnly Departure.lateStores }], guard := none }) (v := ?_) rfl (by kernel_rfl) (by kernel_rfl) (by kernel_rfl) (fun _ _ _ h => h) (Or.inl ⟨by rfl, ?_⟩) hHeld ?_
          rotate_left
          · intro wq hq
            obtain ⟨q0, q1, q2, q3, q4, q5, q6, q7, q8, q9, q10, q11⟩ := row_cells hq
            clear hq
            go_simp
            all_goals with_reducible rfl
          simp only [Act.put, List.setIfInBounds_toArray, List.set_cons_zero, List.set_cons_succ] -- take
          refine wpAnyH_take (i := 12) (oi := { dst := some 103, op := Op.move (Operand.tmp 11), type := 56, pos := "law.go:155", after := #[{ on := 27, ground := Ground.gcOnly Departure.lateStores }], guard := none }) (v := ?_) rfl (by kernel_rfl) (by kernel_rfl) (by kernel_rfl) (fun _ _ _ h => h) (Or.inl ⟨by rfl, ?_⟩) hHeld ?_
          rotate_left
          · intro wq hq
            obtain ⟨q0, q1, q2, q3, q4, q5, q6, q7, q8, q9, q10, q11⟩ := row_cells hq
            clear hq
            go_simp
            all_goals with_reducible rfl
          simp only [Act.put, List.setIfInBounds_toArray, List.set_cons_zero, List.set_cons_succ] -- take
          refine wpAnyH_take (i := 13) (oi := { dst := some 104, op := Op.indexAddr 56 (Operand.tmp 103) (Operand.const (Value.int IntKind.i64 4)), type := 0, pos := "law.go:155", after := #[{ on := 12, ground := Ground.data }, { on := 27, ground := Ground.gcOnly Departure.lateStores }], guard := none }) (v := ?_) rfl (by kernel_rfl) (by kernel_rfl) (by kernel_rfl) (fun _ _ _ h => h) (Or.inl ⟨by rfl, ?_⟩) hHeld ?_
          rotate_left
          · intro wq hq
            obtain ⟨q0, q1, q2, q3, q4, q5, q6, q7, q8, q9, q10, q11⟩ := row_cells hq
            clear hq
            go_simp
            all_goals with_reducible rfl
          simp only [Act.put, List.setIfInBounds_toArray, List.set_cons_zero, List.set_cons_succ] -- take
          refine wpAnyH_take (i := 14) (oi := { dst := some 105, op := Op.load 49 (Operand.tmp 104), type := 49, pos := "law.go:155", after := #[{ on := 13, ground := Ground.data }, { on := 27, ground := Ground.gcOnly Departure.lateStores }], guard := none }) (v := ?_) rfl (by kernel_rfl) (by kernel_rfl) (by kernel_rfl) (fun _ _ _ h => h) (Or.inl ⟨by rfl, ?_⟩) hHeld ?_
          rotate_left
          · intro wq hq
            obtain ⟨q0, q1, q2, q3, q4, q5, q6, q7, q8, q9, q10, q11⟩ := row_cells hq
            clear hq
            go_simp
            all_goals with_reducible rfl
          simp only [Act.put, List.setIfInBounds_toArray, List.set_cons_zero, List.set_cons_succ] -- take
          refine wpAnyH_take (i := 15) (oi := { dst := some 106, op := Op.move (Operand.tmp 11), type := 56, pos := "law.go:155", after := #[{ on := 28, ground := Ground.gcOnly Departure.lateStores }], guard := none }) (v := ?_) rfl (by kernel_rfl) (by kernel_rfl) (by kernel_rfl) (fun _ _ _ h => h) (Or.inl ⟨by rfl, ?_⟩) hHeld ?_
          rotate_left
          · intro wq hq
            obtain ⟨q0, q1, q2, q3, q4, q5, q6, q7, q8, q9, q10, q11⟩ := row_cells hq
            clear hq
            go_simp
            all_goals with_reducible rfl
          simp only [Act.put, List.setIfInBounds_toArray, List.set_cons_zero, List.set_cons_succ] -- take
          refine wpAnyH_take (i := 16) (oi := { dst := some 107, op := Op.indexAddr 56 (Operand.tmp 106) (Operand.const (Value.int IntKind.i64 5)), type := 0, pos := "law.go:155", after := #[{ on := 15, ground := Ground.data }, { on := 28, ground := Ground.gcOnly Departure.lateStores }], guard := none }) (v := ?_) rfl (by kernel_rfl) (by kernel_rfl) (by kernel_rfl) (fun _ _ _ h => h) (Or.inl ⟨by rfl, ?_⟩) hHeld ?_
          rotate_left
          · intro wq hq
            obtain ⟨q0, q1, q2, q3, q4, q5, q6, q7, q8, q9, q10, q11⟩ := row_cells hq
            clear hq
            go_simp
            all_goals with_reducible rfl
          simp only [Act.put, List.setIfInBounds_toArray, List.set_cons_zero, List.set_cons_succ] -- take
          refine wpAnyH_take (i := 17) (oi := { dst := some 108, op := Op.load 49 (Operand.tmp 107), type := 49, pos := "law.go:155", after := #[{ on := 16, ground := Ground.data }, { on := 28, ground := Ground.gcOnly Departure.lateStores }], guard := none }) (v := ?_) rfl (by kernel_rfl) (by kernel_rfl) (by kernel_rfl) (fun _ _ _ h => h) (Or.inl ⟨by rfl, ?_⟩) hHeld ?_
          rotate_left
          · intro wq hq
            obtain ⟨q0, q1, q2, q3, q4, q5, q6, q7, q8, q9, q10, q11⟩ := row_cells hq
            clear hq
            go_simp
            all_goals with_reducible rfl
          simp only [Act.put, List.setIfInBounds_toArray, List.set_cons_zero, List.set_cons_succ] -- take
          refine wpAnyH_allocs_ok (T := 49) (ob := .cells [.int .i64 0, .int .i64 0].toArray 49) alloc_res (fun w h => h.next ((Below.refl _ w).alloc (Nat.le_refl _) _)) 6 6 [(18, 15), (19, 16), (20, 17), (21, 18), (22, 19), (23, 20)] _ _ _ rfl (by kernel_rfl) (by decide) (by decide) hHeld (fun ff r1 r2 hS6 => ?_)
          have B0 := allocN_box [.int .i64 0, .int .i64 0] 49 6 wr.drew
          have hbb := allocN_below (.cells [.int .i64 0, .int .i64 0].toArray 49) 6 wr.drew
          generalize allocN (.cells [.int .i64 0, .int .i64 0].toArray 49) 6 wr.drew = W6 at *
          simp only [putsP, listsP, List.foldl_cons, List.foldl_nil, Act.put, List.setIfInBounds_toArray, List.set_cons_zero, List.set_cons_succ]
          obtain ⟨n0, hn0⟩ : ∃ n, n = ff 18 := ⟨_, rfl⟩
          have rb0 := r1 (18, 15) (by simp)
          have bx0 := B0 (ff 18) rb0.1 rb0.2
          obtain ⟨n1, hn1⟩ : ∃ n, n = ff 19 := ⟨_, rfl⟩
          have rb1 := r1 (19, 16) (by simp)
          have bx1 := B0 (ff 19) rb1.1 rb1.2
          obtain ⟨n2, hn2⟩ : ∃ n, n = ff 20 := ⟨_, rfl⟩
          have rb2 := r1 (20, 17) (by simp)
          have bx2 := B0 (ff 20) rb2.1 rb2.2
          obtain ⟨n3, hn3⟩ : ∃ n, n = ff 21 := ⟨_, rfl⟩
          have rb3 := r1 (21, 18) (by simp)
          have bx3 := B0 (ff 21) rb3.1 rb3.2
          obtain ⟨n4, hn4⟩ : ∃ n, n = ff 22 := ⟨_, rfl⟩
          have rb4 := r1 (22, 19) (by simp)
          have bx4 := B0 (ff 22) rb4.1 rb4.2
          obtain ⟨n5, hn5⟩ : ∃ n, n = ff 23 := ⟨_, rfl⟩
          have rb5 := r1 (23, 20) (by simp)
          have bx5 := B0 (ff 23) rb5.1 rb5.2
          have d01 := r2 (18, 15) (19, 16) (by simp) (by simp) (by decide)
          have d02 := r2 (18, 15) (20, 17) (by simp) (by simp) (by decide)
          have d03 := r2 (18, 15) (21, 18) (by simp) (by simp) (by decide)
          have d04 := r2 (18, 15) (22, 19) (by simp) (by simp) (by decide)
          have d05 := r2 (18, 15) (23, 20) (by simp) (by simp) (by decide)
          have d12 := r2 (19, 16) (20, 17) (by simp) (by simp) (by decide)
          have d13 := r2 (19, 16) (21, 18) (by simp) (by simp) (by decide)
          have d14 := r2 (19, 16) (22, 19) (by simp) (by simp) (by decide)
          have d15 := r2 (19, 16) (23, 20) (by simp) (by simp) (by decide)
          have d23 := r2 (20, 17) (21, 18) (by simp) (by simp) (by decide)
          have d24 := r2 (20, 17) (22, 19) (by simp) (by simp) (by decide)
          have d25 := r2 (20, 17) (23, 20) (by simp) (by simp) (by decide)
          have d34 := r2 (21, 18) (22, 19) (by simp) (by simp) (by decide)
          have d35 := r2 (21, 18) (23, 20) (by simp) (by simp) (by decide)
          have d45 := r2 (22, 19) (23, 20) (by simp) (by simp) (by decide)
          rw [← hn0, ← hn1, ← hn2, ← hn3, ← hn4, ← hn5]
          rw [← hn0] at rb0 bx0 d01 d02 d03 d04 d05
          rw [← hn1] at rb1 bx1 d01 d12 d13 d14 d15
          rw [← hn2] at rb2 bx2 d02 d12 d23 d24 d25
          rw [← hn3] at rb3 bx3 d03 d13 d23 d34 d35
          rw [← hn4] at rb4 bx4 d04 d14 d24 d34 d45
          rw [← hn5] at rb5 bx5 d05 d15 d25 d35 d45
          have hszr : wr.drew.heap.size = wr.heap.size := rfl
          have hwst : w.heap.size ≤ wr.heap.size := HN.out.six.start
          have hgrl := hrow.1
          have gn0 : gr ≠ n0 := by omega
          have wb0 : w.heap.size ≤ n0 := by omega
          have gn1 : gr ≠ n1 := by omega
          have wb1 : w.heap.size ≤ n1 := by omega
          have gn2 : gr ≠ n2 := by omega
          have wb2 : w.heap.size ≤ n2 := by omega
          have gn3 : gr ≠ n3 := by omega
          have wb3 : w.heap.size ≤ n3 := by omega
          have gn4 : gr ≠ n4 := by omega
          have wb4 : w.heap.size ≤ n4 := by omega
          have gn5 : gr ≠ n5 := by omega
          have wb5 : w.heap.size ≤ n5 := by omega
          have HBW := hid (show Below w.heap.size w W6 from HN.out.bel.trans (((drewN_below wr 1).trans hbb).mono hwst))
          have X0 := hid bx0
          have X1 := hid bx1
          have X2 := hid bx2
          have X3 := hid bx3
          have X4 := hid bx4
          have X5 := hid bx5
          have HS := hid hS6
          have D01 := hid d01
          have D02 := hid d02
          have D03 := hid d03
          have D04 := hid d04
          have D05 := hid d05
          have D12 := hid d12
          have D13 := hid d13
          have D14 := hid d14
          have D15 := hid d15
          have D23 := hid d23
          have D24 := hid d24
          have D25 := hid d25
          have D34 := hid d34
          have D35 := hid d35
          have D45 := hid d45
          clear B0 hbb r1 r2 hS6 hHeld rb0 rb1 rb2 rb3 rb4 rb5 bx0 bx1 bx2 bx3 bx4 bx5 d01 d02 d03 d04 d05 d12 d13 d14 d15 d23 d24 d25 d34 d35 d45 hn0 hn1 hn2 hn3 hn4 hn5 hszr hwst
          obtain ⟨zc0, zc1, zf0, zf1⟩ := X0.out.two
          have zl := X0.out.lt
          have zf2 : ∀ u, (W6.setCell ⟨n0, 0, none⟩ u).frozen? ⟨n0, 1, none⟩ = false := fun u => (World.frozen?_setCell _ _ _ _).trans zf1
          refine wpAnyH_ready (rs := [24]) (by kernel_rfl) (by simp) (AllReadyH.cons (o := { dst := none, op := Op.store 49 (Operand.tmp 15) (Operand.tmp 93), type := 0, pos := "law.go:155", after := #[{ on := 18, ground := Ground.data }, { on := 2, ground := Ground.data }, { on := 0, ground := Ground.phase }, { on := 1, ground := Ground.phase }, { on := 2, ground := Ground.phase }, { on := 3, ground := Ground.textOnly Departure.lateStores }, { on := 4, ground := Ground.textOnly Departure.lateStores }, { on := 5, ground := Ground.textOnly Departure.lateStores }, { on := 6, ground := Ground.textOnly Departure.lateStores }, { on := 7, ground := Ground.textOnly Departure.lateStores }, { on := 8, ground := Ground.textOnly Departure.lateStores }, { on := 9, ground := Ground.textOnly Departure.lateStores }, { on := 10, ground := Ground.textOnly Departure.lateStores }, { on := 11, ground := Ground.textOnly Departure.lateStores }, { on := 12, ground := Ground.textOnly Departure.lateStores }, { on := 13, ground := Ground.textOnly Departure.lateStores }, { on := 14, ground := Ground.textOnly Departure.lateStores }, { on := 15, ground := Ground.textOnly Departure.lateStores }, { on := 16, ground := Ground.textOnly Departure.lateStores }, { on := 17, ground := Ground.textOnly Departure.lateStores }, { on := 18, ground := Ground.phase }, { on := 19, ground := Ground.phase }, { on := 20, ground := Ground.phase }, { on := 21, ground := Ground.phase }, { on := 22, ground := Ground.phase }, { on := 23, ground := Ground.phase }], guard := none }) rfl (fun K hK => ?_) AllReadyH.nil)
          go_simp
          refine hK.out _ _ (HS.out.turn (T := [n0]) ((Turn.set _ _ _ (by simp)).andSet _ _ (.inl (by simp))) (by simpa using gn0)) (fun hHeld => ?_)
          clear hK
          obtain ⟨V0, hV0⟩ : ∃ V, V = (W6.setCell ⟨n0, 0, none⟩ (.int .i64 y0.1)).setCell ⟨n0, 1, none⟩ (.int .i64 y0.2) := ⟨_, rfl⟩
          rw [← hV0] at hHeld ⊢
          have x0' : Box V0 n0 [.int .i64 y0.1, .int .i64 y0.2] := by rw [hV0]; simpa using (X0.out.set 0 (by simp) (.int .i64 y0.1)).set 1 (by simp) (.int .i64 y0.2)
          have x1' := (X1.out.other (j := 0) (v := .int .i64 y0.1) (Ne.symm D01.out)).other (j := 1) (v := .int .i64 y0.2) (Ne.symm D01.out)
          rw [← hV0] at x1'
          have x2' := (X2.out.other (j := 0) (v := .int .i64 y0.1) (Ne.symm D02.out)).other (j := 1) (v := .int .i64 y0.2) (Ne.symm D02.out)
          rw [← hV0] at x2'
          have x3' := (X3.out.other (j := 0) (v := .int .i64 y0.1) (Ne.symm D03.out)).other (j := 1) (v := .int .i64 y0.2) (Ne.symm D03.out)
          rw [← hV0] at x3'
          have x4' := (X4.out.other (j := 0) (v := .int .i64 y0.1) (Ne.symm D04.out)).other (j := 1) (v := .int .i64 y0.2) (Ne.symm D04.out)
          rw [← hV0] at x4'
          have x5' := (X5.out.other (j := 0) (v := .int .i64 y0.1) (Ne.symm D05.out)).other (j := 1) (v := .int .i64 y0.2) (Ne.symm D05.out)
          rw [← hV0] at x5'
          have hbw' : Below w.heap.size w V0 := by rw [hV0]; exact (HBW.out.setCell wb0 _).setCell wb0 _
          clear HBW HS X0 X1 X2 X3 X4 X5 zc0 zc1 zf0 zf1 zl zf2
          have HBW := hid hbw'
          have HS := hid hHeld
          have X0 := hid x0'
          have X1 := hid x1'
          have X2 := hid x2'
          have X3 := hid x3'
          have X4 := hid x4'
          have X5 := hid x5'
          clear hbw' hHeld hV0 x0' x1' x2' x3' x4' x5'
          obtain ⟨zc0, zc1, zf0, zf1⟩ := X1.out.two
          have zl := X1.out.lt
          have zf2 : ∀ u, (V0.setCell ⟨n1, 0, none⟩ u).frozen? ⟨n1, 1, none⟩ = false := fun u => (World.frozen?_setCell _ _ _ _).trans zf1
          refine wpAnyH_ready (rs := [25]) (by kernel_rfl) (by simp) (AllReadyH.cons (o := { dst := none, op := Op.store 49 (Operand.tmp 16) (Operand.tmp 96), type := 0, pos := "law.go:155", after := #[{ on := 19, ground := Ground.data }, { on := 5, ground := Ground.data }, { on := 24, ground := Ground.chain }, { on := 0, ground := Ground.phase }, { on := 1, ground := Ground.phase }, { on := 2, ground := Ground.phase }, { on := 3, ground := Ground.phase }, { on := 4, ground := Ground.phase }, { on := 5, ground := Ground.phase }, { on := 6, ground := Ground.textOnly Departure.lateStores }, { on := 7, ground := Ground.textOnly Departure.lateStores }, { on := 8, ground := Ground.textOnly Departure.lateStores }, { on := 9, ground := Ground.textOnly Departure.lateStores }, { on := 10, ground := Ground.textOnly Departure.lateStores }, { on := 11, ground := Ground.textOnly Departure.lateStores }, { on := 12, ground := Ground.textOnly Departure.lateStores }, { on := 13, ground := Ground.textOnly Departure.lateStores }, { on := 14, ground := Ground.textOnly Departure.lateStores }, { on := 15, ground := Ground.textOnly Departure.lateStores }, { on := 16, ground := Ground.textOnly Departure.lateStores }, { on := 17, ground := Ground.textOnly Departure.lateStores }, { on := 18, ground := Ground.phase }, { on := 19, ground := Ground.phase }, { on := 20, ground := Ground.phase }, { on := 21, ground := Ground.phase }, { on := 22, ground := Ground.phase }, { on := 23, ground := Ground.phase }, { on := 24, ground := Ground.phase }], guard := none }) rfl (fun K hK => ?_) AllReadyH.nil)
          go_simp
          refine hK.out _ _ (HS.out.turn (T := [n1]) ((Turn.set _ _ _ (by simp)).andSet _ _ (.inl (by simp))) (by simpa using gn1)) (fun hHeld => ?_)
          clear hK
          obtain ⟨V1, hV1⟩ : ∃ V, V = (V0.setCell ⟨n1, 0, none⟩ (.int .i64 y1.1)).setCell ⟨n1, 1, none⟩ (.int .i64 y1.2) := ⟨_, rfl⟩
          rw [← hV1] at hHeld ⊢
          have x1' : Box V1 n1 [.int .i64 y1.1, .int .i64 y1.2] := by rw [hV1]; simpa using (X1.out.set 0 (by simp) (.int .i64 y1.1)).set 1 (by simp) (.int .i64 y1.2)
          have x0' := (X0.out.other (j := 0) (v := .int .i64 y1.1) D01.out).other (j := 1) (v := .int .i64 y1.2) D01.out
          rw [← hV1] at x0'
          have x2' := (X2.out.other (j := 0) (v := .int .i64 y1.1) (Ne.symm D12.out)).other (j := 1) (v := .int .i64 y1.2) (Ne.symm D12.out)
          rw [← hV1] at x2'
          have x3' := (X3.out.other (j := 0) (v := .int .i64 y1.1) (Ne.symm D13.out)).other (j := 1) (v := .int .i64 y1.2) (Ne.symm D13.out)
          rw [← hV1] at x3'
          have x4' := (X4.out.other (j := 0) (v := .int .i64 y1.1) (Ne.symm D14.out)).other (j := 1) (v := .int .i64 y1.2) (Ne.symm D14.out)
          rw [← hV1] at x4'
          have x5' := (X5.out.other (j := 0) (v := .int .i64 y1.1) (Ne.symm D15.out)).other (j := 1) (v := .int .i64 y1.2) (Ne.symm D15.out)
          rw [← hV1] at x5'
          have hbw' : Below w.heap.size w V1 := by rw [hV1]; exact (HBW.out.setCell wb1 _).setCell wb1 _
          clear HBW HS X0 X1 X2 X3 X4 X5 zc0 zc1 zf0 zf1 zl zf2
          have HBW := hid hbw'
          have HS := hid hHeld
          have X0 := hid x0'
          have X1 := hid x1'
          have X2 := hid x2'
          have X3 := hid x3'
          have X4 := hid x4'
          have X5 := hid x5'
          clear hbw' hHeld hV1 x0' x1' x2' x3' x4' x5'
          obtain ⟨zc0, zc1, zf0, zf1⟩ := X2.out.two
          have zl := X2.out.lt
          have zf2 : ∀ u, (V1.setCell ⟨n2, 0, none⟩ u).frozen? ⟨n2, 1, none⟩ = false := fun u => (World.frozen?_setCell _ _ _ _).trans zf1
          refine wpAnyH_ready (rs := [26]) (by kernel_rfl) (by simp) (AllReadyH.cons (o := { dst := none, op := Op.store 49 (Operand.tmp 17) (Operand.tmp 99), type := 0, pos := "law.go:155", after := #[{ on := 20, ground := Ground.data }, { on := 8, ground := Ground.data }, { on := 25, ground := Ground.chain }, { on := 0, ground := Ground.phase }, { on := 1, ground := Ground.phase }, { on := 2, ground := Ground.phase }, { on := 3, ground := Ground.phase }, { on := 4, ground := Ground.phase }, { on := 5, ground := Ground.phase }, { on := 6, ground := Ground.phase }, { on := 7, ground := Ground.phase }, { on := 8, ground := Ground.phase }, { on := 9, ground := Ground.textOnly Departure.lateStores }, { on := 10, ground := Ground.textOnly Departure.lateStores }, { on := 11, ground := Ground.textOnly Departure.lateStores }, { on := 12, ground := Ground.textOnly Departure.lateStores }, { on := 13, ground := Ground.textOnly Departure.lateStores }, { on := 14, ground := Ground.textOnly Departure.lateStores }, { on := 15, ground := Ground.textOnly Departure.lateStores }, { on := 16, ground := Ground.textOnly Departure.lateStores }, { on := 17, ground := Ground.textOnly Departure.lateStores }, { on := 18, ground := Ground.phase }, { on := 19, ground := Ground.phase }, { on := 20, ground := Ground.phase }, { on := 21, ground := Ground.phase }, { on := 22, ground := Ground.phase }, { on := 23, ground := Ground.phase }, { on := 24, ground := Ground.phase }, { on := 25, ground := Ground.phase }], guard := none }) rfl (fun K hK => ?_) AllReadyH.nil)
          go_simp
          refine hK.out _ _ (HS.out.turn (T := [n2]) ((Turn.set _ _ _ (by simp)).andSet _ _ (.inl (by simp))) (by simpa using gn2)) (fun hHeld => ?_)
          clear hK
          obtain ⟨V2, hV2⟩ : ∃ V, V = (V1.setCell ⟨n2, 0, none⟩ (.int .i64 y2.1)).setCell ⟨n2, 1, none⟩ (.int .i64 y2.2) := ⟨_, rfl⟩
          rw [← hV2] at hHeld ⊢
          have x2' : Box V2 n2 [.int .i64 y2.1, .int .i64 y2.2] := by rw [hV2]; simpa using (X2.out.set 0 (by simp) (.int .i64 y2.1)).set 1 (by simp) (.int .i64 y2.2)
          have x0' := (X0.out.other (j := 0) (v := .int .i64 y2.1) D02.out).other (j := 1) (v := .int .i64 y2.2) D02.out
          rw [← hV2] at x0'
          have x1' := (X1.out.other (j := 0) (v := .int .i64 y2.1) D12.out).other (j := 1) (v := .int .i64 y2.2) D12.out
          rw [← hV2] at x1'
          have x3' := (X3.out.other (j := 0) (v := .int .i64 y2.1) (Ne.symm D23.out)).other (j := 1) (v := .int .i64 y2.2) (Ne.symm D23.out)
          rw [← hV2] at x3'
          have x4' := (X4.out.other (j := 0) (v := .int .i64 y2.1) (Ne.symm D24.out)).other (j := 1) (v := .int .i64 y2.2) (Ne.symm D24.out)
          rw [← hV2] at x4'
          have x5' := (X5.out.other (j := 0) (v := .int .i64 y2.1) (Ne.symm D25.out)).other (j := 1) (v := .int .i64 y2.2) (Ne.symm D25.out)
          rw [← hV2] at x5'
          have hbw' : Below w.heap.size w V2 := by rw [hV2]; exact (HBW.out.setCell wb2 _).setCell wb2 _
          clear HBW HS X0 X1 X2 X3 X4 X5 zc0 zc1 zf0 zf1 zl zf2
          have HBW := hid hbw'
          have HS := hid hHeld
          have X0 := hid x0'
          have X1 := hid x1'
          have X2 := hid x2'
          have X3 := hid x3'
          have X4 := hid x4'
          have X5 := hid x5'
          clear hbw' hHeld hV2 x0' x1' x2' x3' x4' x5'
          obtain ⟨zc0, zc1, zf0, zf1⟩ := X3.out.two
          have zl := X3.out.lt
          have zf2 : ∀ u, (V2.setCell ⟨n3, 0, none⟩ u).frozen? ⟨n3, 1, none⟩ = false := fun u => (World.frozen?_setCell _ _ _ _).trans zf1
          refine wpAnyH_ready (rs := [27]) (by kernel_rfl) (by simp) (AllReadyH.cons (o := { dst := none, op := Op.store 49 (Operand.tmp 18) (Operand.tmp 102), type := 0, pos := "law.go:155", after := #[{ on := 21, ground := Ground.data }, { on := 11, ground := Ground.data }, { on := 26, ground := Ground.chain }, { on := 0, ground := Ground.phase }, { on := 1, ground := Ground.phase }, { on := 2, ground := Ground.phase }, { on := 3, ground := Ground.phase }, { on := 4, ground := Ground.phase }, { on := 5, ground := Ground.phase }, { on := 6, ground := Ground.phase }, { on := 7, ground := Ground.phase }, { on := 8, ground := Ground.phase }, { on := 9, ground := Ground.phase }, { on := 10, ground := Ground.phase }, { on := 11, ground := Ground.phase }, { on := 12, ground := Ground.textOnly Departure.lateStores }, { on := 13, ground := Ground.textOnly Departure.lateStores }, { on := 14, ground := Ground.textOnly Departure.lateStores }, { on := 15, ground := Ground.textOnly Departure.lateStores }, { on := 16, ground := Ground.textOnly Departure.lateStores }, { on := 17, ground := Ground.textOnly Departure.lateStores }, { on := 18, ground := Ground.phase }, { on := 19, ground := Ground.phase }, { on := 20, ground := Ground.phase }, { on := 21, ground := Ground.phase }, { on := 22, ground := Ground.phase }, { on := 23, ground := Ground.phase }, { on := 24, ground := Ground.phase }, { on := 25, ground := Ground.phase }, { on := 26, ground := Ground.phase }], guard := none }) rfl (fun K hK => ?_) AllReadyH.nil)
          go_simp
          refine hK.out _ _ (HS.out.turn (T := [n3]) ((Turn.set _ _ _ (by simp)).andSet _ _ (.inl (by simp))) (by simpa using gn3)) (fun hHeld => ?_)
          clear hK
          obtain ⟨V3, hV3⟩ : ∃ V, V = (V2.setCell ⟨n3, 0, none⟩ (.int .i64 y3.1)).setCell ⟨n3, 1, none⟩ (.int .i64 y3.2) := ⟨_, rfl⟩
          rw [← hV3] at hHeld ⊢
          have x3' : Box V3 n3 [.int .i64 y3.1, .int .i64 y3.2] := by rw [hV3]; simpa using (X3.out.set 0 (by simp) (.int .i64 y3.1)).set 1 (by simp) (.int .i64 y3.2)
          have x0' := (X0.out.other (j := 0) (v := .int .i64 y3.1) D03.out).other (j := 1) (v := .int .i64 y3.2) D03.out
          rw [← hV3] at x0'
          have x1' := (X1.out.other (j := 0) (v := .int .i64 y3.1) D13.out).other (j := 1) (v := .int .i64 y3.2) D13.out
          rw [← hV3] at x1'
          have x2' := (X2.out.other (j := 0) (v := .int .i64 y3.1) D23.out).other (j := 1) (v := .int .i64 y3.2) D23.out
          rw [← hV3] at x2'
          have x4' := (X4.out.other (j := 0) (v := .int .i64 y3.1) (Ne.symm D34.out)).other (j := 1) (v := .int .i64 y3.2) (Ne.symm D34.out)
          rw [← hV3] at x4'
          have x5' := (X5.out.other (j := 0) (v := .int .i64 y3.1) (Ne.symm D35.out)).other (j := 1) (v := .int .i64 y3.2) (Ne.symm D35.out)
          rw [← hV3] at x5'
          have hbw' : Below w.heap.size w V3 := by rw [hV3]; exact (HBW.out.setCell wb3 _).setCell wb3 _
          clear HBW HS X0 X1 X2 X3 X4 X5 zc0 zc1 zf0 zf1 zl zf2
          have HBW := hid hbw'
          have HS := hid hHeld
          have X0 := hid x0'
          have X1 := hid x1'
          have X2 := hid x2'
          have X3 := hid x3'
          have X4 := hid x4'
          have X5 := hid x5'
          clear hbw' hHeld hV3 x0' x1' x2' x3' x4' x5'
          obtain ⟨zc0, zc1, zf0, zf1⟩ := X4.out.two
          have zl := X4.out.lt
          have zf2 : ∀ u, (V3.setCell ⟨n4, 0, none⟩ u).frozen? ⟨n4, 1, none⟩ = false := fun u => (World.frozen?_setCell _ _ _ _).trans zf1
          refine wpAnyH_ready (rs := [28]) (by kernel_rfl) (by simp) (AllReadyH.cons (o := { dst := none, op := Op.store 49 (Operand.tmp 19) (Operand.tmp 105), type := 0, pos := "law.go:155", after := #[{ on := 22, ground := Ground.data }, { on := 14, ground := Ground.data }, { on := 27, ground := Ground.chain }, { on := 0, ground := Ground.phase }, { on := 1, ground := Ground.phase }, { on := 2, ground := Ground.phase }, { on := 3, ground := Ground.phase }, { on := 4, ground := Ground.phase }, { on := 5, ground := Ground.phase }, { on := 6, ground := Ground.phase }, { on := 7, ground := Ground.phase }, { on := 8, ground := Ground.phase }, { on := 9, ground := Ground.phase }, { on := 10, ground := Ground.phase }, { on := 11, ground := Ground.phase }, { on := 12, ground := Ground.phase }, { on := 13, ground := Ground.phase }, { on := 14, ground := Ground.phase }, { on := 15, ground := Ground.textOnly Departure.lateStores }, { on := 16, ground := Ground.textOnly Departure.lateStores }, { on := 17, ground := Ground.textOnly Departure.lateStores }, { on := 18, ground := Ground.phase }, { on := 19, ground := Ground.phase }, { on := 20, ground := Ground.phase }, { on := 21, ground := Ground.phase }, { on := 22, ground := Ground.phase }, { on := 23, ground := Ground.phase }, { on := 24, ground := Ground.phase }, { on := 25, ground := Ground.phase }, { on := 26, ground := Ground.phase }, { on := 27, ground := Ground.phase }], guard := none }) rfl (fun K hK => ?_) AllReadyH.nil)
          go_simp
          refine hK.out _ _ (HS.out.turn (T := [n4]) ((Turn.set _ _ _ (by simp)).andSet _ _ (.inl (by simp))) (by simpa using gn4)) (fun hHeld => ?_)
          clear hK
          obtain ⟨V4, hV4⟩ : ∃ V, V = (V3.setCell ⟨n4, 0, none⟩ (.int .i64 y4.1)).setCell ⟨n4, 1, none⟩ (.int .i64 y4.2) := ⟨_, rfl⟩
          rw [← hV4] at hHeld ⊢
          have x4' : Box V4 n4 [.int .i64 y4.1, .int .i64 y4.2] := by rw [hV4]; simpa using (X4.out.set 0 (by simp) (.int .i64 y4.1)).set 1 (by simp) (.int .i64 y4.2)
          have x0' := (X0.out.other (j := 0) (v := .int .i64 y4.1) D04.out).other (j := 1) (v := .int .i64 y4.2) D04.out
          rw [← hV4] at x0'
          have x1' := (X1.out.other (j := 0) (v := .int .i64 y4.1) D14.out).other (j := 1) (v := .int .i64 y4.2) D14.out
          rw [← hV4] at x1'
          have x2' := (X2.out.other (j := 0) (v := .int .i64 y4.1) D24.out).other (j := 1) (v := .int .i64 y4.2) D24.out
          rw [← hV4] at x2'
          have x3' := (X3.out.other (j := 0) (v := .int .i64 y4.1) D34.out).other (j := 1) (v := .int .i64 y4.2) D34.out
          rw [← hV4] at x3'
          have x5' := (X5.out.other (j := 0) (v := .int .i64 y4.1) (Ne.symm D45.out)).other (j := 1) (v := .int .i64 y4.2) (Ne.symm D45.out)
          rw [← hV4] at x5'
          have hbw' : Below w.heap.size w V4 := by rw [hV4]; exact (HBW.out.setCell wb4 _).setCell wb4 _
          clear HBW HS X0 X1 X2 X3 X4 X5 zc0 zc1 zf0 zf1 zl zf2
          have HBW := hid hbw'
          have HS := hid hHeld
          have X0 := hid x0'
          have X1 := hid x1'
          have X2 := hid x2'
          have X3 := hid x3'
          have X4 := hid x4'
          have X5 := hid x5'
          clear hbw' hHeld hV4 x0' x1' x2' x3' x4' x5'
          obtain ⟨zc0, zc1, zf0, zf1⟩ := X5.out.two
          have zl := X5.out.lt
          have zf2 : ∀ u, (V4.setCell ⟨n5, 0, none⟩ u).frozen? ⟨n5, 1, none⟩ = false := fun u => (World.frozen?_setCell _ _ _ _).trans zf1
          refine wpAnyH_ready (rs := [29]) (by kernel_rfl) (by simp) (AllReadyH.cons (o := { dst := none, op := Op.store 49 (Operand.tmp 20) (Operand.tmp 108), type := 0, pos := "law.go:155", after := #[{ on := 23, ground := Ground.data }, { on := 17, ground := Ground.data }, { on := 28, ground := Ground.chain }, { on := 0, ground := Ground.phase }, { on := 1, ground := Ground.phase }, { on := 2, ground := Ground.phase }, { on := 3, ground := Ground.phase }, { on := 4, ground := Ground.phase }, { on := 5, ground := Ground.phase }, { on := 6, ground := Ground.phase }, { on := 7, ground := Ground.phase }, { on := 8, ground := Ground.phase }, { on := 9, ground := Ground.phase }, { on := 10, ground := Ground.phase }, { on := 11, ground := Ground.phase }, { on := 12, ground := Ground.phase }, { on := 13, ground := Ground.phase }, { on := 14, ground := Ground.phase }, { on := 15, ground := Ground.phase }, { on := 16, ground := Ground.phase }, { on := 17, ground := Ground.phase }, { on := 18, ground := Ground.phase }, { on := 19, ground := Ground.phase }, { on := 20, ground := Ground.phase }, { on := 21, ground := Ground.phase }, { on := 22, ground := Ground.phase }, { on := 23, ground := Ground.phase }, { on := 24, ground := Ground.phase }, { on := 25, ground := Ground.phase }, { on := 26, ground := Ground.phase }, { on := 27, ground := Ground.phase }, { on := 28, ground := Ground.phase }], guard := none }) rfl (fun K hK => ?_) AllReadyH.nil)
          go_simp
          refine hK.out _ _ (HS.out.turn (T := [n5]) ((Turn.set _ _ _ (by simp)).andSet _ _ (.inl (by simp))) (by simpa using gn5)) (fun hHeld => ?_)
          clear hK
          obtain ⟨V5, hV5⟩ : ∃ V, V = (V4.setCell ⟨n5, 0, none⟩ (.int .i64 y5.1)).setCell ⟨n5, 1, none⟩ (.int .i64 y5.2) := ⟨_, rfl⟩
          rw [← hV5] at hHeld ⊢
          have x5' : Box V5 n5 [.int .i64 y5.1, .int .i64 y5.2] := by rw [hV5]; simpa using (X5.out.set 0 (by simp) (.int .i64 y5.1)).set 1 (by simp) (.int .i64 y5.2)
          have x0' := (X0.out.other (j := 0) (v := .int .i64 y5.1) D05.out).other (j := 1) (v := .int .i64 y5.2) D05.out
          rw [← hV5] at x0'
          have x1' := (X1.out.other (j := 0) (v := .int .i64 y5.1) D15.out).other (j := 1) (v := .int .i64 y5.2) D15.out
          rw [← hV5] at x1'
          have x2' := (X2.out.other (j := 0) (v := .int .i64 y5.1) D25.out).other (j := 1) (v := .int .i64 y5.2) D25.out
          rw [← hV5] at x2'
          have x3' := (X3.out.other (j := 0) (v := .int .i64 y5.1) D35.out).other (j := 1) (v := .int .i64 y5.2) D35.out
          rw [← hV5] at x3'
          have x4' := (X4.out.other (j := 0) (v := .int .i64 y5.1) D45.out).other (j := 1) (v := .int .i64 y5.2) D45.out
          rw [← hV5] at x4'
          have hbw' : Below w.heap.size w V5 := by rw [hV5]; exact (HBW.out.setCell wb5 _).setCell wb5 _
          clear HBW HS X0 X1 X2 X3 X4 X5 zc0 zc1 zf0 zf1 zl zf2
          have HBW := hid hbw'
          have HS := hid hHeld
          have X0 := hid x0'
          have X1 := hid x1'
          have X2 := hid x2'
          have X3 := hid x3'
          have X4 := hid x4'
          have X5 := hid x5'
          clear hbw' hHeld hV5 x0' x1' x2' x3' x4' x5'
          refine wpAnyH_done (by kernel_rfl) ?_ 0
          refine NoPanic.normal ?_
          refine then_normal ?_
          have hmi := HMi.out
          obtain ⟨hml, hmv⟩ := hmi
          have hsb := mild_sum hmv
          have bw := HBW.out
          have a00 : V5.cell? ⟨n0, 0, none⟩ = some (.int .i64 0) := by have h := X0.out.cell 0 _ rfl; rw [Y0.out] at h; exact h
          have a01 : V5.cell? ⟨n0, 1, none⟩ = some (.int .i64 (vals M).sum) := by have h := X0.out.cell 1 _ rfl; rw [Y0.out] at h; exact h
          have a40 : V5.cell? ⟨n4, 0, none⟩ = some (.int .i64 0) := by have h := X4.out.cell 0 _ rfl; rw [Y4.out] at h; exact h
          have a41 : V5.cell? ⟨n4, 1, none⟩ = some (.int .i64 (((vals M).length : Int) * 1000000)) := by have h := X4.out.cell 1 _ rfl; rw [Y4.out] at h; exact h
          have l0 := X0.out.lt
          have l1 := X1.out.lt
          have l2 := X2.out.lt
          have l3 := X3.out.lt
          have l4 := X4.out.lt
          have l5 := X5.out.lt
          by_cases hV : vals M = []
          · have e1 : y1 = (1, 0) := by rw [Y1.out, hV]; exact six_nil.1
            have e2 : y2 = (1, 0) := by rw [Y2.out, hV]; exact six_nil.2.1
            have e3 : y3 = (1, 0) := by rw [Y3.out, hV]; exact six_nil.2.2.1
            have e5 : y5 = (1, 0) := by rw [Y5.out, hV]; exact six_nil.2.2.2
            have zs : (vals M).sum = 0 := by rw [hV]; rfl
            have zn : ((vals M).length : Int) * 1000000 = 0 := by rw [hV]; rfl
            rw [zs] at a01
            rw [zn] at a41
            have a10 : V5.cell? ⟨n1, 0, none⟩ = some (.int .i64 1) := by have h := X1.out.cell 0 _ rfl; rw [e1] at h; exact h
            have a11 : V5.cell? ⟨n1, 1, none⟩ = some (.int .i64 0) := by have h := X1.out.cell 1 _ rfl; rw [e1] at h; exact h
            have a20 : V5.cell? ⟨n2, 0, none⟩ = some (.int .i64 1) := by have h := X2.out.cell 0 _ rfl; rw [e2] at h; exact h
            have a21 : V5.cell? ⟨n2, 1, none⟩ = some (.int .i64 0) := by have h := X2.out.cell 1 _ rfl; rw [e2] at h; exact h
            have a30 : V5.cell? ⟨n3, 0, none⟩ = some (.int .i64 1) := by have h := X3.out.cell 0 _ rfl; rw [e3] at h; exact h
            have a31 : V5.cell? ⟨n3, 1, none⟩ = some (.int .i64 0) := by have h := X3.out.cell 1 _ rfl; rw [e3] at h; exact h
            have a50 : V5.cell? ⟨n5, 0, none⟩ = some (.int .i64 1) := by have h := X5.out.cell 0 _ rfl; rw [e5] at h; exact h
            have a51 : V5.cell? ⟨n5, 1, none⟩ = some (.int .i64 0) := by have h := X5.out.cell 1 _ rfl; rw [e5] at h; exact h
            clear hV e1 e2 e3 e5 zs zn hsb hmv hml bw
            go_wp2_with fail
            go_ret
            exact ⟨rfl, HBW.out⟩
          · obtain ⟨av, lo, hi, e1, e2, e3, e5, b1, b2, b3, b4, m1, m2⟩ := six_some hV
            have hpos : 0 < (vals M).length := List.length_pos_iff.2 hV
            have lob := hmv lo m1
            have hib := hmv hi m2
            have a10 : V5.cell? ⟨n1, 0, none⟩ = some (.int .i64 0) := by have h := X1.out.cell 0 _ rfl; rw [Y1.out, e1] at h; exact h
            have a11 : V5.cell? ⟨n1, 1, none⟩ = some (.int .i64 av) := by have h := X1.out.cell 1 _ rfl; rw [Y1.out, e1] at h; exact h
            have a20 : V5.cell? ⟨n2, 0, none⟩ = some (.int .i64 0) := by have h := X2.out.cell 0 _ rfl; rw [Y2.out, e2] at h; exact h
            have a21 : V5.cell? ⟨n2, 1, none⟩ = some (.int .i64 lo) := by have h := X2.out.cell 1 _ rfl; rw [Y2.out, e2] at h; exact h
            have a30 : V5.cell? ⟨n3, 0, none⟩ = some (.int .i64 0) := by have h := X3.out.cell 0 _ rfl; rw [Y3.out, e3] at h; exact h
            have a31 : V5.cell? ⟨n3, 1, none⟩ = some (.int .i64 hi) := by have h := X3.out.cell 1 _ rfl; rw [Y3.out, e3] at h; exact h
            have a50 : V5.cell? ⟨n5, 0, none⟩ = some (.int .i64 0) := by have h := X5.out.cell 0 _ rfl; rw [Y5.out, e5] at h; exact h
            have a51 : V5.cell? ⟨n5, 1, none⟩ = some (.int .i64 hi) := by have h := X5.out.cell 1 _ rfl; rw [Y5.out, e5] at h; exact h
            obtain ⟨N, hN⟩ : ∃ N : Int, N = ((vals M).length : Int) := ⟨_, rfl⟩
            rw [← hN] at b1 b2 hsb a41
            have hN1 : 1 ≤ N := by omega
            have hN2 : N ≤ 4096 := by omega
            generalize (vals M).sum = sS at *
            obtain ⟨c4, hc4⟩ : ∃ c4 : Int, N * 1000000 = c4 := ⟨_, rfl⟩
            rw [hc4] at a41
            have t1 : c4.tmod 1000000 = 0 := by rw [← hc4]; exact Int.mul_tmod_left _ _
            have t2' : c4.tdiv 1000000 = N := by rw [← hc4]; exact Int.mul_tdiv_cancel _ (by decide)
            obtain ⟨pr, hpr⟩ : ∃ pr : Int, av * N = pr := ⟨_, rfl⟩
            rw [hpr] at b1 b2
            have w1' : IntKind.i64.wrap pr = pr := by rw [IntKind.wrap_i64]; omega
            have w2' : IntKind.i64.wrap (sS - pr) = sS - pr := by rw [IntKind.wrap_i64]; omega
            obtain ⟨rs, hrs⟩ : ∃ rs : Int, sS - pr = rs := ⟨_, rfl⟩
            rw [hrs] at b1 b2
            have hN0 : (N == 0) = false := by simp; omega
            have hh : (hi == hi) = true := by simp
            clear hV e1 e2 e3 e5 hsb hmv hml bw m1 m2 hN hc4 hpos lob hib
            go_wp2_with fail
            go_ret
            exact ⟨rfl, HBW.out⟩
        · have hn : n < 6 := by omega
          have hn' : (n : Int) < 6 := by omega
          have p1 := hN.list.cell n hn
          have pl := hN.list.lt
          have hRd := wRead (bs n) (Gs n) ((n : Int) + 1) sp (perOf n) ck on L t2 wr (hN.six.old n hn (Nat.le_refl _)) jt HLt.out
          rw [← HMM.out] at hRd
          obtain ⟨y, hy⟩ : ∃ y, y = sixRes (vals M) n := ⟨_, rfl⟩
          have hRd' : Calls Try.prog 16 #[.pointer (some ⟨bs n, 0, none⟩), .int .i64 t2] wr fun e w' => e = .returned (.tuple #[rv y, .int .i64 0]) ∧ Gone wr (bs n) (Gs n) ((n : Int) + 1) sp (perOf n) t2 M w' := by rw [hy]; exact hRd
          have HRd := hid hRd'
          have HY := hid hy
          have HN := hid hN
          clear hN hRd hRd' hy
          go_wp2_with fail
          refine Calls.mono HRd.out ?_
          rintro e w5 ⟨rfl, g5⟩
          obtain ⟨Gs5, h1, h2, h3, h4⟩ := read_first HN.out hn g5
          have hb6 : Below w5.heap.size w5 (w5.alloc (.cells #[.int .i64 y.1, .int .i64 y.2] 49)) := (Below.refl _ _).alloc (Nat.le_refl _) _
          have hN6 := Box.new w5 [.int .i64 y.1, .int .i64 y.2] 49
          obtain ⟨w6, hw6⟩ : ∃ w6, w6 = w5.alloc (.cells #[.int .i64 y.1, .int .i64 y.2] 49) := ⟨_, rfl⟩
          rw [← hw6] at hb6 hN6
          have z0 := hN6.cell 0 _ rfl
          have z1 := hN6.cell 1 _ rfl
          have zl := hN6.lt
          have HLS := hid (h3.next hb6)
          have H1 := hid h1
          have H2 := hid h2
          have H4 := hid h4
          have HB6 := hid hb6
          clear g5 h1 h2 h3 h4 hb6 hN6 p1 pl
          simp only [rv]
          go_upto_region 20 with fail
          rw [← hw6]
          clear hw6
          generalize w5.heap.size = q5 at z0 z1 zl ⊢
          have HRL := hid (ress_len (vals M) n)
          go_wp2_with (at_builtin; refine wpList_append_rls w6 _ rfl _ _ rfl (Free8 w.heap.size g Gs5) (.slice ar n cr) (ress (vals M) n) y rfl rfl HLS.out (by rw [HRL.out]; omega) rfl ?_; intro b7 c7 w7 hgr; rw [HRL.out, HY.out] at hgr; rw [HRL.out]; have HS := hid (read_second hn H1.out H2.out H4.out HB6.out hgr); clear hgr)
          go_roundw
          case rel => exact ⟨n + 1, Gs5, by simp, HS.out⟩
          case measure => simp [intOf]; omega
    · have hk2 : k < len := by omega
      have hk3 : (k : Int) < (len : Int) := by omega
      rcases HO.out with h0 | ⟨ob, off2, rfl, hob, hcell⟩
      · omega
      obtain ⟨o0, o1, i1, i2⟩ := hcell k hk2
      have q0 := (hA.bel.cell (p := ⟨ob, off2 + k * 2, none⟩) hob).trans o0
      have q1 := (hA.bel.cell (p := ⟨ob, off2 + k * 2 + 1, none⟩) hob).trans o1
      have hobr := Nat.lt_of_lt_of_le hob hA.bel.size
      have tb := tmod_bd8 (S k).1 100 (by decide)
      obtain ⟨mx, hmx, mx0, mx1⟩ : ∃ mx : Int, (if (S k).1.tmod 100 < 0 then 0 else (S k).1.tmod 100) = mx ∧ 0 ≤ mx ∧ mx ≤ 99 := ⟨_, rfl, by split <;> omega, by split <;> omega⟩
      have hwt : IntKind.i64.wrap (t + mx) = t + mx := by rw [IntKind.wrap_i64]; omega
      obtain ⟨t', ht'⟩ : ∃ t' : Int, t + mx = t' := ⟨_, rfl⟩
      have HA := hid hA
      have HO1 := hid o1
      clear hA hcell o0 o1 hkl tb
      obtain ⟨vv, hvv⟩ : ∃ vv : Int, (S k).2 / 1048576 = vv := ⟨_, rfl⟩
      have hvb : -8796093022208 ≤ vv ∧ vv ≤ 8796093022208 := by have h1 := i2.1; have h2 := i2.2; omega
      have hin : AgIn w.heap.size w g off bs sp t' ck on L (pushed (fresh sp t' L) (t', vv)) 0 Fs wr := ⟨by omega, HA.out.six.zero _ _, HA.out.list, HA.out.bel⟩
      have jt : In64 t' := ⟨by omega, by omega⟩
      have jv : In64 vv := ⟨by omega, by omega⟩
      have HIN := hid hin
      have hlater : Later8 on ck t' := fun e => by have := HA.out.clk e; omega
      have HLt := hid hlater
      clear hin
      go_upto_region 9 with fail
      have HTT := hid ht'
      clear q0 hmx hwt ht'
      go_wp2_with fail
      obtain ⟨wo, hwo⟩ : ∃ wo : World, wo = wr := ⟨_, rfl⟩
      subst hwo
      go_loopw [10] (fun j wr => ∃ (n : Nat) (Fs : Nat → List Nat), j = .int .i64 n ∧ AgIn w.heap.size w g off bs sp t' ck on L (pushed (fresh sp t' L) (t', vv)) n Fs wr) (fun j _ => 6 - (intOf j).toNat)
      case atStart => exact ⟨0, Fs, rfl, HIN.out⟩
      case round =>
        obtain ⟨n, Gs, rfl, hN⟩ := hrel
        have hn6 := hN.le
        by_cases h6 : n = 6
        · subst h6
          have HN := hid hN
          clear hN
          go_wp2_with fail
          refine ⟨⟨k + 1, t', Gs, t', true, pushed (fresh sp t' L) (t', vv), rfl, by simp, by omega, HN.out.six.all _ _, HN.out.list, by have := HTT.out; omega, by have := HTT.out; omega, fun _ => Int.le_refl _, ?_, HN.out.bel⟩, by simp [intOf]; omega⟩
          intro x hx
          unfold pushed at hx
          have hfr : ∀ y, y ∈ fresh sp t' L → y ∈ L := fun y hy => (List.dropWhile_sublist _).subset hy
          split at hx
          · rcases List.mem_append.1 hx with hx | hx
            · exact HA.out.mild x (hfr x (List.mem_of_mem_tail hx))
            · simp at hx; subst hx; exact hvb
          · rcases List.mem_append.1 hx with hx | hx
            · exact HA.out.mild x (hfr x hx)
            · simp at hx; subst hx; exact hvb
        · have hn : n < 6 := by omega
          have hn' : (n : Int) < 6 := by omega
          have p1 := hN.list.cell n hn
          have pl := hN.list.lt
          have r1 : wr.cell? ⟨ob, off2 + k * 2 + 1, none⟩ = some (.int .i64 (S k).2) := (hN.bel.cell (p := ⟨ob, off2 + k * 2 + 1, none⟩) hob).trans HO1.out
          have rl := Nat.lt_of_lt_of_le hob hN.bel.size
          have hND : AgIn w.heap.size w g off bs sp t' ck on L (pushed (fresh sp t' L) (t', vv)) n Gs (wr.drewN 1) := ⟨hN.le, hN.six.next (drewN_below wr 1), hN.list.next (drewN_below wr 1), hN.bel.trans ((drewN_below wr 1).mono hN.six.start)⟩
          have HP := hid (wPut (bs n) (Gs n) ((n : Int) + 1) sp (perOf n) ck on L (t', vv) (wr.drewN 1) (hND.six.old n hn (Nat.le_refl _)) jt jv HLt.out)
          have HND := hid hND
          clear hN hND
          go_upto_region 12 with fail
          go_region_held3 (fun w' => w'.cell? ⟨g, off + n, none⟩ = some (.pointer (some ⟨bs n, 0, none⟩)) ∧ w'.cell? ⟨ob, off2 + k * 2 + 1, none⟩ = some (.int .i64 (S k).2)) (simp [go_sem, *]) ((go_at_call 14; refine Calls.mono HP.out ?_; rintro e w9 ⟨rfl, g9⟩; obtain ⟨Gs9, h9⟩ := HND.out.step hn g9; have m1 := h9.list.cell n hn; have m2 := (h9.bel.cell (p := ⟨ob, off2 + k * 2 + 1, none⟩) hob).trans HO1.out; have H9 := hid h9; clear g9 h9))
          all_goals go_wp2_with fail
          all_goals exact ⟨⟨n + 1, Gs9, by simp, H9.out⟩, by simp [intOf]; omega⟩
end Go.Proofs.Ytccgbkafcbfcgaa
