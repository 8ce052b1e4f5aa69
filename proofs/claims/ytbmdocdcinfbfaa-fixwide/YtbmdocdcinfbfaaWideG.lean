/- What the statement FixWide's rounds find in memory, and how each step turns it. -/
import Derived.Test.YtbmdocdcinfbfaaWideA
import Derived.Test.YtbmdocdcinfbfaaRef9
namespace Go.Proofs.Ytbmdocdcinfbfaa
open Go.RowKit Go.Deep

/-- The wide sum at B stands for Nw, the document's at B + 1 for Ns, the copy at G for No. -/
structure WG (B G : Nat) (lo hi Nw : Int) (neg : Bool) (sv : Value) (l : List Int) (Ns ol oh No : Int) (w : World) : Prop where
  c0 : w.cell? ⟨B, 0, none⟩ = some (.int .u64 lo)
  c1 : w.cell? ⟨B, 1, none⟩ = some (.int .u64 hi)
  f0 : w.frozen? ⟨B, 0, none⟩ = false
  f1 : w.frozen? ⟨B, 1, none⟩ = false
  s0 : w.cell? ⟨B + 1, 0, none⟩ = some (.bool neg)
  s1 : w.cell? ⟨B + 1, 1, none⟩ = some sv
  g0 : w.frozen? ⟨B + 1, 0, none⟩ = false
  g1 : w.frozen? ⟨B + 1, 1, none⟩ = false
  o0 : w.cell? ⟨G, 0, none⟩ = some (.int .u64 ol)
  o1 : w.cell? ⟨G, 1, none⟩ = some (.int .u64 oh)
  p0 : w.frozen? ⟨G, 0, none⟩ = false
  p1 : w.frozen? ⟨G, 1, none⟩ = false
  rep : Rep lo hi Nw
  big : BigV w neg sv l Ns
  ro : Rep ol oh No
  z1 : B + 1 < G
  z2 : G < w.heap.size

/-- What holds ahead of each round. -/
structure WI (B k : Nat) (lo hi N : Int) (neg : Bool) (sv : Value) (l : List Int) (wr : World) : Prop where
  c0 : wr.cell? ⟨B, 0, none⟩ = some (.int .u64 lo)
  c1 : wr.cell? ⟨B, 1, none⟩ = some (.int .u64 hi)
  f0 : wr.frozen? ⟨B, 0, none⟩ = false
  f1 : wr.frozen? ⟨B, 1, none⟩ = false
  s0 : wr.cell? ⟨B + 1, 0, none⟩ = some (.bool neg)
  s1 : wr.cell? ⟨B + 1, 1, none⟩ = some sv
  g0 : wr.frozen? ⟨B + 1, 0, none⟩ = false
  g1 : wr.frozen? ⟨B + 1, 1, none⟩ = false
  rep : Rep lo hi N
  big : BigV wr neg sv l N
  lo' : -((k : Int) * 9223372036854775808) ≤ N
  hi' : N ≤ (k : Int) * 9223372036854775808
  sz : B + 1 < wr.heap.size

theorem BigV.setCell {w : World} {neg : Bool} {s : Value} {l : List Int} {n : Int} (h : BigV w neg s l n) {p : Addr} (u : Value) (hp : ∀ x, w.cell? p ≠ some (.int .i64 x)) : BigV (w.setCell p u) neg s l n := ⟨h.isD.setCell u hp, h.dg, h.tr, h.num⟩
theorem co {w : World} {p q : Addr} (u : Value) (h : p ≠ q) : (w.setCell p u).cell? q = w.cell? q := World.cell?_setCell_other _ _ _ _ h
theorem cs {w : World} {p : Addr} {v : Value} (u : Value) (h : w.cell? p = some v) : (w.setCell p u).cell? p = some u := World.cell?_setCell_same _ _ _ h
theorem fo {w : World} (p q : Addr) (u : Value) : (w.setCell p u).frozen? q = w.frozen? q := World.frozen?_setCell _ _ _ _

theorem WG.start {B k : Nat} {lo hi N : Int} {neg : Bool} {sv : Value} {l : List Int} {wr : World} (h : WI B k lo hi N neg sv l wr) :
    WG B wr.heap.size lo hi N neg sv l N lo hi N (wr.alloc (.cells #[.int .u64 lo, .int .u64 hi] 36)) := by
  have hb : Below wr.heap.size wr (wr.alloc (.cells #[.int .u64 lo, .int .u64 hi] 36)) := (Below.refl _ _).alloc (Nat.le_refl _) _
  have z := h.sz
  exact ⟨(hb.cell (p := ⟨B, 0, none⟩) (by simp; omega)).trans h.c0, (hb.cell (p := ⟨B, 1, none⟩) (by simp; omega)).trans h.c1, (hb.frozen (p := ⟨B, 0, none⟩) (by simp; omega)).trans h.f0, (hb.frozen (p := ⟨B, 1, none⟩) (by simp; omega)).trans h.f1,
    (hb.cell (p := ⟨B + 1, 0, none⟩) z).trans h.s0, (hb.cell (p := ⟨B + 1, 1, none⟩) z).trans h.s1, (hb.frozen (p := ⟨B + 1, 0, none⟩) z).trans h.g0, (hb.frozen (p := ⟨B + 1, 1, none⟩) z).trans h.g1,
    by simp [go_sem], by simp [go_sem], by simp [go_sem], by simp [go_sem], h.rep, h.big.later hb, h.rep, z, by simp⟩
theorem WG.later {B G : Nat} {lo hi Nw : Int} {neg : Bool} {sv : Value} {l : List Int} {Ns ol oh No : Int} {w w' : World} (h : WG B G lo hi Nw neg sv l Ns ol oh No w) (hb : Below w.heap.size w w') : WG B G lo hi Nw neg sv l Ns ol oh No w' := by
  have z1 := h.z1
  have z2 := h.z2
  have zs := hb.size
  exact ⟨(hb.cell (p := ⟨B, 0, none⟩) (by simp; omega)).trans h.c0, (hb.cell (p := ⟨B, 1, none⟩) (by simp; omega)).trans h.c1, (hb.frozen (p := ⟨B, 0, none⟩) (by simp; omega)).trans h.f0, (hb.frozen (p := ⟨B, 1, none⟩) (by simp; omega)).trans h.f1,
    (hb.cell (p := ⟨B + 1, 0, none⟩) (by simp; omega)).trans h.s0, (hb.cell (p := ⟨B + 1, 1, none⟩) (by simp; omega)).trans h.s1, (hb.frozen (p := ⟨B + 1, 0, none⟩) (by simp; omega)).trans h.g0, (hb.frozen (p := ⟨B + 1, 1, none⟩) (by simp; omega)).trans h.g1,
    (hb.cell (p := ⟨G, 0, none⟩) z2).trans h.o0, (hb.cell (p := ⟨G, 1, none⟩) z2).trans h.o1, (hb.frozen (p := ⟨G, 0, none⟩) z2).trans h.p0, (hb.frozen (p := ⟨G, 1, none⟩) z2).trans h.p1, h.rep, h.big.later hb, h.ro, z1, by omega⟩
theorem ne_blk {b c o p : Nat} (h : b ≠ c) : (⟨b, o, none⟩ : Addr) ≠ ⟨c, p, none⟩ := by intro e; cases e; exact h rfl
theorem ne_off {b o p : Nat} (h : o ≠ p) : (⟨b, o, none⟩ : Addr) ≠ ⟨b, p, none⟩ := by intro e; cases e; exact h rfl
theorem WG.putW {B G : Nat} {lo hi Nw : Int} {neg : Bool} {sv : Value} {l : List Int} {Ns ol oh No : Int} {w : World} (h : WG B G lo hi Nw neg sv l Ns ol oh No w) {lo2 hi2 N2 : Int} (r : Rep lo2 hi2 N2) :
    WG B G lo2 hi2 N2 neg sv l Ns ol oh No ((w.setCell ⟨B, 0, none⟩ (.int .u64 lo2)).setCell ⟨B, 1, none⟩ (.int .u64 hi2)) := by
  have z1 := h.z1
  have z2 := h.z2
  have n1 : B ≠ B + 1 := by omega
  have n2 : B ≠ G := by omega
  have m1 : (w.setCell ⟨B, 0, none⟩ (.int .u64 lo2)).cell? ⟨B, 1, none⟩ = some (.int .u64 hi) := (co _ (ne_off (by decide))).trans h.c1
  refine ⟨(co _ (ne_off (by decide))).trans (cs _ h.c0), cs _ m1, ?_, ?_, ?_, ?_, ?_, ?_, ?_, ?_, ?_, ?_, r, ?_, h.ro, z1, by simpa [World.setCell] using z2⟩
  · rw [fo, fo]; exact h.f0
  · rw [fo, fo]; exact h.f1
  · rw [co _ (ne_blk n1), co _ (ne_blk n1)]; exact h.s0
  · rw [co _ (ne_blk n1), co _ (ne_blk n1)]; exact h.s1
  · rw [fo, fo]; exact h.g0
  · rw [fo, fo]; exact h.g1
  · rw [co _ (ne_blk n2), co _ (ne_blk n2)]; exact h.o0
  · rw [co _ (ne_blk n2), co _ (ne_blk n2)]; exact h.o1
  · rw [fo, fo]; exact h.p0
  · rw [fo, fo]; exact h.p1
  · exact (h.big.setCell _ (fun x e => by rw [h.c0] at e; cases e)).setCell _ (fun x e => by rw [m1] at e; cases e)
theorem WG.putS {B G : Nat} {lo hi Nw : Int} {neg : Bool} {sv : Value} {l : List Int} {Ns ol oh No : Int} {w : World} (h : WG B G lo hi Nw neg sv l Ns ol oh No w) {neg2 : Bool} {sv2 : Value} {l2 : List Int} {N2 : Int} (r : BigV w neg2 sv2 l2 N2) :
    WG B G lo hi Nw neg2 sv2 l2 N2 ol oh No ((w.setCell ⟨B + 1, 0, none⟩ (.bool neg2)).setCell ⟨B + 1, 1, none⟩ sv2) := by
  have z1 := h.z1
  have z2 := h.z2
  have n1 : B + 1 ≠ B := by omega
  have n2 : B + 1 ≠ G := by omega
  have m1 : (w.setCell ⟨B + 1, 0, none⟩ (.bool neg2)).cell? ⟨B + 1, 1, none⟩ = some sv := (co _ (ne_off (by decide))).trans h.s1
  obtain ⟨aa, ca, hsv, _⟩ := h.big.isD
  refine ⟨?_, ?_, ?_, ?_, (co _ (ne_off (by decide))).trans (cs _ h.s0), cs _ m1, ?_, ?_, ?_, ?_, ?_, ?_, h.rep, ?_, h.ro, z1, by simpa [World.setCell] using z2⟩
  · rw [co _ (ne_blk n1), co _ (ne_blk n1)]; exact h.c0
  · rw [co _ (ne_blk n1), co _ (ne_blk n1)]; exact h.c1
  · rw [fo, fo]; exact h.f0
  · rw [fo, fo]; exact h.f1
  · rw [fo, fo]; exact h.g0
  · rw [fo, fo]; exact h.g1
  · rw [co _ (ne_blk n2), co _ (ne_blk n2)]; exact h.o0
  · rw [co _ (ne_blk n2), co _ (ne_blk n2)]; exact h.o1
  · rw [fo, fo]; exact h.p0
  · rw [fo, fo]; exact h.p1
  · exact (r.setCell _ (fun x e => by rw [h.s0] at e; cases e)).setCell _ (fun x e => by rw [m1, hsv] at e; cases e)
theorem WG.next {B G k : Nat} {lo hi N : Int} {neg : Bool} {sv : Value} {l : List Int} {ol oh No : Int} {w : World} (h : WG B G lo hi N neg sv l N ol oh No w) (u0 u1 : Value) (hl : -((k : Int) * 9223372036854775808) ≤ N) (hh : N ≤ (k : Int) * 9223372036854775808) :
    WI B k lo hi N neg sv l ((w.setCell ⟨G, 0, none⟩ u0).setCell ⟨G, 1, none⟩ u1) := by
  have z1 := h.z1
  have z2 := h.z2
  have n1 : G ≠ B := by omega
  have n2 : G ≠ B + 1 := by omega
  have m1 : (w.setCell ⟨G, 0, none⟩ u0).cell? ⟨G, 1, none⟩ = some (.int .u64 oh) := (co _ (ne_off (by decide))).trans h.o1
  refine ⟨?_, ?_, ?_, ?_, ?_, ?_, ?_, ?_, h.rep, ?_, hl, hh, by simp [World.setCell]; omega⟩
  · rw [co _ (ne_blk n1), co _ (ne_blk n1)]; exact h.c0
  · rw [co _ (ne_blk n1), co _ (ne_blk n1)]; exact h.c1
  · rw [fo, fo]; exact h.f0
  · rw [fo, fo]; exact h.f1
  · rw [co _ (ne_blk n2), co _ (ne_blk n2)]; exact h.s0
  · rw [co _ (ne_blk n2), co _ (ne_blk n2)]; exact h.s1
  · rw [fo, fo]; exact h.g0
  · rw [fo, fo]; exact h.g1
  · exact (h.big.setCell _ (fun x e => by rw [h.o0] at e; cases e)).setCell _ (fun x e => by rw [m1] at e; cases e)
end Go.Proofs.Ytbmdocdcinfbfaa
