/- Items in memory. -/
import Derived.Test.YtecdfnpbcabdnaaGreatDoorTqA
import Derived.Test.YtecdfnpbcabdnaaGreatDoorTrM
import Derived.Deep.WholeRow
import Derived.Laws.CopyOwn
namespace Go.Proofs.YtecdfnpbcabdnaaGreatDoor
open Go.RowKit

abbrev itC (i : It) (vx vy : Value) : List Value := [.int .i64 i.kind, .string i.name, .string i.unit, .int .i64 i.a, .int .i64 i.b, .int .i64 i.c, .int .i64 i.x.kind, .string i.x.text, .int .i64 i.x.n, .int .i64 i.x.m, .int .i64 i.x.pl, vx, .int .i64 i.y.kind, .string i.y.text, .int .i64 i.y.n, .int .i64 i.y.m, .int .i64 i.y.pl, vy, .int .i64 i.pl]
abbrev itA (i : It) (vx vy : Value) : Value := .agg #[.int .i64 i.kind, .string i.name, .string i.unit, .int .i64 i.a, .int .i64 i.b, .int .i64 i.c, .int .i64 i.x.kind, .string i.x.text, .int .i64 i.x.n, .int .i64 i.x.m, .int .i64 i.x.pl, vx, .int .i64 i.y.kind, .string i.y.text, .int .i64 i.y.n, .int .i64 i.y.m, .int .i64 i.y.pl, vy, .int .i64 i.pl]
/-- What an item's terms hold lies in memory; no text is longer than z. -/
structure ItAt (z : Nat) (w : World) (i : It) (vx vy : Value) : Prop where
  sx : Sits z w i.x vx
  sy : Sits z w i.y vy
  nm : i.name.size ≤ z
  un : i.unit.size ≤ z
theorem ItAt.next {z : Nat} {w w' : World} {i : It} {vx vy : Value} (h : ItAt z w i vx vy) (hb : Below w.heap.size w w') : ItAt z w' i vx vy := ⟨h.sx.next hb, h.sy.next hb, h.nm, h.un⟩
/-- The items l lie in the slice v. -/
def IAt (z : Nat) (w : World) (v : Value) (l : List It) : Prop := ∃ ad cap, v = .slice ad l.length cap ∧ l.length ≤ cap ∧ cap ≤ 9223372036854775807 ∧
      (l.length = 0 ∨ ∃ b off, ad = some ⟨b, off, none⟩ ∧ b < w.heap.size ∧ ∀ i (h : i < l.length), ∃ vx vy, (∀ q u, (itC l[i] vx vy)[q]? = some u → w.cell? ⟨b, off + i * 19 + q, none⟩ = some u) ∧ ItAt z w l[i] vx vy)
theorem IAt.shape {z : Nat} {w : World} {v : Value} {l : List It} (h : IAt z w v l) : ∃ ad cap, v = .slice ad l.length cap ∧ l.length ≤ cap ∧ cap ≤ 9223372036854775807 := by
  obtain ⟨ad, cap, hv, h1, h2, _⟩ := h
  exact ⟨ad, cap, hv, h1, h2⟩
theorem IAt.next {z : Nat} {w w' : World} {v : Value} {l : List It} (h : IAt z w v l) (hb : Below w.heap.size w w') : IAt z w' v l := by
  obtain ⟨ad, cap, hv, h1, h2, hp⟩ := h
  refine ⟨ad, cap, hv, h1, h2, ?_⟩
  rcases hp with hp | ⟨b, off, ha, hlt, hp⟩
  · exact .inl hp
  · refine .inr ⟨b, off, ha, Nat.lt_of_lt_of_le hlt hb.size, fun i hi => ?_⟩
    obtain ⟨vx, vy, hc, hi2⟩ := hp i hi
    exact ⟨vx, vy, fun q u hu => (hb.cell (p := ⟨b, off + i * 19 + q, none⟩) hlt).trans (hc q u hu), hi2.next hb⟩
theorem IAt.open {z : Nat} {w : World} {v : Value} {l : List It} (h : IAt z w v l) (hn : 0 < l.length) : ∃ b off cap, v = .slice (some ⟨b, off, none⟩) l.length cap ∧ l.length ≤ cap ∧ cap ≤ 9223372036854775807 ∧ b < w.heap.size ∧
    ∀ i (h : i < l.length), ∃ vx vy, (∀ q u, (itC l[i] vx vy)[q]? = some u → w.cell? ⟨b, off + i * 19 + q, none⟩ = some u) ∧ ItAt z w l[i] vx vy := by
  obtain ⟨ad, cap, hv, hl, hc, hp⟩ := h
  rcases hp with hp | ⟨b, off, rfl, hlt, hp⟩
  · omega
  · exact ⟨b, off, cap, hv, hl, hc, hlt, hp⟩
/-- A row of cells read whole, from whatever place. -/
theorem ld_at {w : World} {b o : Nat} {L : List Value} {X : Array Value} (h : ∀ q u, L[q]? = some u → w.cell? ⟨b, o + q, none⟩ = some u) (hX : X = L.toArray) {n : Nat} (hn : n = L.length) : (loadCellsFrom ⟨b, o, none⟩ 0 n #[]).run Tryz.prog w = .ok X w := by
  subst hn hX
  have := run_loadCells_list (P := Tryz.prog) w ⟨b, o, none⟩ L (fun j v hv => by
    have hadd : (⟨b, o, none⟩ : Addr).add j = ⟨b, o + j, none⟩ := by unfold Addr.add; split <;> simp_all
    rw [hadd]
    exact h j v hv)
  simpa [loadCells] using this
def zeroI : Array Value := #[.int .i64 0, .string ⟨#[]⟩, .string ⟨#[]⟩, .int .i64 0, .int .i64 0, .int .i64 0, .int .i64 0, .string ⟨#[]⟩, .int .i64 0, .int .i64 0, .int .i64 0, .slice none 0 0, .int .i64 0, .string ⟨#[]⟩, .int .i64 0, .int .i64 0, .int .i64 0, .slice none 0 0, .int .i64 0]
theorem info_it : (Tryz.prog.info? 53).map (fun i => (i.zero, i.size)) = some (some (.agg zeroI), 19) := by kernel_rfl
theorem st_it (w : World) {X : Array Value} (hs : X.size = 19) (h1 : X.all (·.oneCell') = true) : (storeCells ⟨w.heap.size, 0, none⟩ X.toList 0).run Tryz.prog (w.alloc (.cells zeroI 53)) = .ok () (w.alloc (.cells X 53)) :=
  run_storeCells_new (P := Tryz.prog) w 53 zeroI X (by rw [hs]; exact (zero_of_info info_it).2) (by rw [hs]; rfl) h1
theorem itC_one {z : Nat} {w : World} {i : It} {vx vy : Value} (h : ItAt z w i vx vy) : (itC i vx vy).toArray.all (·.oneCell') = true := by
  obtain ⟨a1, c1, rfl, -, -⟩ := h.sx.parts.shape
  obtain ⟨a2, c2, rfl, -, -⟩ := h.sy.parts.shape
  kernel_rfl
theorem ld_bx {w : World} {g : Nat} {L : List Value} {X : Array Value} (h : Box w g L) (hX : X = L.toArray) {n : Nat} (hn : n = L.length) : (loadCellsFrom ⟨g, 0, none⟩ 0 n #[]).run Tryz.prog w = .ok X w :=
  ld_at (fun q u hu => by rw [Nat.zero_add]; exact h.cell q u hu) hX hn
end Go.Proofs.YtecdfnpbcabdnaaGreatDoor
