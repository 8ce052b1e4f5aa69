/- A list of numbers among the arguments, laid open; the law CoreLadders as its frame wants it. -/
import Derived.Test.YtaombbbblgfgdaaGreatDoorClW
import Derived.Test.YtaombbbblgfgdaaGreatDoorMgO
namespace Go.Proofs.YtaombbbblgfgdaaGreatDoor
open Go.ChangeShapes Go.WideShapes Go.RowKit Go.Deep Go.ChangeMaps
set_option maxRecDepth 100000

section
variable {H : Type} {enc : TypeId × Value → H} {W : World} {base : Nat} {sp : Nat → Bool} {held : Bool}
theorem one_i64 (fuel : Nat) (cs : List Value) (x : DataW H × List MemPlace) (hf : DataW.trod enc Tryz.prog W base sp held fuel 2 cs = some x) : ∃ a : Int, cs = [.int .i64 a] ∧ C64 a := by
  obtain ⟨a, e, -, w⟩ := DataW.trod_int Tryz.underlying2 hf
  exact ⟨a, e, in64 w⟩
theorem open_intsarg {r : Reach} {b0 : Nat} {v : Value} {d : DataW H} {ps : List MemPlace} (hval : Value.okWide Tryz.prog W r b0 49 v) (hd : DataW.Trod enc Tryz.prog W base sp held 49 v d ps) : ∃ (l : List Int) (bs : Option Addr) (cap : Nat), v = .slice bs l.length cap ∧ l.length ≤ 9223372036854775807 ∧ ∀ i (h : i < l.length), C64 l[i] ∧ ∃ b off, bs = some ⟨b, off, none⟩ ∧ W.cell? ⟨b, off + i, none⟩ = some (.int .i64 l[i]) := by
  have hv1 : v.cells.toList = [v] := by
    cases v with
    | agg cs => simp only [Value.okWide, Cell.okWide, Tryz.underlying49] at hval; unfold Cell.ok at hval; simp [Tryz.underlying49] at hval
    | _ => rfl
  obtain ⟨fuel, hf⟩ := hd
  rw [hv1] at hf
  obtain ⟨l, h1, ad, cap, h2, h3, h4, h5⟩ := open_rows (τ := 49) (e := 2) (0 : Int) C64 (by unfold C64; decide) (fun a => [.int .i64 a]) 1 (by decide) Tryz.underlying49 ce_int64 (fun _ => rfl) one_i64 hf
  refine ⟨l, ad, cap, h2, by omega, fun i hi => ⟨h1 _ (List.getElem_mem hi), ?_⟩⟩
  rcases h5 with h5 | ⟨b, off, e, hb, h6⟩
  · omega
  · refine ⟨b, off, e, ?_⟩
    have := h6 i hi 0 (.int .i64 (l.getD i 0)) rfl
    simpa [List.getD, hi] using this
end
theorem coreLadders_c (v : Int) (l : List Int) (bs : Option Addr) (cap : Nat) (rep : Int) (w : World) (hl : l.length ≤ 9223372036854775807) (hc : ∀ i (h : i < l.length), C64 l[i] ∧ ∃ b off, bs = some ⟨b, off, none⟩ ∧ w.cell? ⟨b, off + i, none⟩ = some (.int .i64 l[i])) (hF : FldAt w) (hg : GlE w) (hv : C64 v) (h0 : 0 ≤ rep) (h1 : rep ≤ 65535) : Calls Tryz.prog 5 #[.int .i64 v, .slice bs l.length cap, .int .u16 rep] w fun e w' => e = .returned (.bool true) ∧ Below w.heap.size w w' := by
  obtain ⟨n, rfl⟩ := Int.eq_ofNat_of_zero_le h0
  exact coreLadders_w v hv l n (by omega) bs cap w hl hc hF hg
end Go.Proofs.YtaombbbblgfgdaaGreatDoor
