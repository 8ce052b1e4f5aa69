/- Package codec: the reader. -/
import Derived.Test.YthfnjlfhaibbeaaDoorDcI
namespace Go.Proofs.YthfnjlfhaibbeaaDoor
open Go.RowKit

/-- The package's error value is one. -/
def ErrG (w : World) : Prop := ∃ t pv, w.cell? ⟨0, 0, none⟩ = some (.iface t pv)
/-- What is thrown. -/
def Thrown (e : Ending) : Prop := ∃ u pv, e = .panicked [{ v := .iface u pv, recovered := false }]
theorem want_t (w : World) : Calls Tryd.prog 31 #[.bool true] w fun e w' => e = .returned (.tuple #[]) ∧ w' = w := by
  go_enter Tryd.func31, Tryd.ntmps31
  go_wp2_with fail
  refine bodyPost_end (v := .tuple #[]) (by simp [results, Tryd.results31, go_sem, *]) rfl ?_
  exact ⟨rfl, rfl⟩
theorem want_f (w : World) (h : ErrG w) : Calls Tryd.prog 31 #[.bool false] w fun e w' => Thrown e ∧ w' = w := by
  obtain ⟨ty, pv, hc⟩ := h
  go_enter Tryd.func31, Tryd.ntmps31
  go_wp2_with fail
  exact ⟨rfl, ⟨_, _, rfl⟩, rfl⟩
theorem RowsK.turn0 {w w' : World} {v : Value} {n k : Nat} {cs : Nat → List Value} {S : List Nat} (h : RowsK w v n k cs) (t : Turn S w w') (hS : 0 < n → ∀ b, v.ownBlock = some b → b ∉ S) : RowsK w' v n k cs := by
  rcases Nat.eq_zero_or_pos n with h0 | h0
  · obtain ⟨ad, cap, hv, h1, h2, hp⟩ := h
    exact ⟨ad, cap, hv, h1, h2, .inl h0⟩
  · exact RowsK.turn h t (hS h0)
/-- The reader: its box, what isn't taken yet. -/
structure Rdp (w : World) (rb : Nat) (l : List UInt8) (v : Value) : Prop where
  box : Box w rb [v]
  rest : ByAt w v l
  own : 0 < l.length → ∀ b, v.ownBlock = some b → b < rb
  err : ErrG w
  ne : 0 < rb
theorem ErrG.turn {w w' : World} {S : List Nat} (h : ErrG w) (t : Turn S w w') (hS : 0 ∉ S) : ErrG w' := by
  obtain ⟨ty, pv, hc⟩ := h
  exact ⟨ty, pv, (t.cell (World.block_lt_of_cell? w _ hc) hS).trans hc⟩
theorem Rdp.next {w w' : World} {rb : Nat} {l : List UInt8} {v : Value} (h : Rdp w rb l v) (k : Below w.heap.size w w') : Rdp w' rb l v :=
  ⟨h.box.next k, RowsK.next h.rest k, h.own, h.err.turn (S := []) (Turn.of_below k) (by simp), h.ne⟩
theorem Rdp.set {w : World} {rb : Nat} {l : List UInt8} {v : Value} (h : Rdp w rb l v) {g j : Nat} {x : Value} (hg : rb < g) : Rdp (w.setCell ⟨g, j, none⟩ x) rb l v := by
  have T := cturn_set w g j x
  exact ⟨h.box.other (by omega), RowsK.turn0 h.rest T (fun h0 b hb => by have := h.own h0 b hb; simp; omega), h.own, h.err.turn T (by have := h.ne; simp; omega), h.ne⟩
/-- What a reading function does. -/
def RdQ {α : Type} (rb : Nat) (w : World) (r : Option (α × List UInt8)) (K : α → Value → World → Prop) (e : Ending) (w' : World) : Prop :=
  Turn [rb] w w' ∧ match r with
    | none => Thrown e
    | some p => ∃ x v', e = .returned x ∧ K p.1 x w' ∧ Rdp w' rb p.2 v'
/-- Bytes off the front. -/
theorem by_cut {w : World} {b off len cap : Nat} {l : List UInt8} (hv : len = l.length) (h : ByAt w (.slice (some ⟨b, off, none⟩) len cap) l) (k : Nat) (hk : k ≤ l.length) (h0 : 0 < l.length) : ByAt w (.slice (some ⟨b, off, none⟩) k k) (l.take k) ∧ ByAt w (.slice (some ⟨b, off + k, none⟩) (len - k) (cap - k)) (l.drop k) := by
  subst hv
  obtain ⟨b', off', cap', e, h1, h2, h3, h4⟩ := RowsK.open h h0
  cases e
  refine ⟨⟨some ⟨b, off, none⟩, k, by rw [List.length_take, Nat.min_eq_left hk], by rw [List.length_take, Nat.min_eq_left hk]; omega, by omega, .inr ⟨b, off, rfl, h3, fun i hi j x hj => ?_⟩⟩, ⟨some ⟨b, off + k, none⟩, cap - k, by rw [List.length_drop], by rw [List.length_drop]; omega, by omega, .inr ⟨b, off + k, rfl, h3, fun i hi j x hj => ?_⟩⟩⟩
  · have hi2 : i < k ∧ i < l.length := by simp at hi; omega
    refine h4 i hi2.2 j x ?_
    simp only [List.getD, List.getElem?_take, hi2.1, if_true] at hj ⊢
    exact hj
  · have hi2 : k + i < l.length := by simp at hi; omega
    rw [show off + k + i * 1 + j = off + (k + i) * 1 + j by omega]
    refine h4 (k + i) hi2 j x ?_
    simp only [List.getD, List.getElem?_drop] at hj ⊢
    exact hj
set_option maxHeartbeats 1000000 in
set_option maxRecDepth 20000 in
theorem cut_c (rb k : Nat) (hk : 0 < k) (hk8 : k ≤ 8) (l : List UInt8) (v : Value) (w : World) (h : Rdp w rb l v) :
    Calls Tryd.prog 32 #[.pointer (some ⟨rb, 0, none⟩), .int .i64 (k : Nat)] w (RdQ rb w (rCut k l) (fun a x w' => ByAt w' x a)) := by
  obtain ⟨ad, cap, hv, hc1, hc2⟩ := RowsK.shape h.rest
  subst hv
  have x0 := h.box.cell 0 _ rfl
  have xf := h.box.free 0 (by simp)
  have xl := h.box.lt
  by_cases hle : k ≤ l.length
  · have hle' : (k : Int) ≤ (l.length : Int) := by omega
    obtain ⟨b, off, cap', e, -, -, hbl, -⟩ := RowsK.open h.rest (show 0 < l.length by omega)
    cases e
    obtain ⟨r1, r2⟩ := by_cut rfl h.rest k hle (by omega)
    have hb : b < rb := h.own (by omega) b rfl
    have hW := chid (want_t w)
    have hr : Hid (rCut k l = some (l.take k, l.drop k)) := chid (if_pos hle)
    have HE : Hid (∀ v2, ByAt w v2 (l.drop k) → (∀ b', v2.ownBlock = some b' → b' = b) → RdQ rb w (rCut k l) (fun a x w' => ByAt w' x a) (.returned (.slice (some ⟨b, off, none⟩) k k)) (w.setCell ⟨rb, 0, none⟩ v2)) := chid (fun v2 r2 hv2 => by
      have T1 := cturn_set w rb 0 v2
      refine ⟨T1, ?_⟩
      rw [hr.out]
      refine ⟨_, _, rfl, RowsK.turn r1 T1 (fun b' hb' => ?_), ⟨h.box.set 0 (by simp) _, RowsK.turn r2 T1 (fun b' hb' => ?_), fun h0 b' hb' => ?_, h.err.turn T1 (by have := h.ne; simp; omega), h.ne⟩⟩
      · cases hb'; simp; omega
      · rw [hv2 b' hb']; simp; omega
      · rw [hv2 b' hb']; exact hb)
    have k1 : (l.length : Int) ≤ (cap : Int) := by omega
    have k2 : (k : Int) ≤ (cap : Int) := by omega
    have k3 : k ≤ cap := by omega
    by_cases hck : cap = k
    · have r3 : ByAt w (.slice (some ⟨b, off, none⟩) (l.length - k) 0) (l.drop k) := ⟨some ⟨b, off, none⟩, 0, by rw [List.length_drop], by rw [List.length_drop]; omega, by omega, .inl (by rw [List.length_drop]; omega)⟩
      have HF := chid (HE.out _ r3 (fun b' hb' => by cases hb'; rfl))
      clear h hr r1 r2 r3 hb HE
      generalize RdQ rb w (rCut k l) (fun a x w' => ByAt w' x a) = Post at *
      go_enter Tryd.func32, Tryd.ntmps32
      go_wp2_with fail
      refine Calls.mono hW.out ?_
      rintro e w1 ⟨rfl, rfl⟩
      go_wp2_with fail
      exact HF.out
    · have HF := chid (HE.out _ r2 (fun b' hb' => by cases hb'; rfl))
      clear h hr r1 r2 hb HE
      generalize RdQ rb w (rCut k l) (fun a x w' => ByAt w' x a) = Post at *
      go_enter Tryd.func32, Tryd.ntmps32
      go_wp2_with fail
      refine Calls.mono hW.out ?_
      rintro e w1 ⟨rfl, rfl⟩
      go_wp2_with fail
      exact HF.out
  · have hle' : ¬ (k : Int) ≤ (l.length : Int) := by omega
    have hr : Hid (rCut k l = none) := chid (if_neg hle)
    have hW := chid (want_f w h.err)
    have HE : Hid (∀ e, Thrown e → RdQ rb w (rCut k l) (fun a x w' => ByAt w' x a) e w) := chid (fun e he => ⟨Turn.refl _ _, by rw [hr.out]; exact he⟩)
    generalize RdQ rb w (rCut k l) (fun a x w' => ByAt w' x a) = Post at *
    clear h hr
    go_enter Tryd.func32, Tryd.ntmps32
    go_wp2_with fail
    refine Calls.mono hW.out ?_
    rintro e w1 ⟨⟨u, pv, rfl⟩, rfl⟩
    go_wp2_with fail
    exact ⟨rfl, HE.out _ ⟨u, pv, rfl⟩⟩
theorem or_byte (n c : Nat) (hn : n < 72057594037927936) (hc : c < 256) : bits .or .u64 ((n : Int) * 256) (c : Int) = (n : Int) * 256 + (c : Int) := by
  have h := bits_or_u64_nat (n * 256) c (by omega) (by omega)
  have e : (n * 256) ||| c = n * 256 + c := by
    have := Nat.two_pow_add_eq_or_of_lt (i := 8) (b := c) (by omega) n
    rw [show 2 ^ 8 * n = n * 256 by omega] at this
    exact this.symm
  rw [e] at h
  simpa using h
set_option maxHeartbeats 1000000 in
set_option maxRecDepth 20000 in
theorem rnumber_c (rb k : Nat) (hk : 0 < k) (hk8 : k ≤ 8) (l : List UInt8) (v : Value) (w : World) (h : Rdp w rb l v) :
    Calls Tryd.prog 59 #[.pointer (some ⟨rb, 0, none⟩), .int .i64 (k : Nat)] w (RdQ rb w (rNum k l) (fun a x _ => x = .int .u64 (a : Nat))) := by
  have HC := chid (cut_c rb k hk hk8 l v w h)
  have HE : Hid (∀ e w', rNum k l = none → Thrown e → Turn [rb] w w' → RdQ rb w (rNum k l) (fun a x _ => x = .int .u64 (a : Nat)) e w') := chid (fun e w' hn he t => ⟨t, by rw [hn]; exact he⟩)
  have HO : Hid (∀ a l' x v' w', rNum k l = some (a, l') → x = .int .u64 (a : Nat) → Rdp w' rb l' v' → Turn [rb] w w' → RdQ rb w (rNum k l) (fun a x _ => x = .int .u64 (a : Nat)) (.returned x) w') := chid (fun a l' x v' w' hn hx hr t => ⟨t, by rw [hn]; exact ⟨x, v', rfl, hx, hr⟩⟩)
  generalize RdQ rb w (rNum k l) (fun a x _ => x = .int .u64 (a : Nat)) = Post at *
  go_enter Tryd.func59, Tryd.ntmps59
  go_wp2_with fail
  refine Calls.mono HC.out ?_
  rintro e w1 ⟨t1, h1⟩
  cases hc : rCut k l with
  | none =>
    rw [hc] at h1
    obtain ⟨u, pv, rfl⟩ := h1
    have hn : rNum k l = none := by unfold rNum; rw [hc]; rfl
    go_wp2_with fail
    exact ⟨rfl, HE.out _ _ hn ⟨u, pv, rfl⟩ t1⟩
  | some p =>
    rw [hc] at h1
    obtain ⟨x, v', rfl, h2, h3⟩ := h1
    have hn : rNum k l = some (beW p.1, p.2) := by unfold rNum; rw [hc]; rfl
    have hl : p.1.length = k := (cut_bwd hc).2
    obtain ⟨ad, cap, hv, hc1, hc2⟩ := RowsK.shape h2
    subst hv
    have HL := chid h2
    have HF := chid (fun x hx => HO.out _ _ x _ _ hn hx h3 t1)
    clear h2 hc hn h3 t1
    go_wp2_with fail
    go_loopw [5, 12] (fun r i wr => ∃ (j : Nat), i = .int .i64 (j : Nat) ∧ j ≤ k ∧ r = .int .u64 (beW (p.1.take j) : Nat) ∧ wr = w1) (fun _ i _ => match i with | .int _ z => ((k : Int) - z).toNat | _ => 0)
    case atStart => exact ⟨0, rfl, by omega, rfl, rfl⟩
    case round =>
      obtain ⟨j, rfl, hj, rfl, rfl⟩ := hrel
      by_cases hlt : j < k
      · have hlt' : (j : Int) < (k : Int) := by omega
        obtain ⟨b, off, cap', hv, -, -, hbl, hx⟩ := RowsK.open HL.out (show 0 < p.1.length by omega)
        cases hv
        have z0 : wr.cell? ⟨b, off + j, none⟩ = some (.int .u8 ((p.1.getD j 0).toNat : Nat)) := by
          have := hx j (by omega) 0 _ rfl
          rwa [show off + j * 1 + 0 = off + j by omega] at this
        have hjl : j < p.1.length := by omega
        have hg : p.1.getD j 0 = p.1[j] := by simp [List.getD, hjl]
        have hn : beW (p.1.take (j + 1)) = beW (p.1.take j) * 256 + (p.1.getD j 0).toNat := by rw [List.take_succ_eq_append_getElem hjl, beW_snoc, hg]
        have hb0 : beW (p.1.take j) < 72057594037927936 := by
          have := beW_lt (p.1.take j)
          have h2 : (256 : Nat) ^ (p.1.take j).length ≤ 256 ^ 7 := Nat.pow_le_pow_right (by decide) (by rw [List.length_take]; omega)
          have h3 : (256 : Nat) ^ 7 = 72057594037927936 := by decide
          omega
        have hc0 : (p.1.getD j 0).toNat < 256 := UInt8.toNat_lt _
        have hor := or_byte (beW (p.1.take j)) (p.1.getD j 0).toNat hb0 hc0
        have hN := chid hn
        clear hx hg hn
        generalize beW (p.1.take j) = n at *
        generalize (p.1.getD j 0).toNat = c at *
        have hws : IntKind.u64.wrap ((n : Int) * 2 ^ 8) = (n : Int) * 256 := by rw [IntKind.wrap_u64]; omega
        have hwc : IntKind.u64.wrap (c : Int) = (c : Int) := by rw [IntKind.wrap_u64]; omega
        go_wp2_with fail
        go_roundw
        case rel => exact ⟨j + 1, by go_num, by omega, by rw [hN.out]; simp, by trivial⟩
        case measure => simp; omega
      · have hlt' : ¬ (j : Int) < (k : Int) := by omega
        obtain rfl : j = k := by omega
        rw [show p.1.take j = p.1 from List.take_of_length_le (by omega)]
        go_wp2_with fail
        exact HF.out _ rfl
end Go.Proofs.YthfnjlfhaibbeaaDoor
