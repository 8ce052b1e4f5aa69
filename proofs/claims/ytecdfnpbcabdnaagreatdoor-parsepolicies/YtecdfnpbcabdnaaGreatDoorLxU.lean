/- Package lex: the cuts, tried one behind the other. -/
import Derived.Test.YtecdfnpbcabdnaaGreatDoorLxM
import Derived.Test.YtecdfnpbcabdnaaGreatDoorLxO
import Derived.Test.YtecdfnpbcabdnaaGreatDoorLxS
namespace Go.Proofs.YtecdfnpbcabdnaaGreatDoor
open Go.RowKit Go.Lib

theorem enc_kind {k : Int} {nv : List UInt8} {d : UInt8} {s : ByteArray} {i : Nat} {te : Tk × Nat} (hk : k ≠ 0) (h : encT k nv d s i = .ok te) : te.1.kind ≠ 0 := by
  unfold encT at h
  split at h
  · cases h; exact hk
  · cases h
theorem enc_err {k : Int} {nv : List UInt8} {d : UInt8} {s : ByteArray} {i : Nat} {e : Int} (h : encT k nv d s i = .error e) : e ≠ 0 := by
  unfold encT at h
  split at h
  · cases h
  · cases h; decide
theorem word_kind {s : ByteArray} {i : Nat} {te : Tk × Nat} (h : wordT s i = .ok te) : te.1.kind ≠ 0 := by
  unfold wordT at h
  split at h
  · cases h; simp
  · split at h
    · cases h; simp
    · cases h
theorem word_err {s : ByteArray} {i : Nat} {e : Int} (h : wordT s i = .error e) : e ≠ 0 := by
  unfold wordT at h
  split at h
  · cases h
  · split at h
    · cases h
    · cases h; decide
theorem val_kind {k : Int} {s : ByteArray} {i e : Nat} {o : Option Nat} {te : Tk × Nat} (hk : k ≠ 0) (h : valT k s i e o = .ok te) : te.1.kind ≠ 0 := by
  cases o with
  | none => cases h
  | some v => cases h; exact hk
theorem val_err {k : Int} {s : ByteArray} {i e : Nat} {o : Option Nat} {q : Int} (h : valT k s i e o = .error q) : q ≠ 0 := by
  cases o with
  | none => cases h; decide
  | some v => cases h
theorem num_kind {s : ByteArray} {i : Nat} {te : Tk × Nat} (h : numT s i = .ok te) : te.1.kind ≠ 0 := by
  unfold numT at h
  split at h
  · exact val_kind (by decide) h
  · exact val_kind (by decide) h
theorem num_err {s : ByteArray} {i : Nat} {e : Int} (h : numT s i = .error e) : e ≠ 0 := by
  unfold numT at h
  split at h
  · exact val_err h
  · exact val_err h
theorem sig_kind {s : ByteArray} {i : Nat} {te : Tk × Nat} (h : sigT s i = .ok te) : te.1.kind ≠ 0 := by
  unfold sigT at h
  split at h
  · cases h; simp
  · split at h
    · cases h; simp
    · cases h
theorem sig_own {s : ByteArray} {i : Nat} (h : (two (s.get! i) (s.get! (i + 1)) || one (s.get! i)) = true) : ∃ te, sigT s i = .ok te := by
  unfold sigT
  split
  · exact ⟨_, rfl⟩
  · split
    · exact ⟨_, rfl⟩
    · rename_i h1 h2
      rw [Bool.or_eq_true] at h
      rcases h with h | h
      · exact absurd h h1
      · exact absurd h h2
theorem sig_none {s : ByteArray} {i : Nat} (h : (two (s.get! i) (s.get! (i + 1)) || one (s.get! i)) = false) : sigT s i = .error 12 := by
  rw [Bool.or_eq_false_iff] at h
  unfold sigT
  rw [if_neg (by rw [h.1]; decide), if_neg (by rw [h.2]; decide)]
/-- While the cuts are tried: the reader, the place of the answer, the cuts. -/
def cutsV (b : Nat) : List Value := [.func (.func 90) #[.pointer (some ⟨b, 0, none⟩)] #[], .func (.func 91) #[.pointer (some ⟨b, 0, none⟩)] #[], .func (.func 92) #[.pointer (some ⟨b, 0, none⟩)] #[], .func (.func 93) #[.pointer (some ⟨b, 0, none⟩)] #[], .func (.func 94) #[.pointer (some ⟨b, 0, none⟩)] #[]]
structure Sf (w W : World) (b g i : Nat) (s : ByteArray) (vs : List Value) : Prop where
  rd : Rdr W b s i
  rb : Box W w.heap.size vs
  cu : Box W g (cutsV b)
  trn : Turn [b] w W
  lt : b < w.heap.size
  gb : g ≠ b
  gl : g < w.heap.size
theorem Sf.made {w : World} {b g i : Nat} {s : ByteArray} (h : Rdr w b s i) (c : Box w g (cutsV b)) (hg : g ≠ b) (t : TypeId) : Sf w (w.alloc (.cells zs.toArray t)) b g i s zs :=
  have k : Below w.heap.size w (w.alloc (.cells zs.toArray t)) := (Below.refl _ _).alloc (Nat.le_refl _) _
  ⟨h.next k, Box.new w zs t, c.next k, Turn.of_below k, h.lt, hg, c.lt⟩
theorem Sf.next {w W W' : World} {b g i : Nat} {s : ByteArray} {vs : List Value} (h : Sf w W b g i s vs) (k : Below W.heap.size W W') : Sf w W' b g i s vs := ⟨h.rd.next k, h.rb.next k, h.cu.next k, h.trn.andBelow k, h.lt, h.gb, h.gl⟩
theorem Sf.moved {w W W' : World} {b g i e : Nat} {s : ByteArray} {vs : List Value} (h : Sf w W b g i s vs) (m : Moved W b s e W') : Sf w W' b g e s vs := by
  have hn : w.heap.size ∉ [b] := by have := h.lt; simp; omega
  exact ⟨m.1, h.rb.turn m.2 hn, h.cu.turn m.2 (by simpa using h.gb), h.trn.trans m.2 (fun i hi => .inl hi), h.lt, h.gb, h.gl⟩
theorem Sf.fin {w W : World} {b g i : Nat} {s : ByteArray} {u0 u1 u2 u3 : Value} (h : Sf w W b g i s [u0, u1, u2, u3]) (v0 v1 v2 v3 : Value) : Moved w b s i ((((W.setCell ⟨w.heap.size, 0, none⟩ v0).setCell ⟨w.heap.size, 1, none⟩ v1).setCell ⟨w.heap.size, 2, none⟩ v2).setCell ⟨w.heap.size, 3, none⟩ v3) := by
  have hn : b ≠ w.heap.size := by have := h.lt; omega
  have t2 : Below w.heap.size W ((((W.setCell ⟨w.heap.size, 0, none⟩ v0).setCell ⟨w.heap.size, 1, none⟩ v1).setCell ⟨w.heap.size, 2, none⟩ v2).setCell ⟨w.heap.size, 3, none⟩ v3) := below_four (Below.refl _ _) (Nat.le_refl _) _ _ _ _
  have t3 := h.trn
  exact ⟨((((h.rd.other hn).other hn).other hn).other hn), t2.os.trans t3.os, t2.tape.trans t3.tape, t2.output.trans t3.output, Nat.le_trans t3.size t2.size, fun k hk hn => (t2.block k hk).trans (t3.block k hk hn)⟩
/-- What a cut answers, in its three ways. -/
theorem cut_ways {W w2 : World} {b i : Nat} {s : ByteArray} {own : Bool} {tr : TR} {r : Ending} (hk : ∀ te, tr = .ok te → te.1.kind ≠ 0) (he : own = true → ∀ e, tr = .error e → e ≠ 0) (hh : CutPost W b s i own tr r w2) :
    (∃ (k : Int) (x : ByteArray) (n : Int) (a e : Nat), own = true ∧ tr = .ok (⟨k, x, n, a⟩, e) ∧ k ≠ 0 ∧ r = .returned (.tuple #[.agg #[.int .i64 k, .string x, .int .i64 n, .int .i64 (a : Nat)], .int .i64 0]) ∧ Moved W b s e w2) ∨
    (∃ e : Int, own = true ∧ tr = .error e ∧ e ≠ 0 ∧ r = .returned (.tuple #[.agg #[.int .i64 0, .string ⟨#[]⟩, .int .i64 0, .int .i64 0], .int .i64 e]) ∧ Moved W b s i w2) ∨
    (own = false ∧ r = .returned (.tuple #[.agg #[.int .i64 0, .string ⟨#[]⟩, .int .i64 0, .int .i64 0], .int .i64 0]) ∧ Moved W b s i w2) := by
  unfold CutPost at hh
  split at hh
  · rename_i ho
    split at hh
    · rename_i te
      exact .inl ⟨te.1.kind, te.1.text, te.1.n, te.1.at_, te.2, ho, rfl, hk _ rfl, hh.1, hh.2⟩
    · rename_i e
      exact .inr (.inl ⟨e, ho, rfl, he ho _ rfl, hh.1, hh.2⟩)
  · rename_i ho
    exact .inr (.inr ⟨by simpa using ho, hh.1, hh.2⟩)
set_option maxHeartbeats 16000000 in
theorem firstOf_c (b g i c : Nat) (s : ByteArray) (hi : i < s.size) (hz : s.size ≤ 1048576) (hv : Vd s i) (w : World) (h : Rdr w b s i) (hc : Box w g (cutsV b)) (hg : g ≠ b) :
    Calls Tryz.prog 96 #[.slice (some ⟨g, 0, none⟩) 5 c] w (CutPost w b s i true (tok s i)) := by
  have SF := hid2 (Sf.made h hc hg 47)
  have hlt := h.lt
  have hlg := hc.lt
  have K0 := hid2 (fun W (hw : Rdr W b s i) => nameOrWord_c b i s hi hz hv W hw)
  have K1 := hid2 (fun W (hw : Rdr W b s i) => number_c b i s hi hz W hw)
  have K2 := hid2 (fun W (hw : Rdr W b s i) => quoted_c b i s hi hz hv W hw)
  have K3 := hid2 (fun W (hw : Rdr W b s i) => bracket_c b i s hi hz hv W hw)
  have K4 := hid2 (fun W (hw : Rdr W b s i) => sign_c b i s hi hz W hw)
  have W0 := hid2 (fun W w2 r hh => cut_ways (W := W) (w2 := w2) (b := b) (i := i) (s := s) (own := decide (cls s 1 i ≠ i)) (tr := wordT s i) (r := r) (fun _ => word_kind) (fun _ _ => word_err) hh)
  have W1 := hid2 (fun W w2 r hh => cut_ways (W := W) (w2 := w2) (b := b) (i := i) (s := s) (own := decide (cls s 2 i ≠ i)) (tr := numT s i) (r := r) (fun _ => num_kind) (fun _ _ => num_err) hh)
  have W2 := hid2 (fun W w2 r hh => cut_ways (W := W) (w2 := w2) (b := b) (i := i) (s := s) (own := decide (s.get! i = 34)) (tr := encT 4 [34, 10] 34 s i) (r := r) (fun _ => enc_kind (by decide)) (fun _ _ => enc_err) hh)
  have W3 := hid2 (fun W w2 r hh => cut_ways (W := W) (w2 := w2) (b := b) (i := i) (s := s) (own := decide (s.get! i = 91)) (tr := encT 8 [91, 93, 34, 10] 93 s i) (r := r) (fun _ => enc_kind (by decide)) (fun _ _ => enc_err) hh)
  have W4 := hid2 (fun W w2 r hh => cut_ways (W := W) (w2 := w2) (b := b) (i := i) (s := s) (own := (two (s.get! i) (s.get! (i + 1)) || one (s.get! i))) (tr := sigT s i) (r := r) (fun _ => sig_kind) (fun ho e he => by obtain ⟨te, ht⟩ := sig_own ho; rw [ht] at he; cases he) hh)
  have Q0 : Hid (decide (cls s 1 i ≠ i) = true → tok s i = wordT s i) := fun h => if_pos (by simpa using h)
  have Q1 : Hid (decide (cls s 1 i ≠ i) = false → decide (cls s 2 i ≠ i) = true → tok s i = numT s i) := fun h0 h => by
    unfold tok
    rw [if_neg (by simpa using h0), if_pos (by simpa using h)]
  have Q2 : Hid (decide (cls s 1 i ≠ i) = false → decide (cls s 2 i ≠ i) = false → decide (s.get! i = 34) = true → tok s i = encT 4 [34, 10] 34 s i) := fun h0 h1 h => by
    unfold tok
    rw [if_neg (by simpa using h0), if_neg (by simpa using h1), if_pos (by simpa using h)]
  have Q3 : Hid (decide (cls s 1 i ≠ i) = false → decide (cls s 2 i ≠ i) = false → decide (s.get! i = 34) = false → decide (s.get! i = 91) = true → tok s i = encT 8 [91, 93, 34, 10] 93 s i) := fun h0 h1 h2 h => by
    unfold tok
    rw [if_neg (by simpa using h0), if_neg (by simpa using h1), if_neg (by simpa using h2), if_pos (by simpa using h)]
  have Q4 : Hid (decide (cls s 1 i ≠ i) = false → decide (cls s 2 i ≠ i) = false → decide (s.get! i = 34) = false → decide (s.get! i = 91) = false → tok s i = sigT s i) := fun h0 h1 h2 h3 => by
    unfold tok
    rw [if_neg (by simpa using h0), if_neg (by simpa using h1), if_neg (by simpa using h2), if_neg (by simpa using h3)]
  have Q5 : Hid ((two (s.get! i) (s.get! (i + 1)) || one (s.get! i)) = false → sigT s i = .error 12) := sig_none
  generalize decide (cls s 1 i ≠ i) = o0 at *
  generalize decide (cls s 2 i ≠ i) = o1 at *
  generalize decide (s.get! i = 34) = o2 at *
  generalize decide (s.get! i = 91) = o3 at *
  generalize (two (s.get! i) (s.get! (i + 1)) || one (s.get! i)) = o4 at *
  generalize wordT s i = t0 at *
  generalize numT s i = t1 at *
  generalize encT 4 [34, 10] 34 s i = t2 at *
  generalize encT 8 [91, 93, 34, 10] 93 s i = t3 at *
  generalize sigT s i = t4 at *
  generalize tok s i = tr at *
  clear h hc hv hi
  go_enter Tryz.func96, Tryz.ntmps96
  go_wp2_with fail
  generalize w.alloc _ = WW at *
  go_loopw [10] (fun s10 wr => ∃ j : Nat, s10 = .int .i64 (j : Nat) ∧ j ≤ 5 ∧ Hid (Sf w wr b g i s zs) ∧ Hid (1 ≤ j → o0 = false) ∧ Hid (2 ≤ j → o1 = false) ∧ Hid (3 ≤ j → o2 = false) ∧ Hid (4 ≤ j → o3 = false) ∧ Hid (5 ≤ j → o4 = false)) (fun s10 _ => 5 - (RowKit.intOf s10).toNat)
  case atStart => exact ⟨0, rfl, by omega, SF, fun h => by omega, fun h => by omega, fun h => by omega, fun h => by omega, fun h => by omega⟩
  case round =>
    obtain ⟨j, rfl, hj, HS, N0, N1, N2, N3, N4⟩ := hrel
    clear SF
    have blr := HS.out.rb.lt
    rcases (show j = 0 ∨ j = 1 ∨ j = 2 ∨ j = 3 ∨ j = 4 ∨ j = 5 by omega) with rfl | rfl | rfl | rfl | rfl | rfl
    · have hcell := HS.out.cu.cell 0 _ rfl
      go_wp2_with fail
      refine Calls.mono (K0.out _ HS.out.rd) ?_
      intro r w2 hh
      rcases W0.out _ _ _ hh with ⟨k, x, n, a, e, ho, ht, hk, rfl, m⟩ | ⟨e, ho, ht, hk, rfl, m⟩ | ⟨ho, rfl, m⟩
      · have S2 := hid2 (HS.out.moved m)
        have hq := Q0.out  ho
        rw [ht] at hq
        have HQ := hid2 hq
        have hk2 : (k != 0) = true := by simpa using hk
        obtain ⟨p0, p1, p2, p3, g0, g1, g2, g3⟩ := S2.out.rb.four
        have bl := S2.out.rb.lt
        clear hh m ht hq hcell
        go_wp2_with fail
        refine bodyPost_ret (v := .tuple #[.agg #[.int .i64 k, .string x, .int .i64 n, .int .i64 (a : Nat)], .int .i64 0]) (by simp [results, Tryz.results96, go_sem, *]) rfl ?_
        unfold CutPost
        rw [HQ.out]
        exact ⟨rfl, (S2.out.fin _ _ _ _).below ((Below.refl _ _).alloc (Nat.le_refl _) _)⟩
      · have S2 := hid2 (HS.out.moved m)
        have hq := Q0.out  ho
        rw [ht] at hq
        have HQ := hid2 hq
        have hk2 : (e != 0) = true := by simpa using hk
        obtain ⟨p0, p1, p2, p3, g0, g1, g2, g3⟩ := S2.out.rb.four
        have bl := S2.out.rb.lt
        clear hh m ht hq hcell
        go_wp2_with fail
        refine bodyPost_ret (v := .tuple #[noV, .int .i64 e]) (by simp [results, Tryz.results96, go_sem, *]; rfl) rfl ?_
        unfold CutPost
        rw [HQ.out]
        exact ⟨rfl, (S2.out.fin _ _ _ _).below ((Below.refl _ _).alloc (Nat.le_refl _) _)⟩
      · have S2 := hid2 (HS.out.moved m)
        have HO := hid2 ho
        clear hh m hcell
        go_wp2_with fail
        go_roundw
        case rel => exact ⟨1, rfl, by omega, S2.out.next ((Below.refl _ _).alloc (Nat.le_refl _) _), fun _ => HO.out, fun h => by omega, fun h => by omega, fun h => by omega, fun h => by omega⟩
        case measure => simp [RowKit.intOf]
    · have hcell := HS.out.cu.cell 1 _ rfl
      have z0 := N0.out (by omega)
      go_wp2_with fail
      refine Calls.mono (K1.out _ HS.out.rd) ?_
      intro r w2 hh
      rcases W1.out _ _ _ hh with ⟨k, x, n, a, e, ho, ht, hk, rfl, m⟩ | ⟨e, ho, ht, hk, rfl, m⟩ | ⟨ho, rfl, m⟩
      · have S2 := hid2 (HS.out.moved m)
        have hq := Q1.out z0 ho
        rw [ht] at hq
        have HQ := hid2 hq
        have hk2 : (k != 0) = true := by simpa using hk
        obtain ⟨p0, p1, p2, p3, g0, g1, g2, g3⟩ := S2.out.rb.four
        have bl := S2.out.rb.lt
        clear hh m ht hq hcell
        go_wp2_with fail
        refine bodyPost_ret (v := .tuple #[.agg #[.int .i64 k, .string x, .int .i64 n, .int .i64 (a : Nat)], .int .i64 0]) (by simp [results, Tryz.results96, go_sem, *]) rfl ?_
        unfold CutPost
        rw [HQ.out]
        exact ⟨rfl, (S2.out.fin _ _ _ _).below ((Below.refl _ _).alloc (Nat.le_refl _) _)⟩
      · have S2 := hid2 (HS.out.moved m)
        have hq := Q1.out z0 ho
        rw [ht] at hq
        have HQ := hid2 hq
        have hk2 : (e != 0) = true := by simpa using hk
        obtain ⟨p0, p1, p2, p3, g0, g1, g2, g3⟩ := S2.out.rb.four
        have bl := S2.out.rb.lt
        clear hh m ht hq hcell
        go_wp2_with fail
        refine bodyPost_ret (v := .tuple #[noV, .int .i64 e]) (by simp [results, Tryz.results96, go_sem, *]; rfl) rfl ?_
        unfold CutPost
        rw [HQ.out]
        exact ⟨rfl, (S2.out.fin _ _ _ _).below ((Below.refl _ _).alloc (Nat.le_refl _) _)⟩
      · have S2 := hid2 (HS.out.moved m)
        have HO := hid2 ho
        clear hh m hcell
        go_wp2_with fail
        go_roundw
        case rel => exact ⟨2, rfl, by omega, S2.out.next ((Below.refl _ _).alloc (Nat.le_refl _) _), fun _ => z0, fun _ => HO.out, fun h => by omega, fun h => by omega, fun h => by omega⟩
        case measure => simp [RowKit.intOf]
    · have hcell := HS.out.cu.cell 2 _ rfl
      have z0 := N0.out (by omega)
      have z1 := N1.out (by omega)
      go_wp2_with fail
      refine Calls.mono (K2.out _ HS.out.rd) ?_
      intro r w2 hh
      rcases W2.out _ _ _ hh with ⟨k, x, n, a, e, ho, ht, hk, rfl, m⟩ | ⟨e, ho, ht, hk, rfl, m⟩ | ⟨ho, rfl, m⟩
      · have S2 := hid2 (HS.out.moved m)
        have hq := Q2.out z0 z1 ho
        rw [ht] at hq
        have HQ := hid2 hq
        have hk2 : (k != 0) = true := by simpa using hk
        obtain ⟨p0, p1, p2, p3, g0, g1, g2, g3⟩ := S2.out.rb.four
        have bl := S2.out.rb.lt
        clear hh m ht hq hcell
        go_wp2_with fail
        refine bodyPost_ret (v := .tuple #[.agg #[.int .i64 k, .string x, .int .i64 n, .int .i64 (a : Nat)], .int .i64 0]) (by simp [results, Tryz.results96, go_sem, *]) rfl ?_
        unfold CutPost
        rw [HQ.out]
        exact ⟨rfl, (S2.out.fin _ _ _ _).below ((Below.refl _ _).alloc (Nat.le_refl _) _)⟩
      · have S2 := hid2 (HS.out.moved m)
        have hq := Q2.out z0 z1 ho
        rw [ht] at hq
        have HQ := hid2 hq
        have hk2 : (e != 0) = true := by simpa using hk
        obtain ⟨p0, p1, p2, p3, g0, g1, g2, g3⟩ := S2.out.rb.four
        have bl := S2.out.rb.lt
        clear hh m ht hq hcell
        go_wp2_with fail
        refine bodyPost_ret (v := .tuple #[noV, .int .i64 e]) (by simp [results, Tryz.results96, go_sem, *]; rfl) rfl ?_
        unfold CutPost
        rw [HQ.out]
        exact ⟨rfl, (S2.out.fin _ _ _ _).below ((Below.refl _ _).alloc (Nat.le_refl _) _)⟩
      · have S2 := hid2 (HS.out.moved m)
        have HO := hid2 ho
        clear hh m hcell
        go_wp2_with fail
        go_roundw
        case rel => exact ⟨3, rfl, by omega, S2.out.next ((Below.refl _ _).alloc (Nat.le_refl _) _), fun _ => z0, fun _ => z1, fun _ => HO.out, fun h => by omega, fun h => by omega⟩
        case measure => simp [RowKit.intOf]
    · have hcell := HS.out.cu.cell 3 _ rfl
      have z0 := N0.out (by omega)
      have z1 := N1.out (by omega)
      have z2 := N2.out (by omega)
      go_wp2_with fail
      refine Calls.mono (K3.out _ HS.out.rd) ?_
      intro r w2 hh
      rcases W3.out _ _ _ hh with ⟨k, x, n, a, e, ho, ht, hk, rfl, m⟩ | ⟨e, ho, ht, hk, rfl, m⟩ | ⟨ho, rfl, m⟩
      · have S2 := hid2 (HS.out.moved m)
        have hq := Q3.out z0 z1 z2 ho
        rw [ht] at hq
        have HQ := hid2 hq
        have hk2 : (k != 0) = true := by simpa using hk
        obtain ⟨p0, p1, p2, p3, g0, g1, g2, g3⟩ := S2.out.rb.four
        have bl := S2.out.rb.lt
        clear hh m ht hq hcell
        go_wp2_with fail
        refine bodyPost_ret (v := .tuple #[.agg #[.int .i64 k, .string x, .int .i64 n, .int .i64 (a : Nat)], .int .i64 0]) (by simp [results, Tryz.results96, go_sem, *]) rfl ?_
        unfold CutPost
        rw [HQ.out]
        exact ⟨rfl, (S2.out.fin _ _ _ _).below ((Below.refl _ _).alloc (Nat.le_refl _) _)⟩
      · have S2 := hid2 (HS.out.moved m)
        have hq := Q3.out z0 z1 z2 ho
        rw [ht] at hq
        have HQ := hid2 hq
        have hk2 : (e != 0) = true := by simpa using hk
        obtain ⟨p0, p1, p2, p3, g0, g1, g2, g3⟩ := S2.out.rb.four
        have bl := S2.out.rb.lt
        clear hh m ht hq hcell
        go_wp2_with fail
        refine bodyPost_ret (v := .tuple #[noV, .int .i64 e]) (by simp [results, Tryz.results96, go_sem, *]; rfl) rfl ?_
        unfold CutPost
        rw [HQ.out]
        exact ⟨rfl, (S2.out.fin _ _ _ _).below ((Below.refl _ _).alloc (Nat.le_refl _) _)⟩
      · have S2 := hid2 (HS.out.moved m)
        have HO := hid2 ho
        clear hh m hcell
        go_wp2_with fail
        go_roundw
        case rel => exact ⟨4, rfl, by omega, S2.out.next ((Below.refl _ _).alloc (Nat.le_refl _) _), fun _ => z0, fun _ => z1, fun _ => z2, fun _ => HO.out, fun h => by omega⟩
        case measure => simp [RowKit.intOf]
    · have hcell := HS.out.cu.cell 4 _ rfl
      have z0 := N0.out (by omega)
      have z1 := N1.out (by omega)
      have z2 := N2.out (by omega)
      have z3 := N3.out (by omega)
      go_wp2_with fail
      refine Calls.mono (K4.out _ HS.out.rd) ?_
      intro r w2 hh
      rcases W4.out _ _ _ hh with ⟨k, x, n, a, e, ho, ht, hk, rfl, m⟩ | ⟨e, ho, ht, hk, rfl, m⟩ | ⟨ho, rfl, m⟩
      · have S2 := hid2 (HS.out.moved m)
        have hq := Q4.out z0 z1 z2 z3
        rw [ht] at hq
        have HQ := hid2 hq
        have hk2 : (k != 0) = true := by simpa using hk
        obtain ⟨p0, p1, p2, p3, g0, g1, g2, g3⟩ := S2.out.rb.four
        have bl := S2.out.rb.lt
        clear hh m ht hq hcell
        go_wp2_with fail
        refine bodyPost_ret (v := .tuple #[.agg #[.int .i64 k, .string x, .int .i64 n, .int .i64 (a : Nat)], .int .i64 0]) (by simp [results, Tryz.results96, go_sem, *]) rfl ?_
        unfold CutPost
        rw [HQ.out]
        exact ⟨rfl, (S2.out.fin _ _ _ _).below ((Below.refl _ _).alloc (Nat.le_refl _) _)⟩
      · have S2 := hid2 (HS.out.moved m)
        have hq := Q4.out z0 z1 z2 z3
        rw [ht] at hq
        have HQ := hid2 hq
        have hk2 : (e != 0) = true := by simpa using hk
        obtain ⟨p0, p1, p2, p3, g0, g1, g2, g3⟩ := S2.out.rb.four
        have bl := S2.out.rb.lt
        clear hh m ht hq hcell
        go_wp2_with fail
        refine bodyPost_ret (v := .tuple #[noV, .int .i64 e]) (by simp [results, Tryz.results96, go_sem, *]; rfl) rfl ?_
        unfold CutPost
        rw [HQ.out]
        exact ⟨rfl, (S2.out.fin _ _ _ _).below ((Below.refl _ _).alloc (Nat.le_refl _) _)⟩
      · have S2 := hid2 (HS.out.moved m)
        have HO := hid2 ho
        clear hh m hcell
        go_wp2_with fail
        go_roundw
        case rel => exact ⟨5, rfl, by omega, S2.out.next ((Below.refl _ _).alloc (Nat.le_refl _) _), fun _ => z0, fun _ => z1, fun _ => z2, fun _ => z3, fun _ => HO.out⟩
        case measure => simp [RowKit.intOf]
    · have z0 := N0.out (by omega)
      have z1 := N1.out (by omega)
      have z2 := N2.out (by omega)
      have z3 := N3.out (by omega)
      have z4 := N4.out (by omega)
      have hq := Q4.out z0 z1 z2 z3
      rw [Q5.out z4] at hq
      have HQ := hid2 hq
      obtain ⟨p0, p1, p2, p3, g0, g1, g2, g3⟩ := HS.out.rb.four
      clear hq z0 z1 z2 z3 z4
      go_wp2_with fail
      refine bodyPost_ret (v := .tuple #[noV, .int .i64 12]) (by simp [results, Tryz.results96, go_sem, *]; rfl) rfl ?_
      unfold CutPost
      rw [HQ.out]
      exact ⟨rfl, HS.out.fin _ _ _ _⟩
end Go.Proofs.YtecdfnpbcabdnaaGreatDoor
