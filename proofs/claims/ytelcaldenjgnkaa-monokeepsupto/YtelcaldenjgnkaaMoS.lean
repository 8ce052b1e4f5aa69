/- The document's list of what is kept. -/
import Derived.Test.YtelcaldenjgnkaaMoR
namespace Go.Proofs.Ytelcaldenjgnkaa
open Go.RowKit

theorem LsGrew.base {w w' : World} {base : Nat} {lv : Value} {L : List Int} (h : LsGrew w (fun g => base ≤ g) lv L w') (hb : base ≤ w.heap.size) : Ls w' (fun g => base ≤ g) lv L ∧ Below base w w' := by
  obtain ⟨⟨g', h1, h2⟩, S, t, hS⟩ := h
  refine ⟨.inr ⟨g', ?_, h2⟩, t.below hS hb⟩
  rcases h1 with h1 | h1
  · exact h1
  · exact Nat.le_trans hb h1
/-- What the document has found behind m, the last one first. -/
def backs (h : Bool) (L : List Int) (m : Nat) : List Int := (kept h (L.drop m)).reverse
theorem backs_end (h : Bool) (L : List Int) : backs h L L.length = [] := by simp [backs, kept_nil]
theorem drop_at {L : List Int} {j : Nat} {x : Int} (hx : L[j]? = some x) : L.drop j = x :: L.drop (j + 1) := by
  obtain ⟨hj, e⟩ := List.getElem?_eq_some_iff.1 hx
  rw [List.drop_eq_getElem_cons hj, e]
theorem backs_first {h : Bool} {L : List Int} {j : Nat} {x : Int} (hx : L[j]? = some x) (e : backs h L (j + 1) = []) : backs h L j = [] ++ [x] := by
  have e1 : kept h (L.drop (j + 1)) = [] := by simpa [backs] using e
  have e2 : L.drop (j + 1) = [] := by
    cases hd : L.drop (j + 1) with
    | nil => rfl
    | cons y T => exact absurd e1 (kept_ne h (by simp [hd]))
  unfold backs
  rw [drop_at hx, e2]
  rfl
theorem backs_next {h : Bool} {L : List Int} {j : Nat} {x y : Int} {B : List Int} (hx : L[j]? = some x) (e : backs h L (j + 1) = B ++ [y]) : backs h L j = if win h x y then B ++ [y] ++ [x] else B ++ [y] := by
  have e1 : kept h (L.drop (j + 1)) = y :: B.reverse := by
    have := congrArg List.reverse e
    simpa [backs] using this
  unfold backs
  rw [drop_at hx, kept_cons, all_win e1]
  split
  · simp [e1]
  · simp [e1]
theorem backs_length (h : Bool) (L : List Int) (m : Nat) : (backs h L m).length ≤ L.length := by
  have := kept_length h (L.drop m)
  simp [backs] at this ⊢
  omega
set_option maxRecDepth 20000 in
set_option maxHeartbeats 1000000 in
theorem fKept (h : Bool) (v : Value) (L : List Int) (w : World) (hv : Rd w v L) (hl : L.length < 17592186044416) :
    Calls Try.prog 16 #[.bool h, v] w fun e w' => ∃ v', e = .returned v' ∧ Rd w' v' (kept h L) ∧ Below w.heap.size w w' := by
  obtain ⟨a, c, rfl, hcell⟩ := hv
  obtain ⟨n, hn⟩ : ∃ n, n = L.length := ⟨_, rfl⟩
  rw [← hn] at hl ⊢
  have HN := hid hn
  have HC := hid hcell
  clear hn hcell
  go_enter Try.func16, Try.ntmps16
  go_wp2_with fail
  go_loopw [5, 6] (fun p q wr => ∃ m : Nat, q = .int .i64 ((m : Int) - 1) ∧ m ≤ n ∧ Ls wr (fun g => w.heap.size ≤ g) p (backs h L m) ∧ Below w.heap.size w wr) (fun _ q _ => (intOf q + 1).toNat)
  case atStart => exact ⟨n, rfl, Nat.le_refl _, .inl ⟨rfl, by rw [HN.out]; exact backs_end h L⟩, Below.refl _ _⟩
  case round =>
    obtain ⟨m, rfl, hm, hls, hbw⟩ := hrel
    obtain ⟨ab, cb, rfl⟩ := hls.shape
    have hbl := backs_length h L m
    rw [← HN.out] at hbl
    by_cases h0 : m = 0
    · subst h0
      have hz : (((0 : Nat) : Int) - 1) = -1 := by omega
      rw [hz]
      clear hz
      obtain ⟨B, hB⟩ : ∃ B, B = backs h L 0 := ⟨_, rfl⟩
      rw [← hB] at hls hbl ⊢
      obtain ⟨nb, hnb⟩ : ∃ nb, nb = B.length := ⟨_, rfl⟩
      rw [← hnb] at hbl hls ⊢
      have HLS := hid hls
      have HBW := hid hbw
      have HB := hid hB
      have HNB := hid hnb
      have hsz := hbw.size
      clear hls hbw hB hnb
      obtain ⟨W1, rfl⟩ : ∃ W1, W1 = wr := ⟨_, rfl⟩
      go_wp2_with fail
      go_loopw [7, 8] (fun p q w2 => ∃ m : Nat, q = .int .i64 ((m : Int) - 1) ∧ m ≤ nb ∧ Ls w2 (fun g => W1.heap.size ≤ g) p (B.drop m).reverse ∧ Below W1.heap.size W1 w2) (fun _ q _ => (intOf q + 1).toNat)
      case atStart => exact ⟨nb, rfl, Nat.le_refl _, .inl ⟨rfl, by simp [HNB.out]⟩, Below.refl _ _⟩
      case round =>
        obtain ⟨m, rfl, hm, hl2, hb2⟩ := hrel
        obtain ⟨ao, co, rfl⟩ := hl2.shape
        by_cases h0 : m = 0
        · subst h0
          have HL2 := hid hl2
          have HB2 := hid hb2
          clear hl2 hb2
          go_wp2_with fail
          go_ret
          refine ⟨_, rfl, ?_, HBW.out.trans (HB2.out.mono hsz)⟩
          have e : (B.drop 0).reverse = kept h L := by rw [HB.out]; simp [backs]
          rw [← e]
          exact HL2.out.rd
        · obtain ⟨j, rfl⟩ : ∃ j, m = j + 1 := ⟨m - 1, by omega⟩
          obtain ⟨x, hx⟩ : ∃ x, B[j]? = some x := ⟨_, List.getElem?_eq_getElem (by have := HNB.out; omega)⟩
          have hd : ∃ gb ob, ab = some ⟨gb, ob, none⟩ ∧ wr.cell? ⟨gb, ob + j, none⟩ = some (.int .i64 x) := by
            rcases HLS.out with ⟨_, e⟩ | ⟨gl, _, e⟩
            · rw [e] at hx; simp at hx
            · rcases e with ⟨_, e, _⟩ | ⟨ob, cc, e, hs⟩
              · rw [e] at hx; simp at hx
              · simp only [Value.slice.injEq] at e
                exact ⟨gl, ob, e.1, (hb2.cell (p := ⟨gl, ob + j, none⟩) hs.lt).trans (hs.cell j x hx)⟩
          obtain ⟨gb, ob, rfl, dx⟩ := hd
          have hj1 : (((j + 1 : Nat) : Int) - 1) = (j : Nat) := by omega
          have hjn : (j : Int) < (nb : Int) := by omega
          have hrl : ((B.drop (j + 1)).reverse).length < 17592186044416 := by have := HNB.out; simp; omega
          have hrj : (B.drop j).reverse = (B.drop (j + 1)).reverse ++ [x] := by rw [drop_at hx]; simp
          obtain ⟨R, hR⟩ : ∃ R, R = (B.drop (j + 1)).reverse := ⟨_, rfl⟩
          rw [← hR] at hl2 hrl hrj ⊢
          rw [hj1]
          have HL2 := hid hl2
          have HB2 := hid hb2
          have HRJ := hid hrj
          have hs2 := hb2.size
          clear hl2 hb2 hj1 hx hR hrj
          go_wp2_with (at_builtin; refine wpList_append_ls wr _ rfl _ _ rfl (fun g => W1.heap.size ≤ g) (.slice ao R.length co) R x rfl rfl HL2.out hrl rfl ?_; intro b2 c2 w2 hgr; obtain ⟨hls2, hbw2⟩ := hgr.base hs2; have HL3 := hid hls2; have HB3 := hid hbw2; clear hgr hls2 hbw2)
          go_roundw
          case rel => exact ⟨j, rfl, by omega, by rw [HRJ.out]; exact HL3.out, HB2.out.trans HB3.out⟩
          case measure => simp [intOf]
    · obtain ⟨j, rfl⟩ : ∃ j, m = j + 1 := ⟨m - 1, by omega⟩
      obtain ⟨x, hx⟩ : ∃ x, L[j]? = some x := ⟨_, List.getElem?_eq_getElem (by have := HN.out; omega)⟩
      rcases HC.out with e | ⟨g, off, rfl, hg, hcell⟩
      · rw [e] at hx; simp at hx
      have dx := (hbw.cell (p := ⟨g, off + j, none⟩) hg).trans (hcell j x hx)
      have hj1 : (((j + 1 : Nat) : Int) - 1) = (j : Nat) := by omega
      have hjn : (j : Int) < (n : Int) := by omega
      rw [hj1]
      have HX := hid hx
      have HLS := hid hls
      have HBW := hid hbw
      have hsz := hbw.size
      clear hx hls hbw hcell hj1
      by_cases he : backs h L (j + 1) = []
      · rw [he] at HLS ⊢
        have HE := hid he
        simp only [List.length_nil] at HLS ⊢
        clear hbl he
        go_wp2_with fail
        go_quiet (fail)
        go_wp2_with (at_builtin; refine wpList_append_ls (wr.drewN nq) _ rfl _ _ rfl (fun g => w.heap.size ≤ g) (.slice ab 0 cb) [] x rfl rfl (HLS.out.next (drewN_below _ _)) (by simp) rfl ?_; intro b2 c2 w2 hgr; obtain ⟨hls2, hbw2⟩ := hgr.base hsz; have HL2 := hid hls2; have HB2 := hid hbw2; clear hgr hls2 hbw2)
        go_roundw
        case rel => exact ⟨j, rfl, by omega, by rw [backs_first HX.out HE.out]; exact HL2.out, (HBW.out.trans ((drewN_below wr nq).mono hsz)).trans HB2.out⟩
        case measure => simp [intOf]
      · obtain ⟨B, y, hB⟩ : ∃ B y, backs h L (j + 1) = B ++ [y] := ⟨_, _, (List.dropLast_concat_getLast he).symm⟩
        have HE := hid hB
        rw [hB] at HLS hbl ⊢
        have hd : ∃ gb ob, ab = some ⟨gb, ob, none⟩ ∧ wr.cell? ⟨gb, ob + B.length, none⟩ = some (.int .i64 y) := by
          rcases HLS.out with ⟨_, e⟩ | ⟨gl, _, e⟩
          · simp at e
          · rcases e with ⟨_, e, _⟩ | ⟨ob, cc, e, hs⟩
            · simp at e
            · simp only [Value.slice.injEq] at e
              exact ⟨gl, ob, e.1, hs.cell B.length y (by simp)⟩
        obtain ⟨gb, ob, rfl, dy⟩ := hd
        simp only [List.length_append, List.length_cons, List.length_nil, Nat.zero_add] at HLS hbl ⊢
        obtain ⟨nb, hnb⟩ : ∃ nb, nb = B.length := ⟨_, rfl⟩
        rw [← hnb] at HLS hbl dy ⊢
        have HNB := hid hnb
        have hq := fun k => Calls.quiet_of_same (n := k) ((beats_any h x y (wr.drewN k)).mono fun _ _ e => ⟨e.1, e.2.symm⟩)
        have HQ := hid hq
        have hb0 : ((nb : Int) + 1 == 0) = false := by simp; omega
        have hb1 : IntKind.i64.wrap ((nb : Int) + 1 - 1) = (nb : Nat) := by rw [IntKind.wrap_i64]; omega
        have hb2 : (nb : Int) < (nb : Int) + 1 := by omega
        clear he hB hnb hq
        cases hw : win h x y with
        | true =>
          rw [hw] at HQ
          go_wp2_with fail
          go_quiet (first | (go_at_call 20; exact HQ.out _))
          go_wp2_with (at_builtin; refine wpList_append_ls (wr.drewN nq) _ rfl _ _ rfl (fun g => w.heap.size ≤ g) (.slice (some ⟨gb, ob, none⟩) (nb + 1) cb) (B ++ [y]) x rfl rfl (HLS.out.next (drewN_below _ _)) (by have := HNB.out; simp; omega) rfl ?_; intro b2 c2 w2 hgr; obtain ⟨hls2, hbw2⟩ := hgr.base hsz; have HL2 := hid hls2; have HB2 := hid hbw2; clear hgr hls2 hbw2)
          go_roundw
          case rel => exact ⟨j, rfl, by omega, by rw [backs_next HX.out HE.out, hw, if_pos rfl]; simpa using HL2.out, (HBW.out.trans ((drewN_below wr nq).mono hsz)).trans HB2.out⟩
          case measure => simp [intOf]
        | false =>
          rw [hw] at HQ
          go_wp2_with fail
          go_quiet (first | (go_at_call 20; exact HQ.out _))
          go_wp2_with fail
          go_roundw
          case rel => exact ⟨j, rfl, by omega, by rw [backs_next HX.out HE.out, hw]; exact HLS.out.next (drewN_below _ _), HBW.out.trans ((drewN_below wr nq).mono hsz)⟩
          case measure => simp [intOf]
end Go.Proofs.Ytelcaldenjgnkaa
