/- The walk of the statement MonoPlays. -/
import Derived.Test.YtelcaldenjgnkaaMoO
namespace Go.Proofs.Ytelcaldenjgnkaa
open Go.RowKit

/-- Blocks that the list of numbers may lie in. -/
def apart (B b g : Nat) (x : Nat) : Prop := x ≠ b ∧ x ≠ g ∧ B ≤ x
/-- The queue holds L, and so does the list beside it, in memory of the call's own (from the block B on). -/
structure Two (B : Nat) (w : World) (b g : Nat) (h : Bool) (lv : Value) (L : List Int) : Prop where
  mo : Mo w b g h L
  ls : Ls w (apart B b g) lv L
  own : B ≤ b ∧ B ≤ g
  start : B ≤ w.heap.size
theorem Two.next {B : Nat} {w w' : World} {b g : Nat} {h : Bool} {lv : Value} {L : List Int} (x : Two B w b g h lv L) (t : Below w.heap.size w w') : Two B w' b g h lv L := ⟨x.mo.next t, x.ls.next t, x.own, Nat.le_trans x.start t.size⟩
/-- The queue has turned, the list not yet. -/
theorem Two.half {B : Nat} {w w' : World} {b g g' : Nat} {h : Bool} {lv : Value} {L : List Int} (x : Two B w b g h lv L) (t : Turn [b, g] w w') (ho : g' = g ∨ w.heap.size ≤ g') :
    Ls w' (apart B b g') lv L ∧ (B ≤ b ∧ B ≤ g') ∧ B ≤ w'.heap.size ∧ Below B w w' := by
  have o := x.own
  have s := x.start
  have z := t.size
  refine ⟨?_, by omega, by omega, t.below (by simp; omega) s⟩
  rcases x.ls with e | ⟨gl, ⟨a1, a2, a3⟩, e⟩
  · exact .inl e
  · have hl := e.lt
    exact .inr ⟨gl, ⟨a1, by omega, a3⟩, e.turn t (by simp; omega)⟩
/-- The list has turned too. -/
theorem two_put {B : Nat} {w w' : World} {b g : Nat} {h : Bool} {lv : Value} {L : List Int} (m : Mo w b g h L) (o : B ≤ b ∧ B ≤ g) (s : B ≤ w.heap.size) (x : LsGrew w (apart B b g) lv L w') : Two B w' b g h lv L ∧ Below B w w' := by
  obtain ⟨⟨gl, h1, h2⟩, S, t, hS⟩ := x
  have l1 := m.lt
  have l2 := m.glt
  have z := t.size
  refine ⟨⟨m.turn t (fun e => (hS _ e).1 rfl) (fun e => (hS _ e).2.1 rfl), .inr ⟨gl, ?_, h2⟩, o, by omega⟩, t.below (fun k hk => (hS k hk).2.2) s⟩
  rcases h1 with h1 | h1
  · exact h1
  · exact ⟨by omega, by omega, by omega⟩
/-- What is left of a list when its front has been cut off. -/
theorem Sl.cut {w : World} {g off cap : Nat} {x : Int} {T : List Int} (h : SlAt w g off cap (x :: T)) : Sl w g (.slice (if cap = 1 then some ⟨g, off, none⟩ else some ⟨g, off + 1, none⟩) T.length (cap - 1)) T := by
  have hl := h.le
  simp at hl
  by_cases e : cap = 1
  · subst e
    have : T = [] := List.eq_nil_of_length_eq_zero (by omega)
    subst this
    rw [if_pos rfl]
    exact .inr ⟨off, 0, rfl, h.lt, by simp, by simp, by simp, by simp, by simp [maxLen]⟩
  · rw [if_neg e]
    exact .inr ⟨off + 1, cap - 1, rfl, h.lt, fun i y hy => by have := h.cell (i + 1) y (by simpa using hy); rwa [show off + (i + 1) = off + 1 + i by omega] at this, fun i hi => by have := h.spare (i + 1) (by omega); rwa [show off + (i + 1) = off + 1 + i by omega] at this, fun i hi => by have := h.free (i + 1) (by omega); rwa [show off + (i + 1) = off + 1 + i by omega] at this, by omega, by have := h.most; omega⟩
/-- The argument is a slice of calls: kinds O and numbers V. -/
def IsOps (w : World) (a : Option Addr) (len : Nat) (O V : Nat → Int) : Prop := len = 0 ∨ ∃ b off, a = some ⟨b, off, none⟩ ∧ b < w.heap.size ∧ ∀ i, i < len → w.cell? ⟨b, off + i * 2, none⟩ = some (.int .i64 (O i)) ∧ w.cell? ⟨b, off + i * 2 + 1, none⟩ = some (.int .i64 (V i))
set_option maxRecDepth 20000 in
set_option maxHeartbeats 2000000 in
theorem monoPlays_walk43 (h : Bool) (a : Option Addr) (len cap : Nat) (O V : Nat → Int) (w : World) (hO : IsOps w a len O V) (hl : len ≤ 8796093022208) :
    Calls Try.prog 3 #[.bool h, .slice a len cap] w fun e w' => e = .returned (.bool true) ∧ Below w.heap.size w w' := by
  have HO := hid hO
  clear hO
  go_enter Try.func3, Try.ntmps3
  go_wp2_with fail
  refine (awake_any w).mono ?_
  rintro e w1 ⟨rfl, hb1⟩
  go_wp2_with fail
  refine Calls.mono (mNew h w1) ?_
  rintro e w2 ⟨rfl, hm2, hb2⟩
  have s1 := hb1.size
  obtain ⟨b, hb⟩ : ∃ b, b = w1.heap.size := ⟨_, rfl⟩
  rw [← hb] at hm2 ⊢
  have hT : Two w.heap.size w2 b b h (.slice none 0 0) [] := ⟨hm2, .inl ⟨rfl, rfl⟩, by omega, by have := hb2.size; omega⟩
  have hbw : Below w.heap.size w w2 := hb1.trans (hb2.mono s1)
  have HT := hid hT
  have HW := hid hbw
  clear hT hbw hb1 hb2 hm2 hb s1
  go_wp2_with fail
  go_loopw [6, 7] (fun p q wr => ∃ (k g : Nat) (L : List Int), q = .int .i64 (k : Nat) ∧ k ≤ len ∧ L.length ≤ k ∧ Two w.heap.size wr b g h p L ∧ Below w.heap.size w wr) (fun _ q _ => len - (intOf q).toNat)
  case atStart => exact ⟨0, b, [], rfl, by omega, by simp, HT.out, HW.out⟩
  case round =>
    obtain ⟨k, g, L, rfl, hk, hLk, hT2, hw2⟩ := hrel
    obtain ⟨al, cl, rfl⟩ := hT2.ls.shape
    have HT2 := hid hT2
    have HW2 := hid hw2
    clear hT2 hw2 HT HW
    by_cases hlt : k < len
    · have hL43 : L.length < 8796093022208 := by omega
      rcases HO.out with h0 | ⟨sb, off, rfl, hbl, hcell⟩
      · omega
      obtain ⟨e0, e1⟩ := hcell k hlt
      have c0 := (HW2.out.cell (p := ⟨sb, off + k * 2, none⟩) hbl).trans e0
      have c1 := (HW2.out.cell (p := ⟨sb, off + k * 2 + 1, none⟩) hbl).trans e1
      have hlt' : (k : Int) < (len : Int) := by omega
      obtain ⟨v, hv⟩ : ∃ v, v = V k := ⟨_, rfl⟩
      obtain ⟨kd, hkd⟩ : ∃ kd, kd = O k := ⟨_, rfl⟩
      rw [← hv] at c1 e1
      rw [← hkd] at c0
      clear e0 hcell hv hkd
      by_cases k1 : kd = 1
      · subst k1
        go_wp2_with fail
        refine Calls.mono (mPut b g h L v wr HT2.out.mo hL43) ?_
        rintro e w4 ⟨rfl, g4, m4, t4, o4⟩
        obtain ⟨ls4, ow4, st4, bw4⟩ := HT2.out.half t4 o4
        have c2 := ((HW2.out.trans bw4).cell (p := ⟨sb, off + k * 2 + 1, none⟩) hbl).trans e1
        have HM4 := hid m4
        have HL4 := hid ls4
        have HB4 := hid bw4
        clear m4 ls4 bw4 t4 o4 e1 c0 c1
        go_wp2_with (at_builtin; refine wpList_append_ls w4 _ rfl _ _ rfl (apart w.heap.size b g4) (.slice al L.length cl) L v rfl rfl HL4.out (by omega) rfl ?_; intro b5 c5 w5 hgr; obtain ⟨ht5, hb5⟩ := two_put HM4.out ow4 st4 hgr; have HT5 := hid ht5; have HB5 := hid hb5; clear ht5 hb5 hgr)
        go_roundw
        case rel => exact ⟨k + 1, g4, L ++ [v], by simp, by omega, by simp; omega, HT5.out, (HW2.out.trans HB4.out).trans HB5.out⟩
        case measure => simp [intOf]; omega
      by_cases k2 : kd = 2
      · subst k2
        cases L with
        | nil =>
          simp only [List.length_nil] at HT2 ⊢
          go_wp2_with fail
          refine Calls.mono (mTake_no b g h wr HT2.out.mo) ?_
          rintro e w4 ⟨rfl, m4, t4⟩
          obtain ⟨ls4, ow4, st4, bw4⟩ := HT2.out.half t4 (.inl rfl)
          have HM4 := hid m4
          have HL4 := hid ls4
          have HB4 := hid bw4
          clear m4 ls4 bw4 t4 e1 c0 c1
          go_wp2_with fail
          go_roundw
          case rel => exact ⟨k + 1, g, [], by simp, by omega, by simp, ⟨HM4.out, HL4.out, ow4, st4⟩, HW2.out.trans HB4.out⟩
          case measure => simp [intOf]; omega
        | cons x T =>
          have hlen : (x :: T).length = T.length + 1 := rfl
          rw [hlen] at hL43 hLk
          simp only [hlen] at HT2 ⊢
          clear hlen
          obtain ⟨n, hn⟩ : ∃ n, n = T.length := ⟨_, rfl⟩
          rw [← hn] at hL43 hLk
          simp only [← hn] at HT2 ⊢
          have HN := hid hn
          clear hn
          go_wp2_with fail
          refine Calls.mono (mTake_yes b g h x T wr HT2.out.mo (by have := HN.out; simp; omega)) ?_
          rintro e w4 ⟨rfl, m4, t4⟩
          obtain ⟨ls4, ow4, st4, bw4⟩ := HT2.out.half t4 (.inl rfl)
          obtain ⟨gl, oa, hal, hap, hs⟩ : ∃ gl oa, al = some ⟨gl, oa, none⟩ ∧ apart w.heap.size b g gl ∧ SlAt w4 gl oa cl (x :: T) := by
            rcases ls4 with ⟨_, e⟩ | ⟨gl, a1, e⟩
            · cases e
            · rcases e with ⟨_, e, _⟩ | ⟨oa, cc, e, hs⟩
              · cases e
              · simp only [Value.slice.injEq] at e
                obtain ⟨e2, _, e3⟩ := e
                subst e3
                exact ⟨gl, oa, e2, a1, hs⟩
          subst hal
          have hcut := Sl.cut hs
          have hle := hs.le
          simp only [List.length_cons] at hle
          rw [← HN.out] at hle hcut
          have HM4 := hid m4
          have HB4 := hid bw4
          have HC := hid hcut
          have hp : (0 : Int) < ((n + 1 : Nat) : Int) := by omega
          clear m4 bw4 t4 e1 c0 c1 hcut hs ls4
          by_cases hc1 : cl = 1
          · subst hc1
            rw [if_pos rfl] at HC
            go_wp2_with fail
            have n0 : n = 0 := by omega
            refine ⟨⟨k + 1, g, T, by simp, by omega, by have := HN.out; omega, ⟨HM4.out, .inr ⟨gl, hap, ?_⟩, ow4, st4⟩, HW2.out.trans HB4.out⟩, by simp [intOf]; omega⟩
            have hc := HC.out
            rwa [n0] at hc
          · rw [if_neg hc1] at HC
            have hc2 : ¬ (1 : Nat) = cl := fun e => hc1 e.symm
            go_wp2_with fail
            exact ⟨⟨k + 1, g, T, by simp, by omega, by have := HN.out; omega, ⟨HM4.out, .inr ⟨gl, hap, HC.out⟩, ow4, st4⟩, HW2.out.trans HB4.out⟩, by simp [intOf]; omega⟩
      by_cases k3 : kd = 3
      · subst k3
        go_wp2_with fail
        refine Calls.mono (looks_any b g h _ L wr HT2.out.mo HT2.out.ls.rd (by omega)) ?_
        rintro e w5 ⟨rfl, hb5⟩
        have HB5 := hid hb5
        clear hb5 e1 c0 c1
        go_wp2_with fail
        go_roundw
        case rel => exact ⟨k + 1, g, L, by simp, by omega, by omega, HT2.out.next HB5.out, HW2.out.trans (HB5.out.mono HW2.out.size)⟩
        case measure => simp [intOf]; omega
      have k1' : (kd == 1) = false := by simpa using k1
      have k2' : (kd == 2) = false := by simpa using k2
      have k3' : (kd == 3) = false := by simpa using k3
      clear e1 c1
      go_wp2_with fail
      go_roundw
      case rel => exact ⟨k + 1, g, L, by simp, by omega, by omega, HT2.out, HW2.out⟩
      case measure => simp [intOf]; omega
    · obtain rfl : k = len := by omega
      go_wp2_with fail
      refine Calls.mono (looks_any b g h _ L wr HT2.out.mo HT2.out.ls.rd (by omega)) ?_
      rintro e w5 ⟨rfl, hb5⟩
      go_wp2_with fail
      go_ret
      exact ⟨rfl, HW2.out.trans (hb5.mono HW2.out.size)⟩
theorem monoPlays_walk (h : Bool) (a : Option Addr) (len cap : Nat) (O V : Nat → Int) (w : World) (hO : IsOps w a len O V) (hl : len * 16 ≤ reachBytes) :
    Calls Try.prog 3 #[.bool h, .slice a len cap] w fun e w' => e = .returned (.bool true) ∧ Below w.heap.size w w' :=
  monoPlays_walk43 h a len cap O V w hO (by unfold reachBytes at hl; omega)
end Go.Proofs.Ytelcaldenjgnkaa
