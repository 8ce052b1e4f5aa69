/- Package lex: all tokens; Cut. -/
import Derived.Test.YtecdfnpbcabdnaaGreatDoorLxU
import Derived.Test.YtecdfnpbcabdnaaGreatDoorScX
namespace Go.Proofs.YtecdfnpbcabdnaaGreatDoor
open Go.RowKit Go.Lib

/-- Tokens as the heap holds them. -/
def tkc (t : Tk) : List Value := [.int .i64 t.kind, .string t.text, .int .i64 t.n, .int .i64 (t.at_ : Nat)]
def tks (L : List Tk) : List Value := L.flatMap tkc
theorem tks_snoc (L : List Tk) (t : Tk) : tks (L ++ [t]) = tks L ++ tkc t := by simp [tks]
theorem info_tk : (Tryz.prog.info? 47).map (fun i => (i.zero, i.size, i.bytes)) = some (some (.agg #[.int .i64 0, .string ⟨#[]⟩, .int .i64 0, .int .i64 0]), 4, 40) := by kernel_rfl
abbrev Toks (w : World) (B : Nat) (v : Value) (L : List Tk) : Prop := w.ownsRow B 47 4 v L.length (tks L)
theorem own_turn {S : List Nat} {w w' : World} {B size : Nat} {e : TypeId} {v : Value} {n : Nat} {xs : List Value} (h : w.ownsRow B e size v n xs) (t : Turn S w w') (hS : ∀ k ∈ S, k < B) : w'.ownsRow B e size v n xs := by
  have hl := h.lt
  obtain ⟨h1, h2⟩ := h
  refine ⟨h1, ?_⟩
  rcases h2 with h2 | ⟨g, cap, cur, rfl, h3, h4, h5, h6, h7, h8⟩
  · exact .inl h2
  · exact .inr ⟨g, cap, cur, rfl, h3, (t.block g (Array.getElem?_eq_some_iff.1 h4).1 (fun hm => by have := hS g hm; have := (hl g rfl).1; omega)).trans h4, h5, h6, h7, h8⟩
theorem cell_four_new (w : World) (a b c d : Value) (t : TypeId) : ∀ j u, [a, b, c, d][j]? = some u → (w.alloc (.cells #[a, b, c, d] t)).cell? ((⟨w.heap.size, 0, none⟩ : Addr).add j) = some u := by
  intro j u hj
  match j, hj with
  | 0, hj => simp at hj; subst hj; simp [Addr.add]
  | 1, hj => simp at hj; subst hj; simp [Addr.add]
  | 2, hj => simp at hj; subst hj; simp [Addr.add]
  | 3, hj => simp at hj; subst hj; simp [Addr.add]
  | j + 4, hj => simp at hj
theorem own_mono {w : World} {B B' size : Nat} {e : TypeId} {v : Value} {n : Nat} {xs : List Value} (h : w.ownsRow B e size v n xs) (hB : B' ≤ B) : w.ownsRow B' e size v n xs := by
  have hl := h.lt
  obtain ⟨h1, h2⟩ := h
  refine ⟨h1, ?_⟩
  rcases h2 with h2 | ⟨g, cap, cur, rfl, h3, h4, h5, h6, h7, h8⟩
  · exact .inl h2
  · exact .inr ⟨g, cap, cur, rfl, Nat.le_trans hB h3, h4, h5, h6, h7, h8⟩
/-- What all answers. -/
def AllPost (w : World) (b : Nat) (s : ByteArray) (res : List Tk × Nat × Int) (e : Ending) (w' : World) : Prop :=
  ∃ v, e = .returned (.tuple #[v, .int .i64 res.2.2]) ∧ (if res.2.2 = 0 then Toks w' w.heap.size v res.1 else v = .slice none 0 0) ∧ (∃ at_ : Nat, Rdr w' b s at_ ∧ (res.2.2 ≠ 0 → at_ = res.2.1)) ∧ Turn [b] w w'
/-- Between two tokens. -/
structure Sa (w W : World) (b g i : Nat) (s : ByteArray) (v : Value) (L : List Tk) : Prop where
  rd : Rdr W b s i
  cu : Box W g (cutsV b)
  own : Toks W (w.heap.size + 1) v L
  trn : Turn [b] w W
  lt : b < w.heap.size
  ge : g = w.heap.size
theorem Sa.next {w W W' : World} {b g i : Nat} {s : ByteArray} {v : Value} {L : List Tk} (h : Sa w W b g i s v L) (k : Below W.heap.size W W') : Sa w W' b g i s v L := ⟨h.rd.next k, h.cu.next k, own_on h.own k, h.trn.andBelow k, h.lt, h.ge⟩
theorem Sa.moved {w W W' : World} {b g i e : Nat} {s : ByteArray} {v : Value} {L : List Tk} (h : Sa w W b g i s v L) (m : Moved W b s e W') : Sa w W' b g e s v L := by
  have hb := h.lt
  have hg := h.ge
  exact ⟨m.1, h.cu.turn m.2 (by simp; omega), own_turn h.own m.2 (by simp; omega), h.trn.trans m.2 (fun i hi => .inl hi), h.lt, h.ge⟩
theorem Sa.room {w W : World} {b g i : Nat} {s : ByteArray} {v : Value} {L : List Tk} (h : Sa w W b g i s v L) : w.heap.size + 1 ≤ W.heap.size := by have := h.cu.lt; have := h.ge; omega
theorem Sa.grown {w W w1 : World} {b g i : Nat} {s : ByteArray} {v v' : Value} {L L' : List Tk} (h : Sa w W b g i s v L) (k : Below (w.heap.size + 1) W w1) (o : Toks w1 (w.heap.size + 1) v' L') : Sa w w1 b g i s v' L' := by
  have hb := h.lt
  have hg := h.ge
  have t3 := h.trn
  exact ⟨h.rd.later k (by omega), h.cu.later k (by omega), o, ⟨k.os.trans t3.os, k.tape.trans t3.tape, k.output.trans t3.output, Nat.le_trans t3.size k.size, fun x hx hn => (k.block x (by omega)).trans (t3.block x hx hn)⟩, h.lt, h.ge⟩
theorem tok_kind {s : ByteArray} {i : Nat} : ∀ te, tok s i = .ok te → te.1.kind ≠ 0 := by
  intro te h
  unfold tok at h
  split at h
  · exact word_kind h
  · split at h
    · exact num_kind h
    · split at h
      · exact enc_kind (by decide) h
      · split at h
        · exact enc_kind (by decide) h
        · exact sig_kind h
theorem sig_err {s : ByteArray} {i : Nat} {e : Int} (h : sigT s i = .error e) : e ≠ 0 := by
  unfold sigT at h
  split at h
  · cases h
  · split at h
    · cases h
    · cases h; decide
theorem tok_err {s : ByteArray} {i : Nat} : ∀ e, tok s i = .error e → e ≠ 0 := by
  intro e h
  unfold tok at h
  split at h
  · exact word_err h
  · split at h
    · exact num_err h
    · split at h
      · exact enc_err h
      · split at h
        · exact enc_err h
        · exact sig_err h
set_option maxHeartbeats 16000000 in
theorem all_c (b : Nat) (s : ByteArray) (hz : s.size ≤ 1048576) (hv : Vd s 0) (w : World) (h : Rdr w b s 0) :
    Calls Tryz.prog 64 #[.pointer (some ⟨b, 0, none⟩)] w (AllPost w b s (lexS s 0 [])) := by
  obtain ⟨i0, hi, hz0, hz1, hz2⟩ := info_parts info_tk
  have hlt := h.lt
  obtain ⟨res, hres⟩ : ∃ res, Hid (res = lexS s 0 []) := ⟨_, rfl⟩
  rw [← hres.out]
  have H := hid2 h
  have HK := hid2 (fun i (hi : i ≤ s.size) (hv : Vd s i) W (hw : Rdr W b s i) => skip_c b i s hi hz hv W hw)
  have HV := hid2 hv
  clear h hv
  go_enter Tryz.func64, Tryz.ntmps64
  go_wp2_with fail
  have S0 : Hid (Sa w (w.alloc (.cells #[.func (.func 90) #[.pointer (some ⟨b, 0, none⟩)] #[], .func (.func 91) #[.pointer (some ⟨b, 0, none⟩)] #[], .func (.func 92) #[.pointer (some ⟨b, 0, none⟩)] #[], .func (.func 93) #[.pointer (some ⟨b, 0, none⟩)] #[], .func (.func 94) #[.pointer (some ⟨b, 0, none⟩)] #[]] 123)) b w.heap.size 0 s (.slice none 0 0) []) :=
    ⟨H.out.next ((Below.refl _ _).alloc (Nat.le_refl _) _), Box.new w (cutsV b) _, World.ownsRow_nil _ _ _ _, Turn.of_below ((Below.refl _ _).alloc (Nat.le_refl _) _), hlt, rfl⟩
  generalize w.alloc _ = W0 at *
  refine Calls.mono (HK.out 0 (by omega) HV.out W0 S0.out.rd) ?_
  rintro r w1 ⟨rfl, m1⟩
  have S1 := hid2 (S0.out.moved m1)
  clear m1 S0 H
  go_wp2_with fail
  go_loopw [5] (fun v wr => ∃ (i : Nat) (L : List Tk), i ≤ s.size ∧ L.length ≤ 16384 ∧ Hid (Vd s i) ∧ Hid (res = lexS s i L) ∧ Hid (Sa w wr b w.heap.size (skp s i) s v L)) (fun _ wr => s.size - rdAt wr b)
  case atStart => exact ⟨0, [], by omega, by simp, HV, hres, S1⟩
  case round =>
    obtain ⟨i, L, hil, hL, HVi, HR, HS⟩ := hrel
    clear S1 hres HV
    have hsk := skp_in i hil
    have hvj := skp_vd i hil HVi.out
    have E1 := hid2 (fun h => lex_end (s := s) (L := L) hil h)
    have E2 := hid2 (fun h hL => lex_many (s := s) (L := L) hil h hL)
    have E3 := hid2 (fun e h hL ht => lex_no (s := s) (L := L) (e := e) hil h hL ht)
    have E4 := hid2 (fun t e h hL ht => lex_ok (s := s) (L := L) (t := t) (e := e) hil HVi.out h hL ht)
    have HP := hid2 (fun t e h ht => tok_past (s := s) (i := skp s i) (t := t) (e := e) h hvj ht)
    have HF := hid2 (fun h W hw hc => firstOf_c b w.heap.size (skp s i) 5 s h hz hvj W hw hc (by omega))
    have hkk : Hid (∀ te, tok s (skp s i) = .ok te → te.1.kind ≠ 0) := tok_kind
    have hke : Hid (∀ e, tok s (skp s i) = .error e → e ≠ 0) := tok_err
    generalize skp s i = j at *
    obtain ⟨c0, c1, f0, f1⟩ := HS.out.rd.two
    have bl := HS.out.rd.lt
    have HAt := hid2 (rdAt_of HS.out.rd)
    obtain ⟨va, vc, hvv⟩ := own_val HS.out.own
    subst hvv
    by_cases hlt2 : j < s.size
    · have hlt3 : (j : Int) < (s.size : Int) := by omega
      by_cases hL2 : L.length = 16384
      · have hE := E2.out hlt2 hL2
        have HRR := hid2 (HR.out.trans hE)
        have hL3 : ((L.length : Int) == 16384) = true := by simp [hL2]
        have hL4 : (L.length : Int) = 16384 := by omega
        clear E1 E2 E3 E4 HP HF hE HR hkk hke hvj
        go_wp2_with fail
        go_quiet (fail)
        have S2 := hid2 (HS.out.next (drewN_b2 wr nq))
        go_wp2_with fail
        go_ret2
        exact ⟨_, by rw [HRR.out]; rfl, by rw [HRR.out]; rfl, ⟨j, S2.out.rd, by rw [HRR.out]; simp⟩, S2.out.trn⟩
      · have hL3 : ((L.length : Int) == 16384) = false := beq_eq_false_iff_ne.2 (by omega)
        replace HF := HF.out hlt2
        have HFF := hid2 HF
        clear HF
        go_wp2_with fail
        go_quiet (fail)
        have S2 := hid2 (HS.out.next (drewN_b2 wr nq))
        generalize wr.drewN nq = W2 at *
        clear c0 c1 f0 f1
        go_wp2_with fail
        refine Calls.mono (HFF.out _ S2.out.rd S2.out.cu) ?_
        intro r w3 hh
        rcases cut_ways hkk.out (fun _ => hke.out) hh with ⟨k, x, n, a, e, ho, ht, hk, rfl, m⟩ | ⟨e, ho, ht, hk, rfl, m⟩ | ⟨ho, rfl, m⟩
        · have S3 := hid2 (S2.out.moved m)
          have hp := HP.out _ _ hlt2 ht
          have HRR := hid2 (HR.out.trans (E4.out _ _ hlt2 hL2 ht))
          clear hh m E1 E2 E3 E4 HP HFF HR hkk hke hvj ht
          obtain ⟨d0, d1, _, _⟩ := S3.out.rd.two
          have rm := S3.out.room
          go_wp2_with (at_builtin; refine wpList_append_own _ rfl _ _ 49 rfl (w.heap.size + 1) 47 i0 (.agg #[.int .i64 0, .string ⟨#[]⟩, .int .i64 0, .int .i64 0]) 4 40 Tryz.underlying49 hi hz0 hz1 hz2 rfl (by decide) _ _ _ rfl ((S3.out.own.alloc _).alloc _) ⟨_, 0, none⟩ 1 1 [.int .i64 k, .string x, .int .i64 n, .int .i64 (a : Nat)] rfl rfl ?c1 ?c2 ?c3 ?c4 ?c5 ?_)
          case c1 => intro jj u hu; have := cell_four_new (w3.alloc (.cells #[.int .i64 k, .string x, .int .i64 n, .int .i64 (a : Nat)] 47)) (.int .i64 k) (.string x) (.int .i64 n) (.int .i64 (a : Nat)) 47 jj u hu; simpa using this
          case c2 => intro u hu; simp at hu; rcases hu with rfl | rfl | rfl | rfl <;> rfl
          case c3 => unfold maxLen; omega
          case c4 => omega
          case c5 => simp; omega
          intro v' w4 hown' hgrow _
          have S3' := S3.out.next ((Below.refl _ _).alloc (Nat.le_refl _) (.cells #[.int .i64 k, .string x, .int .i64 n, .int .i64 (a : Nat)] 47))
          have ow : Toks w4 (w.heap.size + 1) v' (L ++ [⟨k, x, n, a⟩]) := by
            show w4.ownsRow _ _ _ _ (L ++ [(⟨k, x, n, a⟩ : Tk)]).length _
            rw [tks_snoc, List.length_append]
            exact hown'
          have S4 := hid2 (S3'.grown (below_own (Below.refl _ _) S3'.room _ (Nat.le_refl _) S3'.own hgrow) ow)
          have hle : (L ++ [(⟨k, x, n, a⟩ : Tk)]).length ≤ 16384 := by simp; omega
          have HLE := hid2 hle
          clear hown' hgrow S3' ow S3 hle d0 d1
          go_wp2_with fail
          refine Calls.mono (HK.out e hp.2.1 hp.2.2 _ S4.out.rd) ?_
          rintro r w5 ⟨rfl, m5⟩
          have S5 := hid2 (S4.out.moved m5)
          have hse := skp_in e hp.2.1
          clear m5 S4
          go_wp2_with fail
          go_roundw
          case rel => exact ⟨e, L ++ [⟨k, x, n, a⟩], hp.2.1, HLE.out, hp.2.2, HRR, S5⟩
          case measure => rw [rdAt_of S5.out.rd, HAt.out]; omega
        · have S3 := hid2 (S2.out.moved m)
          have HRR := hid2 (HR.out.trans (E3.out _ hlt2 hL2 ht))
          have hk2 : (e != 0) = true := by simpa using hk
          clear hh m E1 E2 E3 E4 HP HFF HR hkk hke hvj ht
          go_wp2_with fail
          go_ret2
          have S4 := S3.out.next ((Below.refl _ _).alloc (Nat.le_refl _) (.cells #[.int .i64 0, .string ⟨#[]⟩, .int .i64 0, .int .i64 0] 47))
          exact ⟨_, by rw [HRR.out]; rfl, by rw [HRR.out]; exact (if_neg hk).mpr rfl, ⟨j, S4.rd, by rw [HRR.out]; simp⟩, S4.trn⟩
        · cases ho
    · obtain rfl : j = s.size := by omega
      have hlt3 : ¬ ((s.size : Int) < (s.size : Int)) := by omega
      have HRR := hid2 (HR.out.trans (E1.out hlt2))
      clear E1 E2 E3 E4 HP HF HR hkk hke hvj
      go_wp2_with fail
      go_quiet (fail)
      have S2 := hid2 (HS.out.next (drewN_b2 wr nq))
      generalize wr.drewN nq = W2 at *
      clear c0 c1 f0 f1
      obtain ⟨c0, c1, f0, f1⟩ := S2.out.rd.two
      have rm := S2.out.room
      go_wp2_with (at_builtin; refine wpList_append_own _ rfl _ _ 49 rfl (w.heap.size + 1) 47 i0 (.agg #[.int .i64 0, .string ⟨#[]⟩, .int .i64 0, .int .i64 0]) 4 40 Tryz.underlying49 hi hz0 hz1 hz2 rfl (by decide) _ _ _ rfl (S2.out.own.alloc _) ⟨_, 0, none⟩ 1 1 [.int .i64 7, .string ⟨#[]⟩, .int .i64 0, .int .i64 (s.size : Nat)] rfl rfl ?c1 ?c2 ?c3 ?c4 ?c5 ?_)
      case c1 => intro jj u hu; have := cell_four_new W2 (.int .i64 7) (.string ⟨#[]⟩) (.int .i64 0) (.int .i64 (s.size : Nat)) 47 jj u hu; simpa using this
      case c2 => intro u hu; simp at hu; rcases hu with rfl | rfl | rfl | rfl <;> rfl
      case c3 => unfold maxLen; omega
      case c4 => omega
      case c5 => simp; omega
      intro v' w4 hown' hgrow _
      have ow : Toks w4 (w.heap.size + 1) v' (L ++ [⟨7, ofL [], 0, s.size⟩]) := by
        show w4.ownsRow _ _ _ _ (L ++ [(⟨7, ofL [], 0, s.size⟩ : Tk)]).length _
        rw [tks_snoc, List.length_append]
        exact hown'
      have S4 := hid2 (S2.out.grown (below_own (Below.refl _ _) S2.out.room _ (Nat.le_refl _) S2.out.own hgrow) ow)
      clear hown' hgrow ow S2
      go_wp2_with fail
      go_ret2
      exact ⟨_, by rw [HRR.out]; rfl, by rw [HRR.out]; exact own_mono S4.out.own (by omega), ⟨s.size, S4.out.rd, by rw [HRR.out]; simp⟩, S4.out.trn⟩
end Go.Proofs.YtecdfnpbcabdnaaGreatDoor
