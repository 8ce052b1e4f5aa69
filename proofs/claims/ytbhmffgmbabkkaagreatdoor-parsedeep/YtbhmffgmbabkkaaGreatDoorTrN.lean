/- Names and texts: lex.IsName, tree.textWithout; the document's two say the same. -/
import Derived.Test.YtbhmffgmbabkkaaGreatDoorMgS
import Derived.Test.YtbhmffgmbabkkaaGreatDoorLxR
import Derived.Test.YtbhmffgmbabkkaaGreatDoorMgR
import Derived.Test.YtbhmffgmbabkkaaGreatDoorLyA
namespace Go.Proofs.YtbhmffgmbabkkaaGreatDoor
open Go.RowKit Go.Lib

/-- What IsName answers. -/
def isN (t : ByteArray) : Bool := !(decide (cls t 1 0 = 0)) && (decide (cls t 3 0 = t.size) && (decide (runeCount t ≤ 32) && !(resv t.data.toList)))
theorem isName_c (t : ByteArray) (hz : t.size ≤ 562949953421312) (w : World) : Calls Tryz.prog 92 #[.string t] w fun e w' => e = .returned (.bool (isN t)) ∧ Below w.heap.size w w' := by
  obtain ⟨b, hb⟩ : ∃ b : Bool, Hid (b = isN t) := ⟨_, rfl⟩
  rw [← hb.out]
  have R1 : ∀ wx, Calls Tryz.prog 136 #[.string t, .int .i64 0, .int .i64 1] wx fun e w' => e = .returned (.int .i64 (cls t 1 0 : Nat)) ∧ Below wx.heap.size wx w' := fun wx => by
    have := run_c t 0 1 hz wx
    unfold runI at this
    rw [if_pos ⟨by omega, by omega⟩] at this
    exact this
  have R3 : ∀ wx, Calls Tryz.prog 136 #[.string t, .int .i64 0, .int .i64 3] wx fun e w' => e = .returned (.int .i64 (cls t 3 0 : Nat)) ∧ Below wx.heap.size wx w' := fun wx => by
    have := run_c t 0 3 hz wx
    unfold runI at this
    rw [if_pos ⟨by omega, by omega⟩] at this
    exact this
  have C := fun wx => Go.Proofs.Tryz.utf8_RuneCountInString t wx (by omega)
  have V := fun wx => reserved_c t wx
  have hb2 := hb.out
  unfold isN at hb2
  have rc : runeCount t ≤ t.size := by rw [count_all]; exact rs_length0 t
  generalize resv t.data.toList = rv at *
  generalize runeCount t = n at *
  generalize cls t 1 0 = x1 at *
  generalize cls t 3 0 = x3 at *
  clear hb
  have HB := hid2 hb2
  clear hb2
  go_enter Tryz.func92, Tryz.ntmps92
  go_wp2_with fail
  refine (R1 _).mono ?_
  rintro e w1 ⟨rfl, b1⟩
  by_cases h1 : x1 = 0
  · subst h1
    go_wp2_with fail
    go_ret
    exact ⟨by rw [HB.out]; rfl, b1⟩
  · have h1' : ((x1 : Int) == 0) = false := beq_eq_false_iff_ne.2 (by omega)
    go_wp2_with fail
    refine (R3 _).mono ?_
    rintro e w2 ⟨rfl, b2⟩
    have b12 := below_on b1 b2 b1.size
    by_cases h3 : x3 = t.size
    · have h3' : ((x3 : Int) != (t.size : Int)) = false := by rw [h3]; simp
      have H3 := hid2 h3
      clear h3
      go_wp2_with fail
      refine (C _).mono ?_
      rintro e w3 ⟨rfl, pos, rfl⟩
      have b3 : Below w.heap.size w (w2.iter t pos) := b12.alloc b12.size _
      generalize w2.iter t pos = w3 at *
      by_cases h4 : n ≤ 32
      · have h4' : (n : Int) ≤ 32 := by omega
        go_wp2_with fail
        refine (V _).mono ?_
        rintro e w4 ⟨rfl, rfl⟩
        go_wp2_with fail
        go_ret
        exact ⟨by rw [HB.out, decide_eq_false h1, decide_eq_true H3.out, decide_eq_true h4]; rfl, b3⟩
      · have h4' : ¬ (n : Int) ≤ 32 := by omega
        go_wp2_with fail
        go_ret
        exact ⟨by rw [HB.out, decide_eq_false h4]; simp, b3⟩
    · have h3' : ((x3 : Int) != (t.size : Int)) = true := by simp; omega
      go_wp2_with fail
      go_ret
      exact ⟨by rw [HB.out, decide_eq_false h3]; simp, b12⟩
theorem rn_full {s : ByteArray} {p : Nat → Bool} : ∀ i, i ≤ s.size → (rn s p i = s.size ↔ (rs s i).all (fun q => p q.1) = true) := by
  refine rn_ind (s := s) (p := p) (fun i hi _ => ?_) (fun i hi h ih _ => ?_) (fun i hi h _ => ?_)
  · rw [rn_end hi, rs_end hi]; simp
  · rw [rn_yes hi h, rs_step hi, List.all_cons, h, Bool.true_and]
    exact ih (width_in s i hi)
  · rw [rn_no hi h, rs_step hi, List.all_cons, h, Bool.false_and]
    constructor
    · intro e; omega
    · intro e; cases e
theorem cls_valid {s : ByteArray} : ∀ i, (rs s i).all (fun q => isC (q.1 : Nat) 3) = true → Vd s i := by
  refine rs_ind (s := s) (fun i hi _ => Vd.end_ hi) (fun i hi ih h => ?_)
  rw [rs_step hi, List.all_cons, Bool.and_eq_true] at h
  obtain ⟨h1, h2⟩ := h
  have hn : noSeq (Utf8.decode s i) = false := by
    cases hq : noSeq (Utf8.decode s i) with
    | false => rfl
    | true =>
      have h5 : (Utf8.decode s i).1 = 65533 := by simp at hq; exact hq.1
      simp only [h5] at h1
      rw [show isC ((65533 : Nat) : Int) 3 = false from isC_end 3] at h1
      cases h1
  refine Vd.ofStep hi hn ?_ (ih h2)
  rw [lets_in]
  unfold isC at h1
  simp only [Int.reduceEq, if_false, if_true] at h1
  simp only [decide_eq_true_eq] at h1 ⊢
  omega
theorem names_same (s : ByteArray) : isN s = rN s := by
  have h3 := rn_full (s := s) (p := fun r => isC (r : Int) 3) 0 (by omega)
  unfold isN rN
  rw [count_all]
  by_cases hz : 0 < s.size
  · have hp := rs_step hz
    have hl : 1 ≤ (rs s 0).length := by rw [hp]; simp
    have hh : (rs s 0).headD (0, 0) = ((Utf8.decode s 0).1, 0) := by rw [hp]; rfl
    rw [decide_eq_true hl, hh, Bool.true_and]
    have h1 : (!(decide (cls s 1 0 = 0))) = isC ((Utf8.decode s 0).1 : Nat) 1 := by
      rcases cls_step (c := 1) hz with ⟨a, b⟩ | ⟨a, b⟩
      · rw [b, decide_eq_true a]; rfl
      · rw [b, decide_eq_false (by omega)]; rfl
    rw [h1]
    by_cases ha : (rs s 0).all (fun q => isC (q.1 : Nat) 3) = true
    · have hv : (sd 10 11 s (rs s 0)).2 = 0 := cls_valid 0 ha
      rw [ha, decide_eq_true hv, decide_eq_true (h3.2 ha), Bool.true_and, Bool.true_and, Bool.true_and]
      cases isC ((Utf8.decode s 0).1 : Nat) 1 <;> simp
    · have ha2 : (rs s 0).all (fun q => isC (q.1 : Nat) 3) = false := by simpa using ha
      rw [ha2, decide_eq_false (fun e => ha (h3.1 e))]
      simp
  · have e0 : s.size = 0 := by omega
    have e1 : cls s 1 0 = 0 := by
      have : cls s 1 0 = s.size := rn_end (by omega)
      omega
    rw [decide_eq_true e1, rs_end (by omega)]
    simp
/-- The bytes that may not stand in a bracket's text, and in a quoted one. -/
def brk : List UInt8 := [91, 93, 34, 10]
def quo : List UInt8 := [34, 10]
/-- A text as a token may have it, without these. -/
def txt (l : List UInt8) (s : ByteArray) : Bool := decide ((sd 10 11 s (rs s 0)).2 = 0) && (decide ((rs s 0).length ≤ 64) && (rs s 0).all fun q => nin l q.1)
theorem size_runes (s : ByteArray) : ∀ i, s.size - i ≤ 4 * (rs s i).length := by
  refine rs_ind (s := s) (fun i hi => ?_) (fun i hi ih => ?_)
  · omega
  · rw [rs_step hi, List.length_cons]
    have := width_four s i
    omega
theorem containsAny_c (s : ByteArray) (l : List UInt8) (hch : ∀ b ∈ l, b.toNat < 128) (h2 : 2 ≤ l.length) (h4 : l.length ≤ 4) (hv : Vd s 0) (hz : s.size ≤ 1048576) (w : World) :
    Calls Tryz.prog 179 #[.string s, .string (ofL l)] w fun e w' => e = .returned (.bool (!((rs s 0).all fun q => nin l q.1))) ∧ Below w.heap.size w w' := by
  have C := fun wx => indexAny_c s l hch h2 h4 0 (by omega) hv hz wx
  have e0 : s.extract 0 s.size = s := ByteArray.extract_zero_size
  rw [e0] at C
  have hr := rn_full (s := s) (p := nin l) 0 (by omega)
  have hin := (rn_in s (nin l) 0 (by omega)).2
  obtain ⟨x, hx⟩ : ∃ x, Hid (x = anyI s l 0) := ⟨_, rfl⟩
  have hb : (!((rs s 0).all fun q => nin l q.1)) = decide (0 ≤ x) := by
    rw [hx.out]
    unfold anyI
    by_cases hlt : rn s (nin l) 0 < s.size
    · rw [if_pos hlt]
      have : (rs s 0).all (fun q => nin l q.1) = false := by
        cases hq : (rs s 0).all (fun q => nin l q.1) with
        | false => rfl
        | true => have := hr.2 hq; omega
      rw [this]; simp
    · rw [if_neg hlt, hr.1 (by omega)]; rfl
  rw [hb]
  rw [← hx.out] at C
  clear hb hr hin e0
  have HC := hid2 C
  clear C
  go_enter Tryz.func179, Tryz.ntmps179
  go_wp2_with fail
  refine Calls.mono (HC.out _) ?_
  rintro e w1 ⟨rfl, b1⟩
  go_wp2_with fail
  go_ret
  exact ⟨rfl, b1⟩
theorem textWithout_c (s : ByteArray) (l : List UInt8) (hch : ∀ b ∈ l, b.toNat < 128) (h2 : 2 ≤ l.length) (h4 : l.length ≤ 4) (hz : s.size ≤ 562949953421312) (w : World) (hT : TabsAt w) :
    Calls Tryz.prog 142 #[.string (ofL l), .string s] w fun e w' => e = .returned (.bool (txt l s)) ∧ Below w.heap.size w w' := by
  have HK := hid2 (fun wx hx => check_c s hz wx hx)
  have HA := hid2 (fun (hv : Vd s 0) (h : s.size ≤ 1048576) wx => containsAny_c s l hch h2 h4 hv h wx)
  have hsz := size_runes s 0
  obtain ⟨b, hb⟩ : ∃ b : Bool, Hid (b = txt l s) := ⟨_, rfl⟩
  rw [← hb.out]
  generalize ofL l = never at *
  by_cases he : (sd 10 11 s (rs s 0)).2 = 0
  · have HV := hid2 (show Vd s 0 from he)
    have hk := chkV_ok he
    by_cases hn : (rs s 0).length ≤ 64
    · have hz2 : s.size ≤ 1048576 := by omega
      have hb3 : Hid (b = (rs s 0).all fun q => nin l q.1) := by
        show _ = _
        rw [hb.out]; unfold txt; rw [decide_eq_true he, decide_eq_true hn]; rfl
      rw [hk] at HK
      generalize (rs s 0).all (fun q => nin l q.1) = q at *
      generalize (rs s 0).length = n at *
      have hn' : (n : Int) ≤ 64 := by omega
      have hq := hb3.out
      subst hq
      clear hb hb3 hk he hsz hn
      go_enter Tryz.func142, Tryz.ntmps142
      go_wp2_with fail
      refine Calls.mono (HK.out _ hT) ?_
      rintro e w1 ⟨rfl, b1⟩
      go_wp2_with fail
      refine Calls.mono (HA.out HV.out hz2 _) ?_
      rintro e w2 ⟨rfl, b2⟩
      go_wp2_with fail
      go_ret
      exact ⟨by simp, below_on b1 b2 b1.size⟩
    · have hb3 : Hid (b = false) := by
        show _ = _
        rw [hb.out]; unfold txt; rw [decide_eq_false hn]; simp
      rw [hk] at HK
      generalize (rs s 0).length = n at *
      have hn' : ¬ (n : Int) ≤ 64 := by omega
      have hq := hb3.out
      subst hq
      clear hb hb3 hk he hsz hn
      go_enter Tryz.func142, Tryz.ntmps142
      go_wp2_with fail
      refine Calls.mono (HK.out _ hT) ?_
      rintro e w1 ⟨rfl, b1⟩
      go_wp2_with fail
      go_ret
      exact ⟨rfl, b1⟩
  · have hb3 : Hid (b = false) := by
      show _ = _
      rw [hb.out]; unfold txt; rw [decide_eq_false he]; rfl
    obtain ⟨p, er, hpe⟩ : ∃ p er, sd 10 11 s (rs s 0) = (p, er) := ⟨_, _, rfl⟩
    rw [hpe] at he
    have hk := chkV_no hpe he
    rw [hk] at HK
    have he' : (er == 0) = false := beq_eq_false_iff_ne.2 he
    have hq := hb3.out
    subst hq
    clear hb hb3 hk he hsz hpe
    go_enter Tryz.func142, Tryz.ntmps142
    go_wp2_with fail
    refine Calls.mono (HK.out _ hT) ?_
    rintro e w1 ⟨rfl, b1⟩
    go_wp2_with fail
    go_ret
    exact ⟨rfl, b1⟩
end Go.Proofs.YtbhmffgmbabkkaaGreatDoor
