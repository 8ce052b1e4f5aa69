import Derived.Test.YtigldebdljfnbaaGreatDoorCqCoR
import Derived.BigQuiet
import Derived.Test.YtigldebdljfnbaaGreatDoorCqMhN
import Derived.Laws.OwnMore
import Derived.Laws.EntriesVeiled
namespace Go.Proofs.YtigldebdljfnbaaGreatDoor
open Go.RowKit

abbrev soL (b : Nat) (wn cn ln : Int) : List Value := [.slice (some ⟨b, 0, none⟩) 33 33, .int .i64 wn, .int .i64 cn, .int .i64 ln]
def belowB (n k : Int) : Bool := decide (0 ≤ n) && decide (n < k)
def FtC (fn : Nat) (B : Int → Int → Int → Co → Bool) : Prop := ∀ (wn cn ln : Int) (b sb : Nat) (c : Co) (ad : Option Addr) (n cap : Nat) (w : World), C64 wn → C64 cn → C64 ln → Box w sb (soL b wn cn ln) → CFit c → Calls Tryz.prog fn #[.pointer (some ⟨sb, 0, none⟩), coV c (.slice ad n cap)] w fun e w' => e = .returned (.bool (B wn cn ln c)) ∧ Below w.heap.size w w'
set_option maxHeartbeats 1000000 in
theorem cbelow_c (n k : Int) (w : World) : Calls Tryz.prog 126 #[.int .i64 n, .int .i64 k] w fun e w' => e = .returned (.bool (belowB n k)) ∧ w' = w := by
  unfold belowB
  by_cases h1 : 0 ≤ n
  · by_cases h2 : n < k
    · rw [decide_eq_true h1, decide_eq_true h2]
      go_enter Tryz.func126, Tryz.ntmps126
      go_wp2_with fail
      go_ret
      exact ⟨rfl, rfl⟩
    · rw [decide_eq_true h1, decide_eq_false h2]
      go_enter Tryz.func126, Tryz.ntmps126
      go_wp2_with fail
      go_ret
      exact ⟨rfl, rfl⟩
  · rw [decide_eq_false h1]
    go_enter Tryz.func126, Tryz.ntmps126
    go_wp2_with fail
    go_ret
    exact ⟨rfl, rfl⟩
set_option maxHeartbeats 1000000 in
theorem cplain_f : FtC 76 fun _ _ _ c => decide (c.n = 0) && (decide (c.m = 0)) := by
  intro wn cn ln b sb c ad n cap w hw hc hl hb hf
  have B1 : Hid (∀ o, Below w.heap.size w (w.alloc o)) := fun o => (Below.refl _ _).alloc (Nat.le_refl _) _
  clear hw hc hl hb
  by_cases h0 : c.n = 0
  case neg =>
    show Calls _ _ _ _ fun e w' => e = .returned (.bool (decide (c.n = 0) && (decide (c.m = 0)))) ∧ _
    rw [decide_eq_false h0]
    have k0 : (c.n == 0) = false := by simpa using h0
    go_enter Tryz.func76, Tryz.ntmps76
    go_wp2_with fail
    go_ret
    exact ⟨rfl, B1.out _⟩
  by_cases h1 : c.m = 0
  case neg =>
    show Calls _ _ _ _ fun e w' => e = .returned (.bool (decide (c.n = 0) && (decide (c.m = 0)))) ∧ _
    rw [decide_eq_true h0, decide_eq_false h1]
    have k1 : (c.m == 0) = false := by simpa using h1
    go_enter Tryz.func76, Tryz.ntmps76
    go_wp2_with fail
    go_ret
    exact ⟨rfl, B1.out _⟩
  show Calls _ _ _ _ fun e w' => e = .returned (.bool (decide (c.n = 0) && (decide (c.m = 0)))) ∧ _
  rw [decide_eq_true h0, decide_eq_true h1]
  go_enter Tryz.func76, Tryz.ntmps76
  go_wp2_with fail
  go_ret
  exact ⟨rfl, B1.out _⟩
set_option maxHeartbeats 1000000 in
theorem cany_f : FtC 73 fun _ _ _ c => decide (c.m = 0) := by
  intro wn cn ln b sb c ad n cap w hw hc hl hb hf
  have B1 : Hid (∀ o, Below w.heap.size w (w.alloc o)) := fun o => (Below.refl _ _).alloc (Nat.le_refl _) _
  clear hw hc hl hb
  by_cases h0 : c.m = 0
  case neg =>
    show Calls _ _ _ _ fun e w' => e = .returned (.bool (decide (c.m = 0))) ∧ _
    rw [decide_eq_false h0]
    have k0 : (c.m == 0) = false := by simpa using h0
    go_enter Tryz.func73, Tryz.ntmps73
    go_wp2_with fail
    go_ret
    exact ⟨rfl, B1.out _⟩
  show Calls _ _ _ _ fun e w' => e = .returned (.bool (decide (c.m = 0))) ∧ _
  rw [decide_eq_true h0]
  go_enter Tryz.func73, Tryz.ntmps73
  go_wp2_with fail
  go_ret
  exact ⟨rfl, B1.out _⟩
set_option maxHeartbeats 1000000 in
theorem cfactor_f : FtC 94 fun _ _ _ c => decide (0 ≤ c.n) && (decide (1 ≤ c.m)) := by
  intro wn cn ln b sb c ad n cap w hw hc hl hb hf
  have B1 : Hid (∀ o, Below w.heap.size w (w.alloc o)) := fun o => (Below.refl _ _).alloc (Nat.le_refl _) _
  clear hw hc hl hb
  by_cases h0 : 0 ≤ c.n
  case neg =>
    show Calls _ _ _ _ fun e w' => e = .returned (.bool (decide (0 ≤ c.n) && (decide (1 ≤ c.m)))) ∧ _
    rw [decide_eq_false h0]
    go_enter Tryz.func94, Tryz.ntmps94
    go_wp2_with fail
    go_ret
    exact ⟨rfl, B1.out _⟩
  by_cases h1 : 1 ≤ c.m
  case neg =>
    show Calls _ _ _ _ fun e w' => e = .returned (.bool (decide (0 ≤ c.n) && (decide (1 ≤ c.m)))) ∧ _
    rw [decide_eq_true h0, decide_eq_false h1]
    go_enter Tryz.func94, Tryz.ntmps94
    go_wp2_with fail
    go_ret
    exact ⟨rfl, B1.out _⟩
  show Calls _ _ _ _ fun e w' => e = .returned (.bool (decide (0 ≤ c.n) && (decide (1 ≤ c.m)))) ∧ _
  rw [decide_eq_true h0, decide_eq_true h1]
  go_enter Tryz.func94, Tryz.ntmps94
  go_wp2_with fail
  go_ret
  exact ⟨rfl, B1.out _⟩
set_option maxHeartbeats 1000000 in
theorem czero_f : FtC 75 fun _ _ _ c => belowB c.n 2 && decide (c.m = 0) := by
  intro wn cn ln b sb c ad n cap w hw hc hl hb hf
  have B1 : Hid (∀ o, Below w.heap.size w (w.alloc o)) := fun o => (Below.refl _ _).alloc (Nat.le_refl _) _
  have HC := chid (fun W => cbelow_c c.n 2 W)
  clear hw hc hl hb
  show Calls _ _ _ _ fun e w' => e = .returned (.bool (belowB c.n 2 && decide (c.m = 0))) ∧ _
  generalize belowB c.n 2 = r at *
  cases r with
  | false =>
    go_enter Tryz.func75, Tryz.ntmps75
    go_wp2_with fail
    refine Calls.mono (HC.out _) ?_
    rintro e w1 ⟨rfl, rfl⟩
    go_wp2_with fail
    go_ret
    exact ⟨rfl, by first | exact B1.out _ | exact (B1.out _).drew | exact cdrewN (B1.out _) _⟩
  | true =>
    by_cases h1 : c.m = 0
    · rw [decide_eq_true h1]
      go_enter Tryz.func75, Tryz.ntmps75
      go_wp2_with fail
      refine Calls.mono (HC.out _) ?_
      rintro e w1 ⟨rfl, rfl⟩
      go_wp2_with fail
      go_ret
      exact ⟨rfl, by first | exact B1.out _ | exact (B1.out _).drew | exact cdrewN (B1.out _) _⟩
    · rw [decide_eq_false h1]
      have k1 : (c.m == 0) = false := by simpa using h1
      go_enter Tryz.func75, Tryz.ntmps75
      go_wp2_with fail
      refine Calls.mono (HC.out _) ?_
      rintro e w1 ⟨rfl, rfl⟩
      go_wp2_with fail
      go_ret
      exact ⟨rfl, by first | exact B1.out _ | exact (B1.out _).drew | exact cdrewN (B1.out _) _⟩
set_option maxHeartbeats 1000000 in
theorem cwins_f : FtC 78 fun wn _ _ c => belowB c.n wn && decide (c.m = 0) := by
  intro wn cn ln b sb c ad n cap w hw hc hl hb hf
  have B1 : Hid (∀ o, Below w.heap.size w (w.alloc o)) := fun o => (Below.refl _ _).alloc (Nat.le_refl _) _
  have HC := chid (fun W => cbelow_c c.n wn W)
  have s1 := hb.cell 1 _ rfl
  have sl := hb.lt
  clear hw hc hl hb
  show Calls _ _ _ _ fun e w' => e = .returned (.bool (belowB c.n wn && decide (c.m = 0))) ∧ _
  generalize belowB c.n wn = r at *
  cases r with
  | false =>
    go_enter Tryz.func78, Tryz.ntmps78
    go_wp2_with fail
    go_quiet (first | (go_at_call 126; refine Calls.quiet_of_same (HC.out _)))
    go_wp2_with fail
    go_ret
    exact ⟨rfl, by first | exact B1.out _ | exact (B1.out _).drew | exact cdrewN (B1.out _) _⟩
  | true =>
    by_cases h1 : c.m = 0
    · rw [decide_eq_true h1]
      go_enter Tryz.func78, Tryz.ntmps78
      go_wp2_with fail
      go_quiet (first | (go_at_call 126; refine Calls.quiet_of_same (HC.out _)))
      go_wp2_with fail
      go_ret
      exact ⟨rfl, by first | exact B1.out _ | exact (B1.out _).drew | exact cdrewN (B1.out _) _⟩
    · rw [decide_eq_false h1]
      have k1 : (c.m == 0) = false := by simpa using h1
      go_enter Tryz.func78, Tryz.ntmps78
      go_wp2_with fail
      go_quiet (first | (go_at_call 126; refine Calls.quiet_of_same (HC.out _)))
      go_wp2_with fail
      go_ret
      exact ⟨rfl, by first | exact B1.out _ | exact (B1.out _).drew | exact cdrewN (B1.out _) _⟩
set_option maxHeartbeats 1000000 in
theorem ccrons_f : FtC 80 fun _ cn _ c => belowB c.n cn && decide (c.m = 0) := by
  intro wn cn ln b sb c ad n cap w hw hc hl hb hf
  have B1 : Hid (∀ o, Below w.heap.size w (w.alloc o)) := fun o => (Below.refl _ _).alloc (Nat.le_refl _) _
  have HC := chid (fun W => cbelow_c c.n cn W)
  have s2 := hb.cell 2 _ rfl
  have sl := hb.lt
  clear hw hc hl hb
  show Calls _ _ _ _ fun e w' => e = .returned (.bool (belowB c.n cn && decide (c.m = 0))) ∧ _
  generalize belowB c.n cn = r at *
  cases r with
  | false =>
    go_enter Tryz.func80, Tryz.ntmps80
    go_wp2_with fail
    go_quiet (first | (go_at_call 126; refine Calls.quiet_of_same (HC.out _)))
    go_wp2_with fail
    go_ret
    exact ⟨rfl, by first | exact B1.out _ | exact (B1.out _).drew | exact cdrewN (B1.out _) _⟩
  | true =>
    by_cases h1 : c.m = 0
    · rw [decide_eq_true h1]
      go_enter Tryz.func80, Tryz.ntmps80
      go_wp2_with fail
      go_quiet (first | (go_at_call 126; refine Calls.quiet_of_same (HC.out _)))
      go_wp2_with fail
      go_ret
      exact ⟨rfl, by first | exact B1.out _ | exact (B1.out _).drew | exact cdrewN (B1.out _) _⟩
    · rw [decide_eq_false h1]
      have k1 : (c.m == 0) = false := by simpa using h1
      go_enter Tryz.func80, Tryz.ntmps80
      go_wp2_with fail
      go_quiet (first | (go_at_call 126; refine Calls.quiet_of_same (HC.out _)))
      go_wp2_with fail
      go_ret
      exact ⟨rfl, by first | exact B1.out _ | exact (B1.out _).drew | exact cdrewN (B1.out _) _⟩
set_option maxHeartbeats 1000000 in
theorem clocals_f : FtC 85 fun _ _ ln c => belowB c.n ln && decide (c.m = 0) := by
  intro wn cn ln b sb c ad n cap w hw hc hl hb hf
  have B1 : Hid (∀ o, Below w.heap.size w (w.alloc o)) := fun o => (Below.refl _ _).alloc (Nat.le_refl _) _
  have HC := chid (fun W => cbelow_c c.n ln W)
  have s3 := hb.cell 3 _ rfl
  have sl := hb.lt
  clear hw hc hl hb
  show Calls _ _ _ _ fun e w' => e = .returned (.bool (belowB c.n ln && decide (c.m = 0))) ∧ _
  generalize belowB c.n ln = r at *
  cases r with
  | false =>
    go_enter Tryz.func85, Tryz.ntmps85
    go_wp2_with fail
    go_quiet (first | (go_at_call 126; refine Calls.quiet_of_same (HC.out _)))
    go_wp2_with fail
    go_ret
    exact ⟨rfl, by first | exact B1.out _ | exact (B1.out _).drew | exact cdrewN (B1.out _) _⟩
  | true =>
    by_cases h1 : c.m = 0
    · rw [decide_eq_true h1]
      go_enter Tryz.func85, Tryz.ntmps85
      go_wp2_with fail
      go_quiet (first | (go_at_call 126; refine Calls.quiet_of_same (HC.out _)))
      go_wp2_with fail
      go_ret
      exact ⟨rfl, by first | exact B1.out _ | exact (B1.out _).drew | exact cdrewN (B1.out _) _⟩
    · rw [decide_eq_false h1]
      have k1 : (c.m == 0) = false := by simpa using h1
      go_enter Tryz.func85, Tryz.ntmps85
      go_wp2_with fail
      go_quiet (first | (go_at_call 126; refine Calls.quiet_of_same (HC.out _)))
      go_wp2_with fail
      go_ret
      exact ⟨rfl, by first | exact B1.out _ | exact (B1.out _).drew | exact cdrewN (B1.out _) _⟩
set_option maxHeartbeats 1000000 in
theorem creason_f : FtC 82 fun _ _ _ c => decide (1 ≤ c.n) && (decide (c.n ≤ 3) && (decide (c.m = 1) || decide (c.m = 2))) := by
  intro wn cn ln b sb c ad n cap w hw hc hl hb hf
  have B1 : Hid (∀ o, Below w.heap.size w (w.alloc o)) := fun o => (Below.refl _ _).alloc (Nat.le_refl _) _
  clear hw hc hl hb
  by_cases h0 : 1 ≤ c.n
  case neg =>
    show Calls _ _ _ _ fun e w' => e = .returned (.bool (decide (1 ≤ c.n) && (decide (c.n ≤ 3) && (decide (c.m = 1) || decide (c.m = 2))))) ∧ _
    rw [decide_eq_false h0]
    go_enter Tryz.func82, Tryz.ntmps82
    go_wp2_with fail
    go_ret
    exact ⟨rfl, B1.out _⟩
  by_cases h1 : c.n ≤ 3
  case neg =>
    show Calls _ _ _ _ fun e w' => e = .returned (.bool (decide (1 ≤ c.n) && (decide (c.n ≤ 3) && (decide (c.m = 1) || decide (c.m = 2))))) ∧ _
    rw [decide_eq_true h0, decide_eq_false h1]
    go_enter Tryz.func82, Tryz.ntmps82
    go_wp2_with fail
    go_ret
    exact ⟨rfl, B1.out _⟩
  by_cases h2 : c.m = 1
  case pos =>
    show Calls _ _ _ _ fun e w' => e = .returned (.bool (decide (1 ≤ c.n) && (decide (c.n ≤ 3) && (decide (c.m = 1) || decide (c.m = 2))))) ∧ _
    rw [decide_eq_true h0, decide_eq_true h1, decide_eq_true h2]
    go_enter Tryz.func82, Tryz.ntmps82
    go_wp2_with fail
    go_ret
    exact ⟨rfl, B1.out _⟩
  have k2 : (c.m == 1) = false := by simpa using h2
  by_cases h3 : c.m = 2
  case pos =>
    show Calls _ _ _ _ fun e w' => e = .returned (.bool (decide (1 ≤ c.n) && (decide (c.n ≤ 3) && (decide (c.m = 1) || decide (c.m = 2))))) ∧ _
    rw [decide_eq_true h0, decide_eq_true h1, decide_eq_false h2, decide_eq_true h3]
    go_enter Tryz.func82, Tryz.ntmps82
    go_wp2_with fail
    go_ret
    exact ⟨rfl, B1.out _⟩
  have k3 : (c.m == 2) = false := by simpa using h3
  show Calls _ _ _ _ fun e w' => e = .returned (.bool (decide (1 ≤ c.n) && (decide (c.n ≤ 3) && (decide (c.m = 1) || decide (c.m = 2))))) ∧ _
  rw [decide_eq_true h0, decide_eq_true h1, decide_eq_false h2, decide_eq_false h3]
  go_enter Tryz.func82, Tryz.ntmps82
  go_wp2_with fail
  go_ret
  exact ⟨rfl, B1.out _⟩
def fitsB (op : Nat) (wn cn ln : Int) (c : Co) : Bool :=
  if op = 1 then decide (c.m = 0)
  else if op = 2 then belowB c.n 2 && decide (c.m = 0)
  else if op = 4 then belowB c.n wn && decide (c.m = 0)
  else if op = 5 then belowB c.n cn && decide (c.m = 0)
  else if op = 6 then decide (1 ≤ c.n) && (decide (c.n ≤ 3) && (decide (c.m = 1) || decide (c.m = 2)))
  else if op = 7 then belowB c.n ln && decide (c.m = 0)
  else if op = 13 then decide (0 ≤ c.n) && (decide (1 ≤ c.m))
  else decide (c.n = 0) && (decide (c.m = 0))
theorem cfits_all : ∀ op, 1 ≤ op → op ≤ 32 → FtC (fitsT.getD op 0) (fitsB op) :=
  op_cases cany_f czero_f cplain_f cwins_f ccrons_f creason_f clocals_f cplain_f cplain_f cplain_f cplain_f cplain_f cfactor_f cplain_f cplain_f cplain_f cplain_f cplain_f cplain_f cplain_f cplain_f cplain_f cplain_f cplain_f cplain_f cplain_f cplain_f cplain_f cplain_f cplain_f cplain_f cplain_f

theorem IntsAt.shape {w : World} {v : Value} {ts : List Int} (h : IntsAt w v ts) : ∃ ad cap, v = .slice ad ts.length cap := by
  obtain ⟨ad, cap, hv, _⟩ := h
  exact ⟨ad, cap, hv⟩
theorem IntsAt.open {w : World} {ad : Option Addr} {n cap : Nat} {ts : List Int} (h : IntsAt w (.slice ad n cap) ts) (hp : 0 < ts.length) : ∃ b off, ad = some ⟨b, off, none⟩ ∧ b < w.heap.size ∧ ∀ i (h : i < ts.length), w.cell? ⟨b, off + i, none⟩ = some (.int .i64 ts[i]) := by
  obtain ⟨ad', cap', hv, h⟩ := h
  cases hv
  rcases h with h | ⟨b, off, ha, hb, hc⟩
  · rw [h] at hp; cases hp
  · exact ⟨b, off, ha, hb, hc⟩
set_option maxHeartbeats 2000000 in
theorem cequal_c (ss ts : List Int) (a1 a2 : Option Addr) (k1 k2 : Nat) (w : World) (h1 : IntsAt w (.slice a1 ss.length k1) ss) (h2 : IntsAt w (.slice a2 ts.length k2) ts) (hm : ss.length ≤ 9223372036854775806) :
    Calls Tryz.prog 125 #[.slice a1 ss.length k1, .slice a2 ts.length k2] w fun e w' => e = .returned (.bool (decide (ss = ts))) ∧ Below w.heap.size w w' := by
  have HL := chid h1
  have HK := chid h2
  obtain ⟨R, hR⟩ : ∃ R, Hid (R = decide (ss = ts)) := ⟨_, rfl⟩
  rw [← hR.out]
  obtain ⟨N, hN⟩ : ∃ N, Hid (N = ss.length) := ⟨_, rfl⟩
  obtain ⟨N', hN'⟩ : ∃ N, Hid (N = ts.length) := ⟨_, rfl⟩
  rw [← hN.out] at HL hm ⊢
  rw [← hN'.out] at HK ⊢
  clear h1 h2
  by_cases hl : N = N'
  case neg =>
    have hr : R = false := by rw [hR.out]; exact decide_eq_false (fun e => hl (by rw [hN.out, hN'.out, e]))
    have k3 : ((N : Int) != (N' : Int)) = true := by simp; omega
    subst hr
    go_enter Tryz.func125, Tryz.ntmps125
    go_wp2_with fail
    go_ret
    exact ⟨rfl, Below.refl _ _⟩
  subst hl
  go_enter Tryz.func125, Tryz.ntmps125
  go_wp2_with fail
  go_loopw [13] (fun i wr => ∃ j : Nat, i = .int .i64 (j : Nat) ∧ j ≤ N ∧ Hid (∀ q (h1 : q < ss.length) (h2 : q < ts.length), q < j → ss[q] = ts[q]) ∧ Hid (Below w.heap.size w wr)) (fun i _ => match i with | .int _ p => ((N : Int) - p).toNat | _ => 0)
  case atStart => exact ⟨0, rfl, by omega, fun q _ _ h => absurd h (by omega), Below.refl _ _⟩
  case round =>
    obtain ⟨j, rfl, hj, HQ, HB⟩ := hrel
    by_cases hlt : j < N
    · have hlt' : (j : Int) < (N : Int) := by omega
      have h1 : j < ss.length := by rw [← hN.out]; exact hlt
      have h2 : j < ts.length := by rw [← hN'.out]; exact hlt
      obtain ⟨b, off, rfl, hbl, hx⟩ := HL.out.open (by omega)
      obtain ⟨b', off', rfl, hbl', hx'⟩ := HK.out.open (by omega)
      have c0 := (HB.out.cell (p := ⟨b, off + j, none⟩) hbl).trans (hx j h1)
      have e0 := (HB.out.cell (p := ⟨b', off' + j, none⟩) hbl').trans (hx' j h2)
      have lb : b < wr.heap.size := Nat.lt_of_lt_of_le hbl HB.out.size
      have lb' : b' < wr.heap.size := Nat.lt_of_lt_of_le hbl' HB.out.size
      have HNe : Hid (ss[j] ≠ ts[j] → R = false) := fun h => by
        rw [hR.out]
        exact decide_eq_false (fun e => h (by subst e; rfl))
      have HEq : Hid (∀ x y, x = ss[j] → y = ts[j] → x = y → ss[j] = ts[j]) := fun x y hx hy h => by rw [← hx, ← hy, h]
      clear hx hx'
      obtain ⟨x, hxx⟩ : ∃ x, Hid (x = ss[j]) := ⟨_, chid rfl⟩
      obtain ⟨y, hyy⟩ : ∃ y, Hid (y = ts[j]) := ⟨_, chid rfl⟩
      rw [← hxx.out] at c0 HNe
      rw [← hyy.out] at e0 HNe
      by_cases hxy : x = y
      · have k4 : (x != y) = false := by simpa using hxy
        have HXY := chid hxy
        clear hxy
        go_wp2_with fail
        go_quiet (fail)
        have HB1 := chid (cdrewN HB.out nq)
        go_wp2_with fail
        go_roundw
        case rel => exact ⟨j + 1, by go_num, by omega, (fun q g1 g2 hq => by
          by_cases he : q = j
          · subst he
            exact HEq.out _ _ hxx.out hyy.out HXY.out
          · exact HQ.out q g1 g2 (by omega)), HB1⟩
        case measure => simp; omega
      · have k4 : (x != y) = true := by simpa using hxy
        obtain rfl := HNe.out hxy
        go_wp2_with fail
        go_quiet (fail)
        have HB1 := chid (cdrewN HB.out nq)
        go_wp2_with fail
        go_ret
        exact ⟨rfl, HB1.out⟩
    · have hlt' : ¬ (j : Int) < (N : Int) := by omega
      have hr : R = true := by
        rw [hR.out]
        exact decide_eq_true (List.ext_getElem (by rw [← hN.out, ← hN'.out]) (fun q g1 g2 => HQ.out q g1 g2 (by have := hN.out; omega)))
      subst hr
      go_wp2_with fail
      go_ret
      exact ⟨rfl, HB.out⟩
def mkF (k : Int) (ts ss : List Int) : Int := if ss = ts then k else 0
set_option maxHeartbeats 1000000 in
theorem cmade_c (k : Int) (ts ss : List Int) (p q : Nat) (c : Co) (ad a1 : Option Addr) (n cap k1 : Nat) (w : World) (hm : MkF w p q k ts) (h1 : IntsAt w (.slice a1 ss.length k1) ss) (hs : ss.length ≤ 9223372036854775806) :
    Calls Tryz.prog 124 #[coV c (.slice ad n cap), .slice a1 ss.length k1, .pointer (some ⟨p, 0, none⟩), .pointer (some ⟨q, 0, none⟩)] w fun e w' => e = .returned (.int .i64 (mkF k ts ss)) ∧ Below w.heap.size w w' := by
  obtain ⟨v, hv1, hv2⟩ := hm.tt
  obtain ⟨a2, k2, rfl⟩ := hv2.shape
  have lp := hm.lp
  have lq := hm.lq
  have kk := hm.kk
  have B1 : ∀ o, Below w.heap.size w (w.alloc o) := fun o => (Below.refl _ _).alloc (Nat.le_refl _) _
  have HC := chid (fun o => cequal_c ss ts a1 a2 k1 k2 (w.alloc o) (h1.next (B1 o)) (hv2.next (B1 o)) hs)
  have HA := chid B1
  clear hm h1 hv2 B1
  unfold mkF
  by_cases h : ss = ts
  · have HD : Hid (decide (ss = ts) = true) := decide_eq_true h
    rw [if_pos h]
    simp only [HD.out] at HC
    have hl : ss.length = ts.length := by rw [h]
    rw [← hl] at HC hv1
    clear h hl
    go_enter Tryz.func124, Tryz.ntmps124
    go_wp2_with fail
    refine Calls.mono (HC.out _) ?_
    rintro e w1 ⟨rfl, b1⟩
    have HB := chid (cbelow_on (HA.out _) b1 (by simp))
    have kk1 := (HB.out.cell (p := ⟨q, 0, none⟩) lq).trans kk
    have lq1 := Nat.lt_of_lt_of_le lq HB.out.size
    clear b1 kk hv1
    go_wp2_with fail
    go_ret
    exact ⟨rfl, HB.out⟩
  · rw [if_neg h]
    have HD : Hid (decide (ss = ts) = false) := decide_eq_false h
    simp only [HD.out] at HC
    clear h
    go_enter Tryz.func124, Tryz.ntmps124
    go_wp2_with fail
    refine Calls.mono (HC.out _) ?_
    rintro e w1 ⟨rfl, b1⟩
    have HB := chid (cbelow_on (HA.out _) b1 (by simp))
    clear b1 kk hv1
    go_wp2_with fail
    go_ret
    exact ⟨rfl, HB.out⟩

def alikeF (k : Nat) (ss : List Int) : Int := if ss.length = k ∧ ss.headD 0 ≠ 3 ∧ ∀ x, x ∈ ss → x = ss.headD 0 then ss.headD 0 else 0
theorem alikeF_no {k : Nat} {ss : List Int} (h : ¬ (ss.length = k ∧ ss.headD 0 ≠ 3 ∧ ∀ x, x ∈ ss → x = ss.headD 0)) : alikeF k ss = 0 := if_neg h
theorem alikeF_yes {k : Nat} {ss : List Int} (h : ss.length = k ∧ ss.headD 0 ≠ 3 ∧ ∀ x, x ∈ ss → x = ss.headD 0) : alikeF k ss = ss.headD 0 := if_pos h
theorem headD_get {ss : List Int} (h : 0 < ss.length) : ss[0] = ss.headD 0 := by
  cases ss with
  | nil => cases h
  | cons x r => rfl
set_option maxHeartbeats 2000000 in
theorem calike_c (k : Nat) (hk : 1 ≤ k) (hk2 : k ≤ 9) (ss : List Int) (a1 : Option Addr) (k1 : Nat) (w : World) (h1 : IntsAt w (.slice a1 ss.length k1) ss) (hm : ss.length ≤ 9223372036854775806) :
    Calls Tryz.prog 129 #[.slice a1 ss.length k1, .int .i64 (k : Nat)] w fun e w' => e = .returned (.int .i64 (alikeF k ss)) ∧ Below w.heap.size w w' := by
  have HL := chid h1
  obtain ⟨R, hR⟩ : ∃ R, Hid (R = alikeF k ss) := ⟨_, rfl⟩
  rw [← hR.out]
  obtain ⟨N, hN⟩ : ∃ N, Hid (N = ss.length) := ⟨_, rfl⟩
  rw [← hN.out] at HL hm ⊢
  clear h1
  by_cases hl : N = k
  case neg =>
    have hr : R = 0 := by rw [hR.out]; exact alikeF_no (fun h => hl (by rw [hN.out]; exact h.1))
    have k3 : ((N : Int) != (k : Int)) = true := by simp; omega
    subst hr
    go_enter Tryz.func129, Tryz.ntmps129
    go_wp2_with fail
    go_ret
    exact ⟨rfl, Below.refl _ _⟩
  subst hl
  have h0 : 0 < ss.length := by rw [← hN.out]; omega
  obtain ⟨b, off, rfl, hbl, hx⟩ := HL.out.open h0
  have HX := chid hx
  have c0 := hx 0 h0
  rw [headD_get h0, Nat.add_zero] at c0
  obtain ⟨s0, hs0⟩ : ∃ s, Hid (s = ss.headD 0) := ⟨_, rfl⟩
  rw [← hs0.out] at c0
  have k3 : ((N : Int) != (N : Int)) = false := by simp
  have hN0 : (0 : Int) < (N : Int) := by omega
  clear hx
  by_cases h3 : s0 = 3
  case pos =>
    have hr : R = 0 := by rw [hR.out]; exact alikeF_no (fun h => h.2.1 (by rw [← hs0.out]; exact h3))
    subst hr h3
    go_enter Tryz.func129, Tryz.ntmps129
    go_wp2_with fail
    go_ret
    exact ⟨rfl, Below.refl _ _⟩
  have k4 : (s0 == 3) = false := by simpa using h3
  go_enter Tryz.func129, Tryz.ntmps129
  go_wp2_with fail
  go_loopw [19] (fun i wr => ∃ j : Nat, i = .int .i64 (j : Nat) ∧ j ≤ N ∧ Hid (∀ q (h1 : q < ss.length), q < j → ss[q] = s0) ∧ wr = w) (fun i _ => match i with | .int _ p => ((N : Int) - p).toNat | _ => 0)
  case atStart => exact ⟨0, rfl, by omega, fun q _ h => absurd h (by omega), rfl⟩
  case round =>
    obtain ⟨j, rfl, hj, HQ, rfl⟩ := hrel
    by_cases hlt : j < N
    · have hlt' : (j : Int) < (N : Int) := by omega
      have h1 : j < ss.length := by rw [← hN.out]; exact hlt
      have cj := HX.out j h1
      have HNe : Hid (ss[j] ≠ s0 → R = 0) := fun h => by
        rw [hR.out]
        exact alikeF_no (fun hh => h (by rw [hs0.out]; exact hh.2.2 _ (List.getElem_mem h1)))
      obtain ⟨x, hxx⟩ : ∃ x, Hid (x = ss[j]) := ⟨_, chid rfl⟩
      rw [← hxx.out] at cj HNe
      by_cases hxy : x = s0
      · have k5 : (x != s0) = false := by simpa using hxy
        have HXY := chid hxy
        clear hxy
        go_wp2_with fail
        go_roundw
        case rel => exact ⟨j + 1, by go_num, by omega, (fun q g1 hq => by
          by_cases he : q = j
          · subst he
            rw [← hxx.out]
            exact HXY.out
          · exact HQ.out q g1 (by omega)), by first | rfl | trivial⟩
        case measure => simp; omega
      · have k5 : (x != s0) = true := by simpa using hxy
        obtain rfl := HNe.out hxy
        go_wp2_with fail
        go_ret
        exact ⟨rfl, Below.refl _ _⟩
    · have hlt' : ¬ (j : Int) < (N : Int) := by omega
      have hr : R = s0 := by
        rw [hR.out, hs0.out]
        refine alikeF_yes ⟨hN.out.symm, by rw [← hs0.out]; exact h3, fun x hx => ?_⟩
        obtain ⟨q, hq, rfl⟩ := List.getElem_of_mem hx
        rw [← hs0.out]
        exact HQ.out q hq (by have := hN.out; omega)
      subst hr
      go_wp2_with fail
      go_ret
      exact ⟨rfl, Below.refl _ _⟩
def StC (fn : Nat) (F : Co → List Int → Int) : Prop := ∀ (c : Co) (ss : List Int) (v : Value) (a1 : Option Addr) (k1 : Nat) (w : World), CSits w c v → ss.length = c.parts.length → ss.length ≤ 8192 → IntsAt w (.slice a1 ss.length k1) ss → ss.length ≤ k1 → k1 ≤ 9223372036854775807 → Calls Tryz.prog fn #[coV c v, .slice a1 ss.length k1] w fun e w' => e = .returned (.int .i64 (F c ss)) ∧ Below w.heap.size w w'
set_option maxHeartbeats 1000000 in
set_option maxRecDepth 20000 in
theorem cmemo_s : StC 86 fun _ ss => alikeF 1 ss := by
  intro c ss v a1 k1 w hs hlen hl h1 hk hk2
  clear hlen hk hk2
  obtain ⟨ad, cap, rfl, -, -⟩ := hs.parts.shape
  have B1 : ∀ o, Below w.heap.size w (w.alloc o) := fun o => (Below.refl _ _).alloc (Nat.le_refl _) _
  have HC := chid (fun o => calike_c 1 (by omega) (by omega) ss a1 k1 (w.alloc o) (h1.next (B1 o)) (by omega))
  have HA := chid B1
  clear h1 B1 hs
  show Calls _ _ _ _ fun e w' => e = .returned (.int .i64 (alikeF 1 ss)) ∧ _
  generalize alikeF 1 ss = r at *
  go_enter Tryz.func86, Tryz.ntmps86
  go_wp2_with fail
  refine Calls.mono (HC.out _) ?_
  rintro e w1 ⟨rfl, b1⟩
  have HB := chid (cbelow_on (HA.out _) b1 (by simp))
  clear b1
  go_wp2_with fail
  go_ret
  exact ⟨rfl, HB.out⟩
set_option maxHeartbeats 1000000 in
set_option maxRecDepth 20000 in
theorem ceither_s : StC 110 fun _ ss => alikeF 2 ss := by
  intro c ss v a1 k1 w hs hlen hl h1 hk hk2
  clear hlen hk hk2
  obtain ⟨ad, cap, rfl, -, -⟩ := hs.parts.shape
  have B1 : ∀ o, Below w.heap.size w (w.alloc o) := fun o => (Below.refl _ _).alloc (Nat.le_refl _) _
  have HC := chid (fun o => calike_c 2 (by omega) (by omega) ss a1 k1 (w.alloc o) (h1.next (B1 o)) (by omega))
  have HA := chid B1
  clear h1 B1 hs
  show Calls _ _ _ _ fun e w' => e = .returned (.int .i64 (alikeF 2 ss)) ∧ _
  generalize alikeF 2 ss = r at *
  go_enter Tryz.func110, Tryz.ntmps110
  go_wp2_with fail
  refine Calls.mono (HC.out _) ?_
  rintro e w1 ⟨rfl, b1⟩
  have HB := chid (cbelow_on (HA.out _) b1 (by simp))
  clear b1
  go_wp2_with fail
  go_ret
  exact ⟨rfl, HB.out⟩
set_option maxHeartbeats 1000000 in
set_option maxRecDepth 20000 in
theorem cfail_s : StC 83 fun c ss => if ss = [] then c.m else 0 := by
  intro c ss v a1 k1 w hs hlen hl h1 hk hk2
  clear hlen hk hk2
  have hfit := hs.fit
  obtain ⟨ad, cap, rfl, -, -⟩ := hs.parts.shape
  have B1 : Hid (∀ o, Below w.heap.size w (w.alloc o)) := fun o => (Below.refl _ _).alloc (Nat.le_refl _) _
  have hm := hfit.m
  unfold C64 at hm
  clear hs h1 hfit
  by_cases h : ss = []
  · subst h
    show Calls _ _ _ _ fun e w' => e = .returned (.int .i64 c.m) ∧ _
    simp only [List.length_nil] at *
    go_enter Tryz.func83, Tryz.ntmps83
    go_wp2_with fail
    go_ret
    exact ⟨rfl, B1.out _⟩
  · have hp : 0 < ss.length := List.length_pos_iff.2 h
    show Calls _ _ _ _ fun e w' => e = .returned (.int .i64 (if ss = [] then c.m else 0)) ∧ _
    rw [if_neg h]
    clear h
    generalize ss.length = N at *
    have k0 : ((N : Int) != 0) = true := by simp; omega
    go_enter Tryz.func83, Tryz.ntmps83
    go_wp2_with fail
    go_ret
    exact ⟨rfl, B1.out _⟩
def choiceF (ss : List Int) : Int := if ss.headD 0 = 2 then alikeF 2 ss.tail else 0
theorem ints_tail {w : World} {b off k : Nat} {x : Int} {r : List Int} (h : IntsAt w (.slice (some ⟨b, off, none⟩) (x :: r).length k) (x :: r)) (k' : Nat) : IntsAt w (.slice (some ⟨b, off + 1, none⟩) r.length k') r := by
  obtain ⟨b', off', ha, hb, hc⟩ := h.open (by simp)
  cases ha
  refine ⟨_, _, rfl, .inr ⟨b, off + 1, rfl, hb, fun i hi => ?_⟩⟩
  have := hc (i + 1) (by simpa using hi)
  rw [show off + 1 + i = off + (i + 1) by omega]
  simpa using this
set_option maxHeartbeats 1000000 in
set_option maxRecDepth 20000 in
theorem cchoice_s : StC 112 fun _ ss => choiceF ss := by
  intro c ss v a1 k1 w hs hlen hl h1 hk hk2
  clear hlen
  obtain ⟨ad, cap, rfl, -, -⟩ := hs.parts.shape
  have B1 : ∀ o, Below w.heap.size w (w.alloc o) := fun o => (Below.refl _ _).alloc (Nat.le_refl _) _
  have HA := chid B1
  cases ss with
  | nil =>
    show Calls _ _ _ _ fun e w' => e = .returned (.int .i64 0) ∧ _
    clear hs h1
    simp only [List.length_nil] at *
    go_enter Tryz.func112, Tryz.ntmps112
    go_wp2_with fail
    go_ret
    exact ⟨rfl, HA.out _⟩
  | cons x r =>
    obtain ⟨b, off, rfl, hb, hc⟩ := h1.open (by simp)
    have c0 := hc 0 (by simp)
    simp only [Nat.add_zero, List.getElem_cons_zero] at c0
    have HT := chid (fun k' => ints_tail h1 k')
    have HC : Hid (∀ o a k', (r = [] ∨ a = some ⟨b, off + 1, none⟩) → Calls Tryz.prog 129 #[.slice a r.length k', .int .i64 2] (w.alloc o) fun e w' => e = .returned (.int .i64 (alikeF 2 r)) ∧ Below (w.alloc o).heap.size (w.alloc o) w') := fun o a k' ha => calike_c 2 (by omega) (by omega) r a k' (w.alloc o) (by
      rcases ha with ha | ha
      · subst ha; exact ⟨_, _, rfl, .inl rfl⟩
      · subst ha; exact (HT.out k').next (B1 o)) (by simp at hl; omega)
    simp only [List.length_cons] at *
    clear hs h1 hc B1 HT
    show Calls _ _ _ _ fun e w' => e = .returned (.int .i64 (if x = 2 then alikeF 2 r else 0)) ∧ _
    generalize hr : r.length = N at *
    have k0 : ((((N + 1 : Nat) : Int)) == 0) = false := by simp; omega
    have k0' : (((N : Int) + 1) == 0) = false := by simp; omega
    have hN0 : (0 : Int) < (N : Int) + 1 := by omega
    by_cases h2 : x = 2
    · subst h2
      rw [if_pos rfl]
      generalize alikeF 2 r = rr at *
      go_enter Tryz.func112, Tryz.ntmps112
      go_wp2_with fail
      all_goals try simp only [Nat.add_sub_cancel]
      · rename_i hk1
        refine Calls.mono (HC.out _ _ _ (.inl (List.eq_nil_of_length_eq_zero (by omega)))) ?_
        rintro e w1 ⟨rfl, b1⟩
        have HB := chid (cbelow_on (HA.out _) b1 (by simp))
        clear b1
        go_wp2_with fail
        go_ret
        exact ⟨rfl, HB.out⟩
      · refine Calls.mono (HC.out _ _ _ (.inr rfl)) ?_
        rintro e w1 ⟨rfl, b1⟩
        have HB := chid (cbelow_on (HA.out _) b1 (by simp))
        clear b1
        go_wp2_with fail
        go_ret
        exact ⟨rfl, HB.out⟩
    · rw [if_neg h2]
      have k2 : (x != 2) = true := by simpa using h2
      go_enter Tryz.func112, Tryz.ntmps112
      go_wp2_with fail
      go_ret
      exact ⟨rfl, HA.out _⟩

def sortF (lad : Co → List Int → Int) (op : Nat) (c : Co) (ss : List Int) : Int := match mkT.getD op none with
  | some x => mkF x.1 x.2 ss
  | none => if op = 6 then (if ss = [] then c.m else 0) else if op = 7 then alikeF 1 ss else if op = 27 then alikeF 2 ss else if op = 28 then choiceF ss else lad c ss
def csort (lad : Co → List Int → Int) (wn cn ln : Int) : Co → Int
  | ⟨k, n, m, ps⟩ => if 1 ≤ k ∧ k ≤ 32 then (if fitsB k.toNat wn cn ln ⟨k, n, m, ps⟩ = true then (if (ps.map (csort lad wn cn ln)).contains 0 = true then 0 else sortF lad k.toNat ⟨k, n, m, ps⟩ (ps.map (csort lad wn cn ln))) else 0) else 0
theorem csort_eq (lad : Co → List Int → Int) (wn cn ln : Int) (c : Co) : csort lad wn cn ln c = if 1 ≤ c.op ∧ c.op ≤ 32 then (if fitsB c.op.toNat wn cn ln c = true then (if (c.parts.map (csort lad wn cn ln)).contains 0 = true then 0 else sortF lad c.op.toNat c (c.parts.map (csort lad wn cn ln))) else 0) else 0 := by
  cases c
  rw [csort]
def CSoC (lad : Co → List Int → Int) (wn cn ln : Int) (t : Co) : Prop := ∀ (v : Value) (b sb : Nat) (w : World), CSits w t v → cnodes t ≤ 8192 → Box w sb (soL b wn cn ln) → RowsAt w b → Calls Tryz.prog 48 #[.pointer (some ⟨sb, 0, none⟩), coV t v] w fun e w' => e = .returned (.int .i64 (csort lad wn cn ln t)) ∧ Below w.heap.size w w'
theorem info_int : (Tryz.prog.info? 3).map (fun i => (i.zero, i.size, i.bytes)) = some (some (.int .i64 0), 1, 8) := by kernel_rfl
theorem cown_box {w : World} {B size : Nat} {e : TypeId} {v : Value} {n : Nat} {xs : List Value} (h : w.ownsRow B e size v n xs) : (v = .slice none 0 0 ∧ n = 0) ∨ ∃ g cap, v = .slice (some ⟨g, 0, none⟩) n cap ∧ B ≤ g ∧ Box w g xs := by
  obtain ⟨h1, ⟨h2, h3⟩ | ⟨g, cap, cur, h2, h3, h4, h5, h6, h7, h8⟩⟩ := h
  · exact .inl ⟨h2, h3⟩
  · exact .inr ⟨g, cap, h2, h3, (Box.ofBlock h4).part (by rw [← h8]; exact List.take_prefix _ _)⟩
def Ent (f : Nat) : Prop := ∀ (args : Array Value) (W : World), (callFunc f args).run Tryz.prog W = .ok (.enter f args) W
theorem ent_fits : ∀ k, 1 ≤ k → k ≤ 32 → Ent (fitsT.getD k 0) := by
  apply op_cases (p := fun k => Ent (fitsT.getD k 0)) <;> (intro args W; kernel_rfl)
theorem mk_none : ∀ k : Fin 33, 1 ≤ k.val → mkT.getD k.val none = none → k.val = 6 ∨ k.val = 7 ∨ k.val = 27 ∨ k.val = 28 ∨ k.val = 32 := by decide
theorem ent_sort {w : World} {k f : Nat} {q : Array Value} (h1 : 1 ≤ k) (h2 : k ≤ 32) (h : SoF w k (.func (.func f) #[] q)) : Ent f := by
  unfold SoF at h
  split at h
  · obtain ⟨p, q', e, _⟩ := h
    cases e
    intro args W
    kernel_rfl
  · next hm =>
    rcases mk_none ⟨k, by omega⟩ h1 hm with e | e | e | e | e <;> (dsimp only at e; subst e; cases h; intro args W; kernel_rfl)
theorem SoF.shape {w : World} {op : Nat} {fs : Value} (h : SoF w op fs) : ∃ f c, fs = .func (.func f) #[] c := by
  unfold SoF at h
  split at h
  · obtain ⟨p, q, rfl, _⟩ := h; exact ⟨_, _, rfl⟩
  · exact ⟨_, _, h⟩
theorem WoF.shape {w : World} {op : Nat} {fs : Value} (h : WoF w op fs) : ∃ f c, fs = .func (.func f) #[] c := by
  unfold WoF at h
  split at h
  · exact ⟨_, _, h⟩
  · obtain ⟨p, rfl, _⟩ := h; exact ⟨_, _, rfl⟩
  · obtain ⟨p, rfl, _⟩ := h; exact ⟨_, _, rfl⟩
theorem ints_box {w : World} {g : Nat} {xs : List Int} (h : Box w g (ints xs)) (cap : Nat) : IntsAt w (.slice (some ⟨g, 0, none⟩) xs.length cap) xs :=
  ⟨_, _, rfl, .inr ⟨g, 0, rfl, h.lt, fun i hi => by rw [Nat.zero_add]; exact box_cell h (List.getElem?_eq_getElem hi)⟩⟩
theorem csorts_all (lad : Co → List Int → Int) (HLad : StC 117 lad) {k : Nat} (h1 : 1 ≤ k) (h2 : k ≤ 32) {f : Nat} {q : Array Value} (c : Co) (ss : List Int) (v : Value) (a1 : Option Addr) (k1 : Nat) (w : World) (h : SoF w k (.func (.func f) #[] q)) (hs : CSits w c v) (hl : ss.length = c.parts.length) (hm : ss.length ≤ 8192) (hi : IntsAt w (.slice a1 ss.length k1) ss) (hk : ss.length ≤ k1) (hc : k1 ≤ 9223372036854775807) :
    Calls Tryz.prog f (#[coV c v, .slice a1 ss.length k1] ++ q) w fun e w' => e = .returned (.int .i64 (sortF lad k c ss)) ∧ Below w.heap.size w w' := by
  unfold SoF at h
  unfold sortF
  cases hx : mkT.getD k none with
  | some x =>
    rw [hx] at h
    obtain ⟨p, q', e, hM⟩ := h
    cases e
    obtain ⟨ad, cap, rfl, -, -⟩ := hs.parts.shape
    exact cmade_c x.1 x.2 ss p q' c ad a1 _ cap k1 w hM hi (by omega)
  | none =>
    rw [hx] at h
    have hh : (Value.func (.func f) #[] q) = .func (.func (soT.getD k 0)) #[] #[] := h
    simp only [Value.func.injEq, Fn.func.injEq, true_and] at hh
    obtain ⟨rfl, rfl⟩ := hh
    rcases mk_none ⟨k, by omega⟩ h1 hx with e | e | e | e | e <;> dsimp only at e <;> subst e
    · exact cfail_s c ss v a1 k1 w hs hl hm hi hk hc
    · exact cmemo_s c ss v a1 k1 w hs hl hm hi hk hc
    · exact ceither_s c ss v a1 k1 w hs hl hm hi hk hc
    · exact cchoice_s c ss v a1 k1 w hs hl hm hi hk hc
    · exact HLad c ss v a1 k1 w hs hl hm hi hk hc
set_option maxHeartbeats 4000000 in
set_option maxRecDepth 20000 in
theorem csort_step (lad : Co → List Int → Int) (HLad : StC 117 lad) (wn cn ln : Int) (h64 : C64 wn ∧ C64 cn ∧ C64 ln) (t : Co) (ih : ∀ x, x ∈ t.parts → CSoC lad wn cn ln x) : CSoC lad wn cn ln t := by
  intro v b sb w hs hn hb hr
  obtain ⟨op, tn, tm, ps⟩ := t
  have HS := chid hs
  have HL := chid (show CAt w v ps from hs.parts)
  have HI := chid (show ∀ x, x ∈ ps → CSoC lad wn cn ln x from ih)
  have HBx := chid hb
  have HRw := chid hr
  have HFt := chid hs.fit
  obtain ⟨ad, cap, rfl, hc1, hc2⟩ := HL.out.shape
  have hlen : ps.length ≤ 8192 := by
    have h1 := length_cnodesL ps
    rw [cnodes_eq] at hn
    have h2 : 1 + cnodesL ps ≤ 8192 := hn
    omega
  have hnp : Hid (∀ x, x ∈ ps → cnodes x ≤ 8192) := fun x hx => by
    have := cnodes_part (t := ⟨op, tn, tm, ps⟩) hx
    omega
  obtain ⟨R, hR⟩ : ∃ R, Hid (R = csort lad wn cn ln ⟨op, tn, tm, ps⟩) := ⟨_, rfl⟩
  rw [← hR.out]
  obtain ⟨N, hN⟩ : ∃ N, Hid (N = ps.length) := ⟨_, rfl⟩
  rw [← hN.out] at hc1 HL hlen HS ⊢
  have s0 := hb.cell 0 _ rfl
  have sl := hb.lt
  have hbl := hr.lt
  clear hs ih hn
  show Calls Tryz.prog 48 #[.pointer (some ⟨sb, 0, none⟩), .agg #[.int .i64 op, .int .i64 tn, .int .i64 tm, .slice ad N cap]] w _
  by_cases ho : 1 ≤ op ∧ op ≤ 32
  case neg =>
    have h0 : R = 0 := by rw [hR.out, csort_eq]; exact if_neg ho
    subst h0
    have HA : Hid (∀ o, Below w.heap.size w (w.alloc o)) := fun o => (Below.refl _ _).alloc (Nat.le_refl _) _
    by_cases h1 : op < 1
    · go_enter Tryz.func48, Tryz.ntmps48
      go_wp2_with fail
      go_ret
      exact ⟨rfl, HA.out _⟩
    · have h2 : 32 < op := by omega
      go_enter Tryz.func48, Tryz.ntmps48
      go_wp2_with fail
      go_ret
      exact ⟨rfl, HA.out _⟩
  obtain ⟨k, rfl⟩ : ∃ k : Nat, op = (k : Int) := ⟨op.toNat, by omega⟩
  have hk1 : 1 ≤ k := by omega
  have hk2 : k ≤ 32 := by omega
  have hR1 : Hid (R = if fitsB k wn cn ln ⟨k, tn, tm, ps⟩ = true then (if (ps.map (csort lad wn cn ln)).contains 0 = true then 0 else sortF lad k ⟨k, tn, tm, ps⟩ (ps.map (csort lad wn cn ln))) else 0) := by
    show _ = _
    rw [hR.out, csort_eq]
    exact if_pos ho
  obtain ⟨fs, fw, g1, g2, g3, g4, g5⟩ := hr.row k hk1 hk2
  obtain ⟨f1, q1, rfl⟩ := g4.shape
  obtain ⟨f2, q2, rfl⟩ := g5.shape
  have HF := chid (fun W (hb : Box W sb (soL b wn cn ln)) => cfits_all k hk1 hk2 wn cn ln b sb ⟨k, tn, tm, ps⟩ ad N cap W h64.1 h64.2.1 h64.2.2 hb HFt.out)
  have G4 := chid g4
  have hEf := ent_fits k hk1 hk2
  have hEs := ent_sort hk1 hk2 G4.out
  unfold Ent at hEf hEs
  generalize fitsT.getD k 0 = ff at *
  have hi1 : ¬ (k : Int) < 1 := by omega
  have hi2 : ¬ 32 < (k : Int) := by omega
  have hi3 : (k : Int) < 33 := by omega
  clear g4 g5 hb
  generalize fitsB k wn cn ln ⟨k, tn, tm, ps⟩ = fb at *
  clear ho hR hr
  have X0 := Box.new w (coL ⟨k, tn, tm, ps⟩ (.slice ad N cap)) 30
  have ka := (Below.refl w.heap.size w).alloc (Nat.le_refl _) (.cells (coL ⟨k, tn, tm, ps⟩ (.slice ad N cap)).toArray 30)
  have t0 := (ka.cell (p := ⟨sb, 0, none⟩) sl).trans s0
  have t1 := (ka.cell (p := ⟨b, k * 3, none⟩) hbl).trans g1
  have t2 := (ka.cell (p := ⟨b, k * 3 + 1, none⟩) hbl).trans g2
  have t3 := (ka.cell (p := ⟨b, k * 3 + 2, none⟩) hbl).trans g3
  have c0 := X0.cell 0 _ rfl
  have x0 := X0.lt
  have k0 : b < (w.alloc (.cells (coL ⟨k, tn, tm, ps⟩ (.slice ad N cap)).toArray 30)).heap.size := Nat.lt_of_lt_of_le hbl ka.size
  have k1 : sb < (w.alloc (.cells (coL ⟨k, tn, tm, ps⟩ (.slice ad N cap)).toArray 30)).heap.size := Nat.lt_of_lt_of_le sl ka.size
  have HX0 := chid X0
  have HKa := chid ka
  clear s0 g1 g2 g3 X0 ka
  go_enter Tryz.func48, Tryz.ntmps48
  go_wp2_with fail
  generalize hW0 : w.alloc _ = w0 at *
  clear hW0
  go_region_held3 (fun w' => w'.cell? ⟨sb, 0, none⟩ = some (.slice (some ⟨b, 0, none⟩) 33 33) ∧ w'.cell? ⟨w.heap.size, 0, none⟩ = some (.int .i64 (k : Int)) ∧ (w'.cell? ⟨b, k * 3, none⟩ = some (.func (.func ff) #[] #[]) ∧ w'.cell? ⟨b, k * 3 + 1, none⟩ = some (.func (.func f1) #[] q1) ∧ w'.cell? ⟨b, k * 3 + 2, none⟩ = some (.func (.func f2) #[] q2))) (simp [go_sem, *]) (fail)
  have Z0 := (Box.new w0 [.func (.func ff) #[] #[], .func (.func f1) #[] q1, .func (.func f2) #[] q2] 120).next (cdrewN (Below.refl _ _) 1)
  have b1 := cdrewN ((Below.refl w0.heap.size w0).alloc (Nat.le_refl _) (.cells [.func (.func ff) #[] #[], .func (.func f1) #[] q1, .func (.func f2) #[] q2].toArray 120)) 1
  change Box (w0.alloc (.cells #[.func (.func ff) #[] #[], .func (.func f1) #[] q1, .func (.func f2) #[] q2] 120)).drew w0.heap.size _ at Z0
  change Below w0.heap.size w0 (w0.alloc (.cells #[.func (.func ff) #[] #[], .func (.func f1) #[] q1, .func (.func f2) #[] q2] 120)).drew at b1
  generalize (w0.alloc (.cells #[.func (.func ff) #[] #[], .func (.func f1) #[] q1, .func (.func f2) #[] q2] 120)).drew = w1 at *
  have HX1 := chid (HX0.out.next b1)
  have HB1 := chid (cbelow_on HKa.out b1 HKa.out.size)
  have HZ := chid Z0
  have z0 := Z0.cell 0 _ rfl
  have z1 := Z0.lt
  have c0 := HX1.out.cell 0 _ rfl
  have c1 := HX1.out.cell 1 _ rfl
  have c2 := HX1.out.cell 2 _ rfl
  have c3 := HX1.out.cell 3 _ rfl
  have x1 := HX1.out.lt
  obtain ⟨g0, hg0⟩ : ∃ g0, g0 = w0.heap.size := ⟨_, rfl⟩
  have hg1 : Hid (w.heap.size < g0) := by rw [hg0]; exact x0
  rw [← hg0] at HZ z0 z1 ⊢
  clear t0 t1 t2 t3 x0 k0 k1 HX0 HKa Z0 b1 hg0
  have HFc := chid (HF.out w1 (HBx.out.next HB1.out))
  clear HF
  go_wp2_with fail
  refine Calls.mono HFc.out ?_
  rintro e w2 ⟨rfl, b2⟩
  have HB2 := chid (cbelow_on HB1.out b2 HB1.out.size)
  have HX2 := chid (HX1.out.next b2)
  have HZ2 := chid (HZ.out.next b2)
  clear b2 HFc HB1 HX1 HZ c0 c1 c2 c3 x1 z0 z1 hEf
  cases fb with
  | false =>
    have h0 : R = 0 := hR1.out
    subst h0
    go_wp2_with fail
    go_ret
    exact ⟨rfl, HB2.out⟩
  | true =>
    have hR2 : Hid (R = (if (ps.map (csort lad wn cn ln)).contains 0 = true then 0 else sortF lad k ⟨k, tn, tm, ps⟩ (ps.map (csort lad wn cn ln)))) := hR1.out
    obtain ⟨i0, hi, hz0, hz1, hz2⟩ := info_parts info_int
    have c3 := HX2.out.cell 3 _ rfl
    have x2 := HX2.out.lt
    have hz2' : (8 : Int) * (N : Int) ≤ 140737488355328 := by omega
    clear hR1
    go_wp2_with (at_make; refine wpList_make_full _ rfl _ _ 125 rfl w2.heap.size 3 i0 (.int .i64 0) 1 Tryz.underlying125 hi hz0 hz1 _ _ _ _ N rfl rfl rfl rfl (by rw [hz2]; omega) (by unfold maxLen; omega) (Nat.le_refl _) ?_; intro w3 hown hgrow; have hb3 : Below w2.heap.size w2 w3 := (Below.refl _ _).grown hgrow (Nat.le_refl _) (by simp); have d3 := (hb3.cell (p := ⟨w.heap.size, 3, none⟩) x2).trans c3; have x3 : w.heap.size < w3.heap.size := Nat.lt_of_lt_of_le x2 hb3.size; have HB3 := chid hb3; have HO := chid hown; clear hb3 hown hgrow)
    have HBp : Hid (Box w3 w2.heap.size (ints (List.replicate N 0))) := by
      rcases cown_box HO.out with ⟨h, _⟩ | ⟨g, c, h, _, hb⟩
      · cases h
      · simp only [Value.slice.injEq, Option.some.injEq, Addr.mk.injEq, and_true] at h
        obtain ⟨⟨rfl, _⟩, _⟩ := h
        rw [madeCells_one _ _ (by rfl)] at hb
        refine chid ?_
        simpa [ints] using hb
    have hp1 : Hid (w.heap.size < w2.heap.size) := x2
    obtain ⟨pb, hpb⟩ : ∃ pb, Hid (pb = w2.heap.size) := ⟨_, rfl⟩
    rw [← hpb.out] at HBp hp1 ⊢
    have HB3' := chid (cbelow_on HB2.out HB3.out HB2.out.size)
    have HX3 := chid (HX2.out.next HB3.out)
    have HZ3 := chid (HZ2.out.next HB3.out)
    have hg2 : Hid (g0 < pb) := by rw [hpb.out]; exact HZ2.out.lt
    clear HO HX2 HZ2 HB2 HB3 c3 x2 hi hz0 hz1 hz2 hz2' hpb
    go_loopw [38] (fun i wr => ∃ (j : Nat) (xs : List Int), i = .int .i64 (j : Nat) ∧ j ≤ N ∧ Hid (xs.length = N) ∧ Hid (xs.take j = (ps.take j).map (csort lad wn cn ln)) ∧ Hid (((ps.take j).map (csort lad wn cn ln)).contains 0 = false) ∧ Hid (Box wr pb (ints xs)) ∧ Hid (Turn [pb] w3 wr)) (fun i _ => match i with | .int _ p => ((N : Int) - p).toNat | _ => 0)
    case atStart => exact ⟨0, _, rfl, by omega, chid (by simp), chid (by simp), chid (by simp), HBp.out, Turn.refl _ _⟩
    case round =>
      obtain ⟨j, xs, rfl, hj, HXl, HXs, HNo, HBx', HT⟩ := hrel
      have HBr := chid (cbelow_turn HB3'.out HT.out (fun b hb => by simp at hb; have := hp1.out; omega))
      by_cases hlt : j < N
      · have hlt' : (j : Int) < (N : Int) := by omega
        have hl1 : j < ps.length := by rw [← hN.out]; exact hlt
        obtain ⟨bb, off, cap', e0, hle, hcap, hbl', hx⟩ := HL.out.open (by omega)
        simp only [Value.slice.injEq] at e0
        obtain ⟨rfl, -, rfl⟩ := e0
        obtain ⟨u, h6, hu⟩ := hx j hl1
        have k6 := h6.keep (w' := wr) (fun q => HBr.out.cell (p := ⟨bb, q, none⟩) hbl')
        obtain ⟨p0, p1, p2, p3⟩ := k6
        have lbr : bb < wr.heap.size := Nat.lt_of_lt_of_le hbl' HBr.out.size
        have A : ∀ o, Below wr.heap.size wr (wr.alloc o) := fun o => (Below.refl _ _).alloc (Nat.le_refl _) _
        have HC := chid (fun o => HI.out ps[j] (List.getElem_mem hl1) u b sb (wr.alloc o) ((hu.next HBr.out).next (A o)) (hnp.out _ (List.getElem_mem hl1)) ((HBx.out.next HBr.out).next (A o)) ((HRw.out.next HBr.out).next (A o)))
        have HA := chid A
        have HMem := chid (List.getElem_mem hl1)
        have HTk : Hid ((ps.take (j + 1)).map (csort lad wn cn ln) = (ps.take j).map (csort lad wn cn ln) ++ [csort lad wn cn ln ps[j]]) := by
          show _ = _
          rw [List.take_succ_eq_append_getElem hl1, List.map_append]; rfl
        obtain ⟨au, cu, rfl, -, -⟩ := hu.parts.shape
        clear h6 hu hx A
        generalize ps[j] = x at *
        generalize hr : csort lad wn cn ln x = r at *
        have Hr := chid hr
        clear hl1 hr
        go_wp2_with fail
        refine Calls.mono (HC.out _) ?_
        rintro e w5 ⟨rfl, b5⟩
        have HW5 := chid (cbelow_on (HA.out _) b5 (by simp))
        have BP := HBx'.out.next HW5.out
        obtain ⟨y, hy⟩ : ∃ y, xs[j]? = some y := ⟨_, List.getElem?_eq_getElem (by rw [HXl.out]; exact hlt)⟩
        have p4 := box_cell BP hy
        have p5 := box_free BP (i := j) (by rw [HXl.out]; exact hlt)
        have p6 := BP.lt
        have HBP := chid BP
        clear b5 HC HA BP hy p0 p1 p2 p3
        by_cases h0 : r = 0
        · have hR3 : R = 0 := by
            rw [hR2.out, if_pos]
            rw [List.contains_iff_mem, List.mem_map]
            exact ⟨x, HMem.out, by rw [Hr.out, h0]⟩
          subst hR3
          subst h0
          have HBe := chid (cbelow_turn (cbelow_on HBr.out HW5.out HBr.out.size) (cturn_set w5 pb j (.int .i64 0)) (fun b hb => by simp at hb; have := hp1.out; omega))
          clear hR2 HTk Hr HMem
          go_wp2_with fail
          go_ret
          exact ⟨rfl, HBe.out⟩
        · have hT5 := chid ((HT.out.andBelow HW5.out).andSet ⟨pb, j, none⟩ (.int .i64 r) (.inl (by simp)))
          have hB5 := chid (box_put HBP.out (i := j) (by rw [HXl.out]; exact hlt) r)
          have e1 : Hid ((xs.set j r).take (j + 1) = (ps.take (j + 1)).map (csort lad wn cn ln)) := by
            show _ = _
            have hj2 : j < xs.length := by rw [HXl.out]; exact hlt
            rw [HTk.out, ← HXs.out, List.take_succ_eq_append_getElem (by simpa using hj2), List.take_set_of_le (Nat.le_refl _)]
            simp
          have e2 : Hid (((ps.take (j + 1)).map (csort lad wn cn ln)).contains 0 = false) := by
            show _ = _
            have := HNo.out
            rw [HTk.out]
            simp only [List.contains_eq_mem, List.mem_append, List.mem_singleton, decide_eq_false_iff_not, not_or] at this ⊢
            exact ⟨this, fun e => h0 e.symm⟩
          have e3 : Hid ((xs.set j r).length = N) := by show _ = _; rw [List.length_set]; exact HXl.out
          clear hR2 HTk Hr HMem HBP HXs HXl HNo
          go_wp2_with fail
          go_roundw
          case rel => exact ⟨j + 1, xs.set j r, by go_num, by omega, e3.out, e1.out, e2.out, hB5.out, hT5.out⟩
          case measure => simp; omega
      · have hjN : j = N := by omega
        have hlt' : ¬ (j : Int) < (N : Int) := by omega
        have ex : xs = ps.map (csort lad wn cn ln) := by
          have := HXs.out
          rw [hjN, List.take_of_length_le (by rw [HXl.out]; exact Nat.le_refl _), List.take_of_length_le (by rw [hN.out]; exact Nat.le_refl _)] at this
          exact this
        have hno : (ps.map (csort lad wn cn ln)).contains 0 = false := by
          have := HNo.out
          rw [hjN, List.take_of_length_le (by rw [hN.out]; exact Nat.le_refl _)] at this
          exact this
        have hR3 : Hid (R = sortF lad k ⟨k, tn, tm, ps⟩ xs) := by
          show _ = _
          rw [hR2.out, if_neg (by rw [hno]; decide), ex]
        have BX := HX3.out.turn HT.out (by simp; have := hp1.out; omega)
        have BZ := HZ3.out.turn HT.out (by simp; have := hg2.out; omega)
        have p0 := BX.cell 0 _ rfl
        have p1 := BX.cell 1 _ rfl
        have p2 := BX.cell 2 _ rfl
        have p3 := BX.cell 3 _ rfl
        have p4 := BX.lt
        have z1 := BZ.cell 1 _ rfl
        have z2 := BZ.lt
        have HC := csorts_all lad HLad hk1 hk2 ⟨k, tn, tm, ps⟩ xs (.slice ad N cap) (some ⟨pb, 0, none⟩) N wr (G4.out.next HBr.out) (HS.out.next HBr.out) (by rw [HXl.out]; exact hN.out) (by rw [HXl.out]; exact hlen) (ints_box HBx'.out N) (by rw [HXl.out]; exact Nat.le_refl _) (by omega)
        rw [HXl.out, ← hR3.out] at HC
        have HCc := chid HC
        clear BX BZ HC hR3 hR2 hno ex
        go_wp2_with fail
        refine Calls.mono HCc.out ?_
        rintro e w5 ⟨rfl, b5⟩
        have HBe := chid (cbelow_on HBr.out b5 HBr.out.size)
        clear b5
        go_wp2_with fail
        go_ret
        exact ⟨rfl, HBe.out⟩

abbrev co0 : Co := ⟨0, 0, 0, []⟩
def lstep (c : Co) (ss : List Int) (i : Nat) : Prop := (c.parts.getD i co0).op = 1 ∧ ss.getD (i + 1) 0 = 3 ∧ (1 < i → (c.parts.getD (i - 2) co0).n < (c.parts.getD i co0).n)
def LadOk (c : Co) (ss : List Int) : Prop := 2 ≤ ss.length ∧ ss.length % 2 = 0 ∧ ss.getD 0 0 = 1 ∧ ss.getD (ss.length - 1) 0 = 3 ∧ ∀ i, i % 2 = 1 → i + 1 < ss.length → lstep c ss i
def lstepB (c : Co) (ss : List Int) (i : Nat) : Bool := decide ((c.parts.getD i co0).op = 1) && (decide (ss.getD (i + 1) 0 = 3) && (decide (i ≤ 1) || decide ((c.parts.getD (i - 2) co0).n < (c.parts.getD i co0).n)))
theorem lstepB_iff (c : Co) (ss : List Int) (i : Nat) : lstepB c ss i = true ↔ lstep c ss i := by
  unfold lstepB lstep
  simp only [Bool.and_eq_true, Bool.or_eq_true, decide_eq_true_eq]
  constructor
  · rintro ⟨h1, h2, h3⟩
    exact ⟨h1, h2, fun h => h3.resolve_left (by omega)⟩
  · rintro ⟨h1, h2, h3⟩
    exact ⟨h1, h2, (Nat.lt_or_ge 1 i).elim (fun h => .inr (h3 h)) .inl⟩
def ladB (c : Co) (ss : List Int) : Bool := decide (2 ≤ ss.length) && (decide (ss.length % 2 = 0) && (decide (ss.getD 0 0 = 1) && (decide (ss.getD (ss.length - 1) 0 = 3) && (List.range ss.length).all fun i => decide (i % 2 = 0) || (decide (ss.length ≤ i + 1) || lstepB c ss i))))
theorem ladB_iff (c : Co) (ss : List Int) : ladB c ss = true ↔ LadOk c ss := by
  unfold ladB LadOk
  simp only [Bool.and_eq_true, decide_eq_true_eq, List.all_eq_true, List.mem_range, Bool.or_eq_true, lstepB_iff]
  refine and_congr Iff.rfl (and_congr Iff.rfl (and_congr Iff.rfl (and_congr Iff.rfl ⟨fun h i h1 h2 => ?_, fun h i h1 => ?_⟩)))
  · rcases h i (by omega) with k | k | k
    · omega
    · omega
    · exact k
  · by_cases k : i % 2 = 0
    · exact .inl k
    · by_cases k2 : ss.length ≤ i + 1
      · exact .inr (.inl k2)
      · exact .inr (.inr (h i (by omega) (by omega)))
def ladF (c : Co) (ss : List Int) : Int := if ladB c ss = true then 3 else 0
theorem ladF_yes {c : Co} {ss : List Int} (h : LadOk c ss) : ladF c ss = 3 := if_pos ((ladB_iff c ss).2 h)
theorem ladF_no {c : Co} {ss : List Int} (h : ¬ LadOk c ss) : ladF c ss = 0 := if_neg (fun k => h ((ladB_iff c ss).1 k))
set_option maxHeartbeats 4000000 in
set_option maxRecDepth 20000 in
theorem cladder_s : StC 117 ladF := by
  intro c ss v a1 k1 w hs hlen hl h1 hk hk2
  have HL := chid hs.parts
  obtain ⟨ad, cap, rfl, hc1, hc2⟩ := hs.parts.shape
  rw [← hlen] at hc1 ⊢
  obtain ⟨L, hL⟩ : ∃ L, Hid (L = ss.length) := ⟨_, rfl⟩
  obtain ⟨R, hR⟩ : ∃ R, Hid (R = ladF c ss) := ⟨_, rfl⟩
  have H1 := chid h1
  have HLen := chid hlen
  rw [← hL.out] at hc1 H1 hk hl ⊢
  rw [← hR.out]
  have HA : Hid (∀ o, Below w.heap.size w (w.alloc o)) := fun o => (Below.refl _ _).alloc (Nat.le_refl _) _
  clear hs h1 hlen
  by_cases a2 : L < 2
  · have h0 : R = 0 := by rw [hR.out]; exact ladF_no (fun h => by have := h.1; rw [← hL.out] at this; omega)
    subst h0
    have b2 : (L : Int) - 1 < 1 := by omega
    go_enter Tryz.func117, Tryz.ntmps117
    go_wp2_with fail
    go_ret
    exact ⟨rfl, HA.out _⟩
  have b2 : ¬ (L : Int) - 1 < 1 := by omega
  by_cases a3 : L % 2 = 0
  case neg =>
    have h0 : R = 0 := by rw [hR.out]; exact ladF_no (fun h => by have := h.2.1; rw [← hL.out] at this; omega)
    subst h0
    have b3 : Int.tmod ((L : Int) - 1) 2 = 0 := by rw [Int.tmod_eq_emod_of_nonneg (by omega)]; omega
    go_enter Tryz.func117, Tryz.ntmps117
    go_wp2_with fail
    go_ret
    exact ⟨rfl, HA.out _⟩
  obtain ⟨b, o1, rfl, hb, hc⟩ := H1.out.open (by rw [← hL.out]; omega)
  obtain ⟨M, rfl⟩ : ∃ M, L = M + 1 := ⟨L - 1, by omega⟩
  have b3 : Int.tmod (M : Int) 2 = 1 := by rw [Int.tmod_eq_emod_of_nonneg (by omega)]; omega
  have hM : 1 ≤ M := by omega
  have b4 : ¬ (M : Int) < 1 := by omega
  have g0 : ss.getD 0 0 = ss[0]'(by rw [← hL.out]; omega) := by simp [List.getD, List.getElem?_eq_getElem (show 0 < ss.length by rw [← hL.out]; omega)]
  have gM : ss.getD M 0 = ss[M]'(by rw [← hL.out]; omega) := by simp [List.getD, List.getElem?_eq_getElem (show M < ss.length by rw [← hL.out]; omega)]
  have e0 := hc 0 (by rw [← hL.out]; omega)
  have eM := hc M (by rw [← hL.out]; omega)
  rw [← g0, Nat.add_zero] at e0
  rw [← gM] at eM
  have HC := chid hc
  clear g0 gM hc a2 b2
  by_cases a4 : ss.getD 0 0 = 1
  case neg =>
    have h0 : R = 0 := by rw [hR.out]; exact ladF_no (fun h => a4 h.2.2.1)
    subst h0
    have d4 : (ss.getD 0 0 != 1) = true := by simpa using a4
    generalize ss.getD 0 0 = x0 at *
    go_enter Tryz.func117, Tryz.ntmps117
    go_wp2_with fail
    go_ret
    exact ⟨rfl, HA.out _⟩
  rw [a4] at e0
  by_cases a5 : ss.getD M 0 = 3
  case neg =>
    have h0 : R = 0 := by rw [hR.out]; exact ladF_no (fun h => a5 (by have := h.2.2.2.1; rw [← hL.out] at this; exact this))
    subst h0
    have d5 : (ss.getD M 0 != 3) = true := by simpa using a5
    generalize ss.getD M 0 = x0 at *
    go_enter Tryz.func117, Tryz.ntmps117
    go_wp2_with fail
    go_ret
    exact ⟨rfl, HA.out _⟩
  rw [a5] at eM
  obtain ⟨bb, off, cap', ec, hle, hcap, hbl', hx⟩ := HL.out.open (by rw [← HLen.out, ← hL.out]; omega)
  simp only [Value.slice.injEq] at ec
  obtain ⟨rfl, -, rfl⟩ := ec
  have X0 := Box.new w (coL c (.slice (some ⟨bb, off, none⟩) (M + 1) cap)) 30
  have c3 := X0.cell 3 _ rfl
  have x0 := X0.lt
  have hb0 := HA.out (.cells (coL c (.slice (some ⟨bb, off, none⟩) (M + 1) cap)).toArray 30)
  have HX : Hid (∀ i (h : i < c.parts.length), (w.alloc (.cells (coL c (.slice (some ⟨bb, off, none⟩) (M + 1) cap)).toArray 30)).cell? ⟨bb, off + i * 4, none⟩ = some (.int .i64 (c.parts.getD i co0).op) ∧ (w.alloc (.cells (coL c (.slice (some ⟨bb, off, none⟩) (M + 1) cap)).toArray 30)).cell? ⟨bb, off + i * 4 + 1, none⟩ = some (.int .i64 (c.parts.getD i co0).n)) := fun i h => by
    obtain ⟨u, h6, -⟩ := hx i h
    have e : c.parts.getD i co0 = c.parts[i] := by simp [List.getD, List.getElem?_eq_getElem h]
    rw [e]
    exact ⟨(hb0.cell (p := ⟨bb, _, none⟩) hbl').trans h6.c0, (hb0.cell (p := ⟨bb, _, none⟩) hbl').trans h6.c1⟩
  have HS : Hid (∀ i (h : i < ss.length), (w.alloc (.cells (coL c (.slice (some ⟨bb, off, none⟩) (M + 1) cap)).toArray 30)).cell? ⟨b, o1 + i, none⟩ = some (.int .i64 (ss.getD i 0))) := fun i h => by
    have e : ss.getD i 0 = ss[i] := by simp [List.getD, List.getElem?_eq_getElem h]
    rw [e]
    exact (hb0.cell (p := ⟨b, _, none⟩) hb).trans (HC.out i h)
  have y1 : bb < (w.alloc (.cells (coL c (.slice (some ⟨bb, off, none⟩) (M + 1) cap)).toArray 30)).heap.size := Nat.lt_of_lt_of_le hbl' hb0.size
  have y2 : b < (w.alloc (.cells (coL c (.slice (some ⟨bb, off, none⟩) (M + 1) cap)).toArray 30)).heap.size := Nat.lt_of_lt_of_le hb hb0.size
  have HB0 := chid hb0
  clear hx X0 hb0 HC
  go_enter Tryz.func117, Tryz.ntmps117
  go_wp2_with fail
  generalize hW0 : w.alloc _ = w0 at *
  clear hW0 e0 eM HA
  go_loopw [6] (fun i wr => ∃ i0 : Nat, i = .int .i64 (i0 : Nat) ∧ i0 ≤ M ∧ Hid (i0 % 2 = 1) ∧ Hid (∀ q, q % 2 = 1 → q < i0 → lstep c ss q) ∧ Hid (Below w0.heap.size w0 wr)) (fun i _ => match i with | .int _ p => ((M : Int) - p).toNat | _ => 0)
  case atStart => exact ⟨1, rfl, hM, chid rfl, (fun q h1 h2 => by omega), Below.refl _ _⟩
  case round =>
    obtain ⟨i, rfl, hj, HO, HQ, HW⟩ := hrel
    have r3 := (HW.out.cell (p := ⟨w.heap.size, 3, none⟩) x0).trans c3
    have rx := Nat.lt_of_lt_of_le x0 HW.out.size
    have r1 := Nat.lt_of_lt_of_le y1 HW.out.size
    have r2 := Nat.lt_of_lt_of_le y2 HW.out.size
    have HB1 := chid (cbelow_on HB0.out HW.out HB0.out.size)
    by_cases hlt : i < M
    · have hlt' : (i : Int) < (M : Int) := by omega
      have hl1 : i < c.parts.length := by rw [← HLen.out, ← hL.out]; omega
      have hl2 : i + 1 < ss.length := by rw [← hL.out]; omega
      have p0 := (HW.out.cell (p := ⟨bb, _, none⟩) y1).trans (HX.out i hl1).1
      have p1 := (HW.out.cell (p := ⟨bb, _, none⟩) y1).trans (HX.out i hl1).2
      have p2 := (HW.out.cell (p := ⟨b, _, none⟩) y2).trans (HS.out (i + 1) hl2)
      have HNo : Hid (¬ lstep c ss i → R = 0) := fun h => by rw [hR.out]; exact ladF_no (fun k => h (k.2.2.2.2 i HO.out hl2))
      by_cases q1 : (c.parts.getD i co0).op = 1
      case neg =>
        have h0 : R = 0 := HNo.out (fun h => q1 h.1)
        subst h0
        have d4 : ((c.parts.getD i co0).op != 1) = true := by simpa using q1
        generalize c.parts.getD i co0 = x at *
        clear HX HS HQ
        go_wp2_with fail
        go_ret
        exact ⟨rfl, by first | exact HB1.out | exact HB1.out.drew | exact cdrewN HB1.out _⟩
      rw [q1] at p0
      by_cases q2 : ss.getD (i + 1) 0 = 3
      case neg =>
        have h0 : R = 0 := HNo.out (fun h => q2 h.2.1)
        subst h0
        have d4 : (ss.getD (i + 1) 0 != 3) = true := by simpa using q2
        generalize ss.getD (i + 1) 0 = x at *
        clear HX HS HQ
        go_wp2_with fail
        go_ret
        exact ⟨rfl, by first | exact HB1.out | exact HB1.out.drew | exact cdrewN HB1.out _⟩
      rw [q2] at p2
      by_cases q3 : 1 < i
      case neg =>
        have HQ2 : Hid (∀ q, q % 2 = 1 → q < i + 2 → lstep c ss q) := fun q h1 h2 => by
          by_cases e : q = i
          · rw [e]; exact ⟨q1, q2, fun h => absurd h q3⟩
          · exact HQ.out q h1 (by have := HO.out; omega)
        have q4 : ¬ 1 < (i : Int) := by omega
        have q4b : decide ((1 : Int) < (i : Int)) = false := decide_eq_false q4
        have q4c : decide ((i : Int) > 1) = false := decide_eq_false q4
        clear HX HS HQ
        go_wp2_with fail
        go_quiet (fail)
        go_wp2_with fail
        go_roundw
        case rel => exact ⟨i + 2, by go_num, by have := HO.out; omega, chid (by have := HO.out; omega), HQ2.out, by first | exact HW.out | exact HW.out.drew | exact cdrewN HW.out _⟩
        case measure => simp; omega
      obtain ⟨r, rfl⟩ : ∃ r, i = r + 2 := ⟨i - 2, by omega⟩
      have q4 : 1 < (r : Int) + 2 := by omega
      have q4b : decide ((1 : Int) < (r : Int) + 2) = true := decide_eq_true q4
      have p3 := (HW.out.cell (p := ⟨bb, _, none⟩) y1).trans (HX.out r (by omega)).2
      by_cases q5 : (c.parts.getD r co0).n < (c.parts.getD (r + 2) co0).n
      case neg =>
        have h0 : R = 0 := HNo.out (fun h => q5 (h.2.2 q3))
        subst h0
        have q6 : (c.parts.getD (r + 2) co0).n ≤ (c.parts.getD r co0).n := by omega
        generalize c.parts.getD r co0 = x at *
        generalize c.parts.getD (r + 2) co0 = y at *
        clear HX HS HQ
        go_wp2_with fail
        go_quiet (fail)
        go_wp2_with fail
        go_ret
        exact ⟨rfl, by first | exact HB1.out | exact HB1.out.drew | exact cdrewN HB1.out _⟩
      have HQ2 : Hid (∀ q, q % 2 = 1 → q < r + 2 + 2 → lstep c ss q) := fun q h1 h2 => by
        by_cases e : q = r + 2
        · rw [e]; exact ⟨q1, q2, fun _ => q5⟩
        · exact HQ.out q h1 (by have := HO.out; omega)
      have q6 : ¬ (c.parts.getD (r + 2) co0).n ≤ (c.parts.getD r co0).n := by omega
      clear q1
      generalize c.parts.getD r co0 = x at *
      generalize c.parts.getD (r + 2) co0 = y at *
      clear HX HS HQ
      go_wp2_with fail
      go_quiet (fail)
      go_wp2_with fail
      go_roundw
      case rel => exact ⟨r + 2 + 2, by go_num, by have := HO.out; omega, chid (by have := HO.out; omega), HQ2.out, by first | exact HW.out | exact HW.out.drew | exact cdrewN HW.out _⟩
      case measure => simp; omega
    · have hlt' : ¬ (i : Int) < (M : Int) := by omega
      have h3 : R = 3 := by
        rw [hR.out]
        refine ladF_yes ⟨by rw [← hL.out]; omega, by rw [← hL.out]; exact a3, a4, by rw [← hL.out]; exact a5, fun q h1 h2 => HQ.out q h1 (by rw [← hL.out] at h2; omega)⟩
      subst h3
      go_wp2_with fail
      go_ret
      exact ⟨rfl, by first | exact HB1.out | exact HB1.out.drew | exact cdrewN HB1.out _⟩

theorem csort_c (wn cn ln : Int) (h64 : C64 wn ∧ C64 cn ∧ C64 ln) (t : Co) : CSoC ladF wn cn ln t := by
  induction t using Co.ind with
  | h t ih => exact csort_step ladF cladder_s wn cn ln h64 t ih
end Go.Proofs.YtigldebdljfnbaaGreatDoor
