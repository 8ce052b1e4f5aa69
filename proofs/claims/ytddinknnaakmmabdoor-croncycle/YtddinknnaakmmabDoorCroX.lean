/- The next moment that a schedule names, as plain numbers. No program is looked at here. -/
import Derived.Test.YtddinknnaakmmabDoorCroQ
namespace Go.Proofs.YtddinknnaakmmabDoor

/-- d's date is that of the day D. -/
structure Date (D : Int) (d : Civ) : Prop where
  d0 : 1 ≤ d.day
  d1 : d.day ≤ mdays d.year d.month
  no : dayno d.year d.month d.day = D
  wk : d.week = (D + 4) % 7
theorem At.parts {t : Int} {d : Civ} (h : At t d) : dayno d.year d.month d.day = t / 86400 ∧ d.hour * 3600 + d.minute * 60 + d.second = t % 86400 := by
  have e := h.t
  unfold secOf at e
  have := h.f.h0; have := h.f.h1; have := h.f.n0; have := h.f.n1; have := h.f.s0; have := h.f.s1
  omega
theorem At.date {t : Int} {d : Civ} (h : At t d) : Date (t / 86400) d :=
  ⟨h.f.d0, h.f.d1, h.parts.1, by rw [← h.parts.1]; exact h.w⟩
theorem Date.same {D : Int} {d e : Civ} (h : Date D d) (k : Date D e) : d.day = e.day ∧ d.month = e.month ∧ d.week = e.week := by
  obtain ⟨x, y, z⟩ := date_unique h.d0 h.d1 k.d0 k.d1 (h.no.trans k.no.symm)
  exact ⟨z, y, h.wk.trans k.wk.symm⟩
theorem Date.m0 {D : Int} {d : Civ} (h : Date D d) : 1 ≤ d.month := (month_of_day h.d0 h.d1).1
theorem Date.m1 {D : Int} {d : Civ} (h : Date D d) : d.month ≤ 12 := (month_of_day h.d0 h.d1).2
theorem Date.day31 {D : Int} {d : Civ} (h : Date D d) : d.day ≤ 31 := by have := h.d1; have := mdays_bounds d.year d.month; omega
/-- The schedule holds the date. -/
def dayB (c : Cr) (d : Civ) : Bool := c.c.testBit d.day.toNat && c.d.testBit d.month.toNat && c.e.testBit d.week.toNat
/-- The schedule holds the minute m of a day. -/
def minB (c : Cr) (m : Nat) : Bool := c.b.testBit (m / 60) && c.a.testBit (m % 60)
def namesB (c : Cr) (d : Civ) : Bool := c.a.testBit d.minute.toNat && c.b.testBit d.hour.toNat && dayB c d
/-- The schedule names the second t. -/
def Named (c : Cr) (t : Int) : Prop := ∃ d, At t d ∧ namesB c d = true
theorem Date.dayB_eq {D : Int} {d e : Civ} (h : Date D d) (k : Date D e) (c : Cr) : dayB c d = dayB c e := by
  obtain ⟨x, y, z⟩ := h.same k
  unfold dayB; rw [x, y, z]
theorem At.min {t : Int} {d : Civ} (h : At t d) : (t % 86400 / 60).toNat / 60 = d.hour.toNat ∧ (t % 86400 / 60).toNat % 60 = d.minute.toNat := by
  have e := h.parts.2
  have := h.f.h0; have := h.f.h1; have := h.f.n0; have := h.f.n1; have := h.f.s0; have := h.f.s1
  omega
theorem At.namesB_eq {t : Int} {d : Civ} (h : At t d) (c : Cr) : namesB c d = (minB c (t % 86400 / 60).toNat && dayB c d) := by
  unfold namesB minB
  rw [h.min.1, h.min.2, Bool.and_comm (c.a.testBit _)]
theorem Named.parts {c : Cr} {t : Int} {e : Civ} (h : Named c t) (k : Date (t / 86400) e) : dayB c e = true ∧ minB c (t % 86400 / 60).toNat = true := by
  obtain ⟨d, hd, hn⟩ := h
  rw [hd.namesB_eq, Bool.and_eq_true] at hn
  exact ⟨by rw [k.dayB_eq hd.date]; exact hn.2, hn.1⟩
theorem Named.of {c : Cr} {t : Int} {e : Civ} (k : Date (t / 86400) e) (h1 : dayB c e = true) (h2 : minB c (t % 86400 / 60).toNat = true) : Named c t := by
  have ha := at_of (r := t % 86400) (t := t) k.d0 k.d1 k.no k.wk rfl
  refine ⟨_, ha, ?_⟩
  rw [ha.namesB_eq, h2, ha.date.dayB_eq k]
  simpa using h1
theorem Named.iff {c : Cr} {t : Int} {d : Civ} (h : At t d) : Named c t ↔ namesB c d = true :=
  ⟨fun ⟨e, he, hn⟩ => by rw [h.unique he]; exact hn, fun hn => ⟨d, h, hn⟩⟩
/-- No minute that begins from a on below b is named. -/
def Free (c : Cr) (a b : Int) : Prop := ∀ m, a ≤ m → m < b → m % 60 = 0 → ¬ Named c m
theorem Free.nil (c : Cr) (a : Int) : Free c a a := fun m h1 h2 => by omega
theorem Free.trans {c : Cr} {a b d : Int} (h : Free c a b) (k : Free c b d) : Free c a d := fun m h1 h2 h3 => by
  by_cases hm : m < b
  · exact h m h1 hm h3
  · exact k m (by omega) h2 h3
/-- What is said of the first minute from m on in a day. -/
structure MinR (c : Cr) (m k : Nat) (b : Bool) : Prop where
  yes : b = true → m ≤ k ∧ k < 1440 ∧ minB c k = true ∧ ∀ i, m ≤ i → i < k → minB c i = false
  no : b = false → ∀ i, m ≤ i → i < 1440 → minB c i = false
theorem free_bare {c : Cr} {t D : Int} {d : Civ} (hd : Date D d) (ht : t / 86400 = D) (h : dayB c d = false) : Free c t ((D + 1) * 86400) := fun m h1 h2 h3 hn => by
  have e : m / 86400 = D := by omega
  have := (hn.parts (e := d) (by rw [e]; exact hd)).1
  rw [h] at this; cases this
theorem free_late {c : Cr} {t D : Int} {d : Civ} {m0 : Nat} (hd : Date D d) (ht : t / 86400 = D) (hm : (m0 : Int) ≤ (t % 86400 + 59) / 60) (h : ∀ i, m0 ≤ i → i < 1440 → minB c i = false) : Free c t ((D + 1) * 86400) := fun m h1 h2 h3 hn => by
  have e : m / 86400 = D := by omega
  have := (hn.parts (e := d) (by rw [e]; exact hd)).2
  rw [h _ (by omega) (by omega)] at this; cases this
theorem hit_day {c : Cr} {t D : Int} {d : Civ} {m0 k : Nat} (hd : Date D d) (ht : t / 86400 = D) (hm : (m0 : Int) = (t % 86400 + 59) / 60) (h : dayB c d = true) (hr : MinR c m0 k true) :
    t ≤ D * 86400 + 60 * k ∧ (D * 86400 + 60 * k) / 86400 = D ∧ Named c (D * 86400 + 60 * k) ∧ Free c t (D * 86400 + 60 * k) := by
  obtain ⟨h1, h2, h3, h4⟩ := hr.yes rfl
  have e0 : (D * 86400 + 60 * (k : Int)) / 86400 = D := by omega
  have e1 : ((D * 86400 + 60 * (k : Int)) % 86400 / 60).toNat = k := by omega
  refine ⟨by omega, e0, Named.of (e := d) (by rw [e0]; exact hd) h (by rw [e1]; exact h3), fun m k1 k2 k3 hn => ?_⟩
  have e : m / 86400 = D := by omega
  have := (hn.parts (e := d) (by rw [e]; exact hd)).2
  rw [h4 _ (by omega) (by omega)] at this; cases this
/-- What is said of the next moment. -/
structure NextR (c : Cr) (t n : Int) (b : Bool) : Prop where
  yes : b = true → t ≤ n ∧ n % 60 = 0 ∧ n < 9223372036854775808 ∧ n / 86400 < t / 86400 + 10228 ∧ Named c n ∧ Free c t n
  no : b = false → n = 0 ∧ ∀ m, t ≤ m → m < 9223372036854775808 → m / 86400 < t / 86400 + 10228 → m % 60 = 0 → ¬ Named c m
theorem NextR.unique {c : Cr} {t n m : Int} {b d : Bool} (h : NextR c t n b) (k : NextR c t m d) : n = m ∧ b = d := by
  cases b with
  | true =>
    obtain ⟨h1, h2, h3, h4, h5, h6⟩ := h.yes rfl
    cases d with
    | true =>
      obtain ⟨k1, k2, k3, k4, k5, k6⟩ := k.yes rfl
      refine ⟨?_, rfl⟩
      rcases Int.lt_trichotomy n m with c1 | c1 | c1
      · exact absurd h5 (k6 n h1 c1 h2)
      · exact c1
      · exact absurd k5 (h6 m k1 c1 k2)
    | false => exact absurd h5 ((k.no rfl).2 n h1 h3 h4 h2)
  | false =>
    cases d with
    | true =>
      obtain ⟨k1, k2, k3, k4, k5, k6⟩ := k.yes rfl
      exact absurd k5 ((h.no rfl).2 m k1 k3 k4 k2)
    | false => exact ⟨(h.no rfl).1.trans (k.no rfl).1.symm, rfl⟩
theorem nextR_hit {c : Cr} {t n : Int} (h1 : t ≤ n) (h2 : n % 60 = 0) (h3 : n < 9223372036854775808) (h4 : n / 86400 < t / 86400 + 10228) (h5 : Named c n) (h6 : Free c t n) : NextR c t n true :=
  ⟨fun _ => ⟨h1, h2, h3, h4, h5, h6⟩, fun h => by cases h⟩
theorem nextR_far {c : Cr} {t n : Int} (h : 9223372036854775808 ≤ n) (h6 : Free c t n) : NextR c t 0 false :=
  ⟨fun h => (by cases h), fun _ => ⟨rfl, fun m k1 k2 _ k4 => h6 m k1 (by omega) k4⟩⟩
theorem nextR_none {c : Cr} {t : Int} (h6 : Free c t ((t / 86400 + 10228) * 86400)) : NextR c t 0 false :=
  ⟨fun h => (by cases h), fun _ => ⟨rfl, fun m k1 _ k3 k4 => h6 m k1 (by omega) k4⟩⟩
/-- The day behind. -/
theorem Date.next {D : Int} {d : Civ} (h : Date D d) :
    Date (D + 1) (if d.day + 1 ≤ mdays d.year d.month then { d with day := d.day + 1, week := (d.week + 1) % 7 } else if d.month + 1 ≤ 12 then { d with day := 1, month := d.month + 1, week := (d.week + 1) % 7 } else { d with day := 1, month := 1, year := d.year + 1, week := (d.week + 1) % 7 }) := by
  have m0 := h.m0
  have m1 := h.m1
  obtain ⟨d0, d1, no, wk⟩ := h
  obtain ⟨y, m, d, hh, mi, s, wk0⟩ := d
  simp only at *
  split
  · rename_i k
    have hd : dayno y m (d + 1) = dayno y m d + 1 := by unfold dayno; omega
    exact ⟨by simp only; omega, k, by simp only; omega, by simp only; omega⟩
  split
  · rename_i k
    have hd : dayno y (m + 1) 1 = dayno y m d + 1 := by unfold dayno; rw [cum_succ y m m0 m1]; omega
    have hp := mdays_pos y (m + 1) (by omega) k
    exact ⟨by simp only; omega, by simp only; omega, by simp only; omega, by simp only; omega⟩
  · obtain rfl : m = 12 := by omega
    have hc := cum_succ y 12 (by omega) (by omega)
    rw [show (12 : Int) + 1 = 13 from rfl, cum_end] at hc
    have hd : dayno (y + 1) 1 1 = dayno y 12 d + 1 := by unfold dayno; rw [ahead_succ, cum_one]; omega
    have hp := mdays_pos (y + 1) 1 (by omega) (by omega)
    exact ⟨by simp only; omega, by simp only; omega, by simp only; omega, by simp only; omega⟩
/-- Four hundred years on. -/
theorem namesB_cycle (c : Cr) (d : Civ) (y : Int) : namesB c { d with year := y } = namesB c d := rfl
end Go.Proofs.YtddinknnaakmmabDoor
