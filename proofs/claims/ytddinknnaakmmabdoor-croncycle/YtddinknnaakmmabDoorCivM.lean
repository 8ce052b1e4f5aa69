/- The calendar, as plain numbers: leap years, the days ahead of a year and of a month, the date and time of a second, and that there is one alone. -/
import Derived.Below
namespace Go.Proofs.YtddinknnaakmmabDoor

/-- Whether the year is a leap year. -/
def leap (y : Int) : Bool := decide (y % 4 = 0 ∧ (y % 100 ≠ 0 ∨ y % 400 = 0))
/-- One day more in a leap year. -/
def more (y : Int) : Int := if leap y then 1 else 0
/-- The days ahead of a year, from the beginning of the year 0 on. -/
def ahead (y : Int) : Int := y * 365 + (y + 3) / 4 - (y + 99) / 100 + (y + 399) / 400
/-- The days of a month. -/
def mdays (y m : Int) : Int :=
  if m = 2 then 28 + more y else if m = 4 ∨ m = 6 ∨ m = 9 ∨ m = 11 then 30 else if 1 ≤ m ∧ m ≤ 12 then 31 else 0
/-- The days of a year ahead of a month. -/
def cum (y m : Int) : Int :=
  if m ≤ 1 then 0 else if m = 2 then 31 else more y + (if m = 3 then 59 else if m = 4 then 90 else if m = 5 then 120 else if m = 6 then 151 else if m = 7 then 181 else if m = 8 then 212 else if m = 9 then 243 else if m = 10 then 273 else if m = 11 then 304 else if m = 12 then 334 else 365)

theorem leap_true {y : Int} (h : leap y = true) : y % 4 = 0 ∧ (y % 100 ≠ 0 ∨ y % 400 = 0) := of_decide_eq_true h
theorem leap_false {y : Int} (h : ¬ leap y = true) : ¬ (y % 4 = 0 ∧ (y % 100 ≠ 0 ∨ y % 400 = 0)) := fun k => h (decide_eq_true k)
theorem more_cases (y : Int) : (more y = 1 ∧ y % 4 = 0 ∧ (y % 100 ≠ 0 ∨ y % 400 = 0)) ∨ (more y = 0 ∧ ¬ (y % 4 = 0 ∧ (y % 100 ≠ 0 ∨ y % 400 = 0))) := by
  unfold more
  split
  · rename_i h; exact .inl ⟨rfl, leap_true h⟩
  · rename_i h; exact .inr ⟨rfl, leap_false h⟩
theorem more_01 (y : Int) : 0 ≤ more y ∧ more y ≤ 1 := by
  rcases more_cases y with h | h <;> omega
theorem ahead_succ (y : Int) : ahead (y + 1) = ahead y + 365 + more y := by
  unfold ahead
  rcases more_cases y with ⟨e, h⟩ | ⟨e, h⟩
  · rw [e]; omega
  · rw [e]; omega
theorem ahead_mono {y z : Int} (h : y ≤ z) : ahead y ≤ ahead z := by
  unfold ahead; omega
theorem ahead_cycle (k y : Int) : ahead (k * 400 + y) = k * 146097 + ahead y := by
  unfold ahead; omega
theorem leap_cycle (k y : Int) : leap (k * 400 + y) = leap y := by
  unfold leap
  congr 1
  apply propext
  omega
theorem more_cycle (k y : Int) : more (k * 400 + y) = more y := by unfold more; rw [leap_cycle]
theorem mdays_cycle (k y m : Int) : mdays (k * 400 + y) m = mdays y m := by unfold mdays; rw [more_cycle]
theorem cum_cycle (k y m : Int) : cum (k * 400 + y) m = cum y m := by unfold cum; rw [more_cycle]
theorem cum_succ (y m : Int) (h0 : 1 ≤ m) (h1 : m ≤ 12) : cum y (m + 1) = cum y m + mdays y m := by
  unfold cum mdays
  have : m = 1 ∨ m = 2 ∨ m = 3 ∨ m = 4 ∨ m = 5 ∨ m = 6 ∨ m = 7 ∨ m = 8 ∨ m = 9 ∨ m = 10 ∨ m = 11 ∨ m = 12 := by omega
  rcases this with rfl | rfl | rfl | rfl | rfl | rfl | rfl | rfl | rfl | rfl | rfl | rfl <;> simp <;> omega
theorem cum_one (y : Int) : cum y 1 = 0 := rfl
theorem cum_end (y : Int) : cum y 13 = 365 + more y := by unfold cum; simp; omega
theorem mdays_pos (y m : Int) (h0 : 1 ≤ m) (h1 : m ≤ 12) : 28 ≤ mdays y m ∧ mdays y m ≤ 31 := by
  have := more_01 y
  unfold mdays
  split
  · omega
  · split
    · omega
    · split <;> omega
theorem mdays_none (y m : Int) (h : m < 1 ∨ 12 < m) : mdays y m = 0 := by
  unfold mdays
  rw [if_neg (by omega), if_neg (by omega), if_neg (by omega)]
theorem mdays_bounds (y m : Int) : 0 ≤ mdays y m ∧ mdays y m ≤ 31 := by
  by_cases h : 1 ≤ m ∧ m ≤ 12
  · have := mdays_pos y m h.1 h.2; omega
  · rw [mdays_none y m (by omega)]; omega
theorem month_of_day {y m d : Int} (h0 : 1 ≤ d) (h1 : d ≤ mdays y m) : 1 ≤ m ∧ m ≤ 12 := by
  by_cases h : 1 ≤ m ∧ m ≤ 12
  · exact h
  · rw [mdays_none y m (by omega)] at h1; omega
theorem cum_lt {y m n : Int} (h0 : 1 ≤ m) (h : m < n) (h1 : n ≤ 13) : cum y m + mdays y m ≤ cum y n := by
  have := more_01 y
  unfold cum mdays
  have : m = 1 ∨ m = 2 ∨ m = 3 ∨ m = 4 ∨ m = 5 ∨ m = 6 ∨ m = 7 ∨ m = 8 ∨ m = 9 ∨ m = 10 ∨ m = 11 ∨ m = 12 := by omega
  rcases this with rfl | rfl | rfl | rfl | rfl | rfl | rfl | rfl | rfl | rfl | rfl | rfl <;> simp <;> omega

/-- The days from second 0 to a date. -/
def dayno (y m d : Int) : Int := ahead y + cum y m + (d - 1) - 719528

/-- A date, a time and a day of the week. -/
structure Civ where
  year : Int
  month : Int
  day : Int
  hour : Int
  minute : Int
  second : Int
  week : Int

/-- It is a date and time of the calendar. -/
structure Formed (c : Civ) : Prop where
  d0 : 1 ≤ c.day
  d1 : c.day ≤ mdays c.year c.month
  h0 : 0 ≤ c.hour
  h1 : c.hour ≤ 23
  n0 : 0 ≤ c.minute
  n1 : c.minute ≤ 59
  s0 : 0 ≤ c.second
  s1 : c.second ≤ 59
theorem Formed.m0 {c : Civ} (h : Formed c) : 1 ≤ c.month := (month_of_day h.d0 h.d1).1
theorem Formed.m1 {c : Civ} (h : Formed c) : c.month ≤ 12 := (month_of_day h.d0 h.d1).2
/-- The second of a date and time. -/
def secOf (c : Civ) : Int := dayno c.year c.month c.day * 86400 + (c.hour * 3600 + c.minute * 60 + c.second)
/-- c is the date and time of the second t. -/
structure At (t : Int) (c : Civ) : Prop where
  f : Formed c
  t : secOf c = t
  w : c.week = (dayno c.year c.month c.day + 4) % 7

theorem year_range {y m d : Int} (d0 : 1 ≤ d) (d1 : d ≤ mdays y m) : ahead y ≤ dayno y m d + 719528 ∧ dayno y m d + 719528 < ahead (y + 1) := by
  obtain ⟨m0, m1⟩ := month_of_day d0 d1
  have h1 := cum_lt (y := y) m0 (show m < 13 by omega) (by omega)
  rw [cum_end] at h1
  have h2 : 0 ≤ cum y m := by
    rcases Int.lt_or_eq_of_le m0 with h | h
    · have := cum_lt (y := y) (m := 1) (n := m) (by omega) h (by omega)
      have := mdays_bounds y 1
      rw [cum_one] at *
      omega
    · rw [← h, cum_one]; omega
  rw [ahead_succ]
  unfold dayno
  omega
theorem date_unique {y m d z n e : Int} (d0 : 1 ≤ d) (d1 : d ≤ mdays y m) (e0 : 1 ≤ e) (e1 : e ≤ mdays z n) (h : dayno y m d = dayno z n e) : y = z ∧ m = n ∧ d = e := by
  have hy := year_range d0 d1
  have hz := year_range e0 e1
  have h1 : y = z := by
    rcases Int.lt_trichotomy y z with k | k | k
    · have := ahead_mono (show y + 1 ≤ z by omega); omega
    · exact k
    · have := ahead_mono (show z + 1 ≤ y by omega); omega
  subst h1
  obtain ⟨m0, m1⟩ := month_of_day d0 d1
  obtain ⟨n0, n1⟩ := month_of_day e0 e1
  unfold dayno at h
  have h2 : m = n := by
    rcases Int.lt_trichotomy m n with k | k | k
    · have := cum_lt (y := y) m0 k (by omega); omega
    · exact k
    · have := cum_lt (y := y) n0 k (by omega); omega
  subst h2
  exact ⟨rfl, rfl, by omega⟩
theorem Formed.unique {c d : Civ} (h : Formed c) (k : Formed d) (e : secOf c = secOf d) : c.year = d.year ∧ c.month = d.month ∧ c.day = d.day ∧ c.hour = d.hour ∧ c.minute = d.minute ∧ c.second = d.second := by
  have a1 := h.h0; have a2 := h.h1; have a3 := h.n0; have a4 := h.n1; have a5 := h.s0; have a6 := h.s1
  have b1 := k.h0; have b2 := k.h1; have b3 := k.n0; have b4 := k.n1; have b5 := k.s0; have b6 := k.s1
  unfold secOf at e
  have e1 : dayno c.year c.month c.day = dayno d.year d.month d.day := by omega
  obtain ⟨x, y, z⟩ := date_unique h.d0 h.d1 k.d0 k.d1 e1
  exact ⟨x, y, z, by omega, by omega, by omega⟩
theorem At.unique {t : Int} {c d : Civ} (h : At t c) (k : At t d) : c = d := by
  obtain ⟨e1, e2, e3, e4, e5, e6⟩ := h.f.unique k.f (h.t.trans k.t.symm)
  have e7 := h.w
  have e8 := k.w
  rw [← e1, ← e2, ← e3] at e8
  cases c; cases d
  simp only at *
  subst e1 e2 e3 e4 e5 e6
  rw [e7, e8]
/-- Two seconds of one year lie less than 2^64 apart. -/
theorem year_near {c d : Civ} (h : Formed c) (k : Formed d) (e : c.year = d.year) : secOf c - secOf d < 31708800 := by
  have a1 := h.h0; have a2 := h.h1; have a3 := h.n0; have a4 := h.n1; have a5 := h.s0; have a6 := h.s1
  have b1 := k.h0; have b2 := k.h1; have b3 := k.n0; have b4 := k.n1; have b5 := k.s0; have b6 := k.s1
  have p := year_range h.d0 h.d1
  have q := year_range k.d0 k.d1
  rw [← e, ahead_succ] at q
  rw [ahead_succ] at p
  have := more_01 c.year
  unfold secOf
  rw [← e]
  omega
/-- Four hundred years on. -/
theorem At.cycle {t : Int} {c : Civ} (h : At t c) (k : Int) : At (t + k * 12622780800) { c with year := c.year + k * 400 } := by
  obtain ⟨f, e, w⟩ := h
  have z : c.year + k * 400 = k * 400 + c.year := by omega
  have dn : dayno (k * 400 + c.year) c.month c.day = dayno c.year c.month c.day + k * 146097 := by
    unfold dayno; rw [ahead_cycle, cum_cycle]; omega
  refine ⟨⟨f.d0, ?_, f.h0, f.h1, f.n0, f.n1, f.s0, f.s1⟩, ?_, ?_⟩
  · show c.day ≤ mdays (c.year + k * 400) c.month
    rw [z, mdays_cycle]; exact f.d1
  · unfold secOf at e ⊢
    show dayno (c.year + k * 400) c.month c.day * 86400 + (c.hour * 3600 + c.minute * 60 + c.second) = t + k * 12622780800
    rw [z, dn, ← e]; omega
  · show c.week = (dayno (c.year + k * 400) c.month c.day + 4) % 7
    rw [z, dn, w]; omega
/-- What Of answers of a whole day and what is left of it. -/
theorem at_of {y m d wk r : Int} {t : Int} (d0 : 1 ≤ d) (d1 : d ≤ mdays y m) (hd : dayno y m d = t / 86400) (hw : wk = (t / 86400 + 4) % 7) (hr : r = t % 86400) : At t ⟨y, m, d, r / 3600, r % 3600 / 60, r % 60, wk⟩ := by
  refine ⟨⟨d0, d1, ?_, ?_, ?_, ?_, ?_, ?_⟩, ?_, ?_⟩
  · show 0 ≤ r / 3600; omega
  · show r / 3600 ≤ 23; omega
  · show 0 ≤ r % 3600 / 60; omega
  · show r % 3600 / 60 ≤ 59; omega
  · show 0 ≤ r % 60; omega
  · show r % 60 ≤ 59; omega
  · unfold secOf
    show dayno y m d * 86400 + (r / 3600 * 3600 + r % 3600 / 60 * 60 + r % 60) = t
    omega
  · show wk = (dayno y m d + 4) % 7
    rw [hd]; exact hw
/-- The second behind. -/
def nextC (c : Civ) : Civ :=
  if c.second + 1 < 60 then { c with second := c.second + 1 }
  else if c.minute + 1 < 60 then { c with second := 0, minute := c.minute + 1 }
  else if c.hour + 1 < 24 then { c with second := 0, minute := 0, hour := c.hour + 1 }
  else if c.day + 1 ≤ mdays c.year c.month then { c with second := 0, minute := 0, hour := 0, week := (c.week + 1) % 7, day := c.day + 1 }
  else if c.month + 1 ≤ 12 then { c with second := 0, minute := 0, hour := 0, week := (c.week + 1) % 7, day := 1, month := c.month + 1 }
  else { c with second := 0, minute := 0, hour := 0, week := (c.week + 1) % 7, day := 1, month := 1, year := c.year + 1 }
theorem At.next {t : Int} {c : Civ} (h : At t c) : At (t + 1) (nextC c) := by
  obtain ⟨f, e, w⟩ := h
  have m0 := f.m0
  have m1 := f.m1
  obtain ⟨d0, d1, a1, a2, a3, a4, a5, a6⟩ := f
  obtain ⟨y, m, d, hh, mi, s, wk⟩ := c
  simp only [secOf] at *
  unfold nextC
  simp only
  split
  · exact ⟨⟨d0, d1, a1, a2, a3, a4, by simp only; omega, by simp only; omega⟩, by simp only [secOf]; omega, w⟩
  split
  · exact ⟨⟨d0, d1, a1, a2, by simp only; omega, by simp only; omega, by simp only; omega, by simp only; omega⟩, by simp only [secOf]; omega, w⟩
  split
  · exact ⟨⟨d0, d1, by simp only; omega, by simp only; omega, by simp only; omega, by simp only; omega, by simp only; omega, by simp only; omega⟩, by simp only [secOf]; omega, w⟩
  split
  · rename_i k
    have hd : dayno y m (d + 1) = dayno y m d + 1 := by unfold dayno; omega
    exact ⟨⟨by simp only; omega, k, by simp only; omega, by simp only; omega, by simp only; omega, by simp only; omega, by simp only; omega, by simp only; omega⟩, by simp only [secOf]; rw [hd]; omega, by simp only; rw [hd, w]; omega⟩
  split
  · rename_i k
    have hd : dayno y (m + 1) 1 = dayno y m d + 1 := by unfold dayno; rw [cum_succ y m m0 m1]; omega
    have hp := mdays_pos y (m + 1) (by omega) k
    exact ⟨⟨by simp only; omega, by simp only; omega, by simp only; omega, by simp only; omega, by simp only; omega, by simp only; omega, by simp only; omega, by simp only; omega⟩, by simp only [secOf]; rw [hd]; omega, by simp only; rw [hd, w]; omega⟩
  · obtain rfl : m = 12 := by omega
    have hc := cum_succ y 12 (by omega) (by omega)
    rw [show (12 : Int) + 1 = 13 from rfl, cum_end] at hc
    have hd : dayno (y + 1) 1 1 = dayno y 12 d + 1 := by unfold dayno; rw [ahead_succ, cum_one]; omega
    have hp := mdays_pos (y + 1) 1 (by omega) (by omega)
    exact ⟨⟨by simp only; omega, by simp only; omega, by simp only; omega, by simp only; omega, by simp only; omega, by simp only; omega, by simp only; omega, by simp only; omega⟩, by simp only [secOf]; rw [hd]; omega, by simp only; rw [hd, w]; omega⟩
end Go.Proofs.YtddinknnaakmmabDoor
