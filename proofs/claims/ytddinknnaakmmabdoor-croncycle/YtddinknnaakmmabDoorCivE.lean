/- Package civil: the second of a date and time. -/
import Derived.Test.YtddinknnaakmmabDoorCivD
namespace Go.Proofs.YtddinknnaakmmabDoor
open Go.RowKit

/-- All seven are int64. -/
structure Civ.Fits (c : Civ) : Prop where
  y0 : -9223372036854775808 ≤ c.year
  y1 : c.year < 9223372036854775808
  m0 : -9223372036854775808 ≤ c.month
  m1 : c.month < 9223372036854775808
  d0 : -9223372036854775808 ≤ c.day
  d1 : c.day < 9223372036854775808
  h0 : -9223372036854775808 ≤ c.hour
  h1 : c.hour < 9223372036854775808
  n0 : -9223372036854775808 ≤ c.minute
  n1 : c.minute < 9223372036854775808
  s0 : -9223372036854775808 ≤ c.second
  s1 : c.second < 9223372036854775808
  w0 : -9223372036854775808 ≤ c.week
  w1 : c.week < 9223372036854775808
abbrev civCells (c : Civ) : List Value := [.int .i64 c.year, .int .i64 c.month, .int .i64 c.day, .int .i64 c.hour, .int .i64 c.minute, .int .i64 c.second, .int .i64 c.week]
/-- Whether it is a date and time of the calendar. -/
def formedB (c : Civ) : Bool :=
  (((decide (1 ≤ c.day) && decide (c.day ≤ mdays c.year c.month)) && (decide (0 ≤ c.hour) && decide (c.hour ≤ 23))) && (decide (0 ≤ c.minute) && decide (c.minute ≤ 59))) && (decide (0 ≤ c.second) && decide (c.second ≤ 59))
theorem formedB_iff (c : Civ) : formedB c = true ↔ Formed c := by
  unfold formedB
  simp only [Bool.and_eq_true, decide_eq_true_eq]
  constructor
  · rintro ⟨⟨⟨⟨a, b⟩, d, e⟩, f, g⟩, h, i⟩
    exact ⟨a, b, d, e, f, g, h, i⟩
  · rintro ⟨a, b, d, e, f, g, h, i⟩
    exact ⟨⟨⟨⟨a, b⟩, d, e⟩, f, g⟩, h, i⟩

theorem below_drewN {B : Nat} {a w : World} (h : Below B a w) (n : Nat) : Below B a (w.drewN n) := ⟨h.os, h.tape, h.output, h.size, h.block⟩
theorem LenAt.drewN {w : World} (h : LenAt w) (n : Nat) : LenAt (w.drewN n) := h.later (below_drewN (Below.refl _ _) n)
end Go.Proofs.YtddinknnaakmmabDoor
