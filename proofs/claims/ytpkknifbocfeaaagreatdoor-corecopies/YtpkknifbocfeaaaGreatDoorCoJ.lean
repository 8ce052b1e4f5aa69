/- What cores come to in an Env, plain. -/
import Derived.Test.YtpkknifbocfeaaaGreatDoorMgD
import Derived.Test.YtpkknifbocfeaaaGreatDoorMgF
namespace Go.Proofs.YtpkknifbocfeaaaGreatDoor
open Go.RowKit

/-- An Env: the replicas; of each window the reason and the number; of each schedule whether it holds. -/
structure EnvP where
  rep : Int
  wins : List (Int × Int)
  crons : List Bool
abbrev Rs := Int × Int
/-- A number, or none for a reason. -/
abbrev noR (r : Int) : Rs := (0, r)
abbrev okR (n : Int) : Rs := (n, 0)
def ofOneR (f : Int → Int) (a : Rs) : Rs := if a.2 = 0 then okR (f a.1) else noR a.2
def ofTwoR (f : Int → Int → Rs) (a b : Rs) : Rs := if a.2 = 0 then (if b.2 = 0 then f a.1 b.1 else noR b.2) else noR a.2
abbrev b2i (b : Bool) : Int := if b = true then 1 else 0
def uF (k : Nat) (a : Int) : Int := if k = 8 then held (-a) else if k = 9 then 1 - a else if k = 10 then held a.natAbs else if k = 11 then held (-((-a) / 1000000) * 1000000) else held (a / 1000000 * 1000000)
def bF (k : Nat) (a b : Int) : Int := if k = 14 then held (a + b) else if k = 15 then held (a - b) else if k = 16 then held (a * b / 1000000) else if k = 18 then b2i (decide (a < b)) else if k = 19 then b2i (decide (a ≤ b)) else if k = 20 then b2i (decide (a = b)) else if k = 21 then b2i (decide (b < a)) else if k = 22 then b2i (decide (b ≤ a)) else if k = 23 then min a b else max a b
def divR (a b : Int) : Rs := if b = 0 then noR 2 else okR (held (fl (a * 1000000) b))
def countF (a : Int) : Int := held (-((-a) / 1000000) * 1000000) / 1000000
/-- Where a ladder goes on: the first bound above v, from i on; f steps are looked at. -/
def ladI (ps : List Co) (v : Int) (L : Nat) : Nat → Nat → Nat
  | 0, i => i
  | f + 1, i => if i + 1 < L then (if v < (ps.getD i co0).n then i + 1 else ladI ps v L f (i + 2)) else L - 1
/-- What the core c comes to, its parts coming to rs. -/
def workF (E : EnvP) (k : Nat) (c : Co) (rs : List Rs) : Rs :=
  if k = 1 ∨ k = 2 then okR c.n
  else if k = 3 then okR (held (E.rep * 1000000))
  else if k = 4 then (if (E.wins.getD c.n.toNat (0, 0)).1 = 0 then okR (E.wins.getD c.n.toNat (0, 0)).2 else noR (E.wins.getD c.n.toNat (0, 0)).1)
  else if k = 5 then okR (b2i (E.crons.getD c.n.toNat false))
  else if k = 6 then noR c.n
  else if k = 7 then rs.getD 0 (0, 0)
  else if 8 ≤ k ∧ k ≤ 12 then ofOneR (uF k) (rs.getD 0 (0, 0))
  else if k = 13 then ofOneR (fun a => held (a * c.n / c.m)) (rs.getD 0 (0, 0))
  else if k = 17 then ofTwoR divR (rs.getD 0 (0, 0)) (rs.getD 1 (0, 0))
  else if 14 ≤ k ∧ k ≤ 24 then ofTwoR (fun a b => okR (bF k a b)) (rs.getD 0 (0, 0)) (rs.getD 1 (0, 0))
  else if k = 25 then (if (rs.getD 0 (0, 0)).2 = 0 ∧ (rs.getD 0 (0, 0)).1 ≠ 0 then rs.getD 1 (0, 0) else noR (rs.getD 0 (0, 0)).2)
  else if k = 26 then (if (rs.getD 0 (0, 0)).2 = 0 ∧ (rs.getD 0 (0, 0)).1 ≠ 1 then rs.getD 1 (0, 0) else rs.getD 0 (0, 0))
  else if k = 27 then (if (rs.getD 0 (0, 0)).2 = 0 then rs.getD 0 (0, 0) else rs.getD 1 (0, 0))
  else if k = 28 then (if (rs.getD 0 (0, 0)).2 = 0 then (if (rs.getD 0 (0, 0)).1 = 1 then rs.getD 1 (0, 0) else rs.getD 2 (0, 0)) else noR (rs.getD 0 (0, 0)).2)
  else if k = 29 then noR 4
  else if k = 30 then ofOneR countF (rs.getD 0 (0, 0))
  else if k = 31 then ofOneR (fun a => held (E.rep + countF a)) (rs.getD 0 (0, 0))
  else (if (rs.getD 0 (0, 0)).2 = 0 then rs.getD (ladI c.parts (rs.getD 0 (0, 0)).1 c.parts.length c.parts.length 1) (0, 0) else noR (rs.getD 0 (0, 0)).2)
def telV (E : EnvP) : Co → Rs
  | ⟨k, n, m, ps⟩ => workF E k.toNat ⟨k, n, m, ps⟩ (ps.map (telV E))
theorem telV_eq (E : EnvP) (c : Co) : telV E c = workF E c.op.toNat c (c.parts.map (telV E)) := by
  cases c
  rw [telV]
/-- Formed where there are so many windows and schedules. -/
abbrev srt (E : EnvP) (c : Co) : Int := csort ladF E.wins.length E.crons.length 256 c
end Go.Proofs.YtpkknifbocfeaaaGreatDoor
