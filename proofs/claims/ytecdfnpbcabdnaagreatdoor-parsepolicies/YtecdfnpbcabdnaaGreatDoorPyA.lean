/- Tokens read into trees, plain: the chapter's grammar. -/
import Derived.Test.YtecdfnpbcabdnaaGreatDoorLxB
import Derived.Test.YtecdfnpbcabdnaaGreatDoorTrP
namespace Go.Proofs.YtecdfnpbcabdnaaGreatDoor
open Go.Lib

abbrev k_or : ByteArray := ⟨#[111, 114]⟩
abbrev k_and : ByteArray := ⟨#[97, 110, 100]⟩
abbrev k_lt : ByteArray := ⟨#[60]⟩
abbrev k_le : ByteArray := ⟨#[60, 61]⟩
abbrev k_eq : ByteArray := ⟨#[61]⟩
abbrev k_gt : ByteArray := ⟨#[62]⟩
abbrev k_ge : ByteArray := ⟨#[62, 61]⟩
abbrev k_add : ByteArray := ⟨#[43]⟩
abbrev k_sub : ByteArray := ⟨#[45]⟩
abbrev k_mul : ByteArray := ⟨#[42]⟩
abbrev k_div : ByteArray := ⟨#[47]⟩
abbrev k_not : ByteArray := ⟨#[110, 111, 116]⟩
abbrev k_lp : ByteArray := ⟨#[40]⟩
abbrev k_rp : ByteArray := ⟨#[41]⟩
abbrev k_com : ByteArray := ⟨#[44]⟩
abbrev k_lb : ByteArray := ⟨#[123]⟩
abbrev k_rb : ByteArray := ⟨#[125]⟩
abbrev k_col : ByteArray := ⟨#[58]⟩
abbrev k_sem : ByteArray := ⟨#[59]⟩
abbrev k_dots : ByteArray := ⟨#[46, 46]⟩
abbrev k_true : ByteArray := ⟨#[116, 114, 117, 101]⟩
abbrev k_false : ByteArray := ⟨#[102, 97, 108, 115, 101]⟩
abbrev k_reps : ByteArray := ⟨#[114, 101, 112, 108, 105, 99, 97, 115]⟩
abbrev k_if : ByteArray := ⟨#[105, 102]⟩
abbrev k_min : ByteArray := ⟨#[109, 105, 110]⟩
abbrev k_max : ByteArray := ⟨#[109, 97, 120]⟩
abbrev k_either : ByteArray := ⟨#[101, 105, 116, 104, 101, 114]⟩
abbrev k_abs : ByteArray := ⟨#[97, 98, 115]⟩
abbrev k_ceil : ByteArray := ⟨#[99, 101, 105, 108]⟩
abbrev k_floor : ByteArray := ⟨#[102, 108, 111, 111, 114]⟩
abbrev k_cron : ByteArray := ⟨#[99, 114, 111, 110]⟩
abbrev k_sum : ByteArray := ⟨#[115, 117, 109]⟩
abbrev k_avg : ByteArray := ⟨#[97, 118, 103]⟩
abbrev k_low : ByteArray := ⟨#[108, 111, 119]⟩
abbrev k_high : ByteArray := ⟨#[104, 105, 103, 104]⟩
abbrev k_count : ByteArray := ⟨#[99, 111, 117, 110, 116]⟩
abbrev k_rank : ByteArray := ⟨#[114, 97, 110, 107]⟩
abbrev k_hold : ByteArray := ⟨#[104, 111, 108, 100]⟩
abbrev k_to : ByteArray := ⟨#[116, 111]⟩
abbrev k_by : ByteArray := ⟨#[98, 121]⟩
abbrev k_ladder : ByteArray := ⟨#[108, 97, 100, 100, 101, 114]⟩
abbrev k_else : ByteArray := ⟨#[101, 108, 115, 101]⟩
abbrev k_policy : ByteArray := ⟨#[112, 111, 108, 105, 99, 121]⟩
abbrev k_metric : ByteArray := ⟨#[109, 101, 116, 114, 105, 99]⟩
abbrev k_step : ByteArray := ⟨#[115, 116, 101, 112]⟩
abbrev k_cooldown : ByteArray := ⟨#[99, 111, 111, 108, 100, 111, 119, 110]⟩
abbrev k_up : ByteArray := ⟨#[117, 112]⟩
abbrev k_down : ByteArray := ⟨#[100, 111, 119, 110]⟩
abbrev k_let : ByteArray := ⟨#[108, 101, 116]⟩
abbrev k_guard : ByteArray := ⟨#[103, 117, 97, 114, 100]⟩
abbrev k_then : ByteArray := ⟨#[116, 104, 101, 110]⟩
abbrev k_decide : ByteArray := ⟨#[100, 101, 99, 105, 100, 101]⟩

/-- A fault: its place, its error. -/
abbrev Flt := Nat × Int
/-- What is read, and the tokens that are left; or a fault. -/
abbrev Rs (α : Type) := Except Flt (α × List Tk)
abbrev Ps := List Tk → Rs Tm
def eot : Tk := ⟨7, ⟨#[]⟩, 0, 0⟩
def hdT : List Tk → Tk
  | [] => eot
  | t :: _ => t
def bnd {α β : Type} (r : Except Flt α) (f : α → Except Flt β) : Except Flt β :=
  match r with
  | .error e => .error e
  | .ok a => f a
theorem bnd_ok {α β : Type} (a : α) (f : α → Except Flt β) : bnd (.ok a) f = f a := rfl
theorem bnd_err {α β : Type} (e : Flt) (f : α → Except Flt β) : bnd (.error e) f = .error e := rfl
/-- The token is this sign or word. -/
def isT (x : ByteArray) (t : Tk) : Bool := decide (t.text = x) && (decide (t.kind = 5) || decide (t.kind = 6))
/-- The next token; c is what is wrong with the one in whose place the end stands. -/
def nxt (c : Int) (L : List Tk) : Except Flt Tk := if (hdT L).kind = 7 ∧ c ≠ 0 then .error ((hdT L).at_, c) else .ok (hdT L)
def takeK (c k : Int) (L : List Tk) : Rs Tk := bnd (nxt c L) fun t => if t.kind = k then .ok (t, L.tail) else .error (t.at_, 16)
def mustS (c : Int) (x : ByteArray) (L : List Tk) : Rs Nat := bnd (nxt c L) fun t => if isT x t = true then .ok (t.at_, L.tail) else .error (t.at_, 16)
def mayS (c : Int) (x : ByteArray) (L : List Tk) : Rs Bool := bnd (nxt c L) fun t => if isT x t = true then .ok (true, L.tail) else .ok (false, L)
/-- A term that has parts alone. -/
abbrev tm (k : Int) (a : Nat) (ps : List Tm) : Tm := ⟨k, ⟨#[]⟩, 0, 0, (a : Int), ps⟩
def unitP (c : Int) (L : List Tk) : Rs ByteArray := bnd (nxt c L) fun t => if t.kind = 8 then .ok (t.text, L.tail) else .ok (⟨#[]⟩, L)
def numberP (c : Int) : Ps := fun L => bnd (takeK c 2 L) fun t => bnd (unitP c t.2) fun u => .ok (⟨1, u.1, t.1.n, 0, (t.1.at_ : Int), []⟩, u.2)
/-- A bracket that opens: X is what is read behind it, if one more may be open. -/
def beginP {α β : Type} (c : Int) (x : ByteArray) (X : Option α) (L : List Tk) (f : α → List Tk → Rs β) : Rs β := bnd (mustS c x L) fun a =>
  match X with
  | none => .error (a.1, 15)
  | some E => f E a.2
def closeP {α : Type} (c : Int) (x : ByteArray) (y : α × List Tk) : Rs α := bnd (mustS c x y.2) fun a => .ok (y.1, a.2)
/-- The parts of a call behind the first. -/
def moreP (c : Int) (E : Ps) : Nat → List Tm → List Tk → Rs (List Tm)
  | 0, ps, L => .ok (ps, L)
  | n + 1, ps, L => bnd (mustS c k_com L) fun a => bnd (E a.2) fun y => moreP c E n (ps ++ [y.1]) y.2
def callP (c : Int) (X : Option Ps) (k : Int) (n : Nat) (a : Nat) (L : List Tk) : Rs Tm :=
  beginP c k_lp X L fun E L1 => bnd (E L1) fun y => bnd (moreP c E n [y.1] y.2) fun z => closeP c k_rp (tm k a z.1, z.2)
def cronP (c : Int) (X : Option Ps) (a : Nat) (L : List Tk) : Rs Tm :=
  beginP c k_lp X L fun _ L1 => bnd (takeK c 4 L1) fun t => closeP c k_rp (⟨6, t.1.text, 0, 0, (a : Int), []⟩, t.2)
def winP (c : Int) (X : Option Ps) (k : Int) (a : Nat) (L : List Tk) : Rs Tm :=
  beginP c k_lp X L fun _ L1 => bnd (takeK c 1 L1) fun t => bnd (mustS c k_com t.2) fun b => bnd (takeK c 3 b.2) fun d =>
    if k = 12 then bnd (mustS c k_com d.2) fun e => bnd (takeK c 2 e.2) fun m => closeP c k_rp (⟨k, t.1.text, d.1.n, m.1.n, (a : Int), []⟩, m.2)
    else closeP c k_rp (⟨k, t.1.text, d.1.n, 0, (a : Int), []⟩, d.2)
def winK (x : ByteArray) : Int :=
  if x = k_sum then 7 else if x = k_avg then 8 else if x = k_low then 9 else if x = k_high then 10 else if x = k_count then 11 else if x = k_rank then 12 else 0
/-- What begins with a reserved word. -/
def wordP (c : Int) (X : Option Ps) (t : Tk) (L : List Tk) : Rs Tm :=
  if t.text = k_true then .ok (tm 3 t.at_ [], L)
  else if t.text = k_false then .ok (tm 4 t.at_ [], L)
  else if t.text = k_reps then .ok (tm 5 t.at_ [], L)
  else if t.text = k_if then callP c X 32 2 t.at_ L
  else if t.text = k_min then callP c X 29 1 t.at_ L
  else if t.text = k_max then callP c X 30 1 t.at_ L
  else if t.text = k_either then callP c X 31 1 t.at_ L
  else if t.text = k_abs then callP c X 15 0 t.at_ L
  else if t.text = k_ceil then callP c X 16 0 t.at_ L
  else if t.text = k_floor then callP c X 17 0 t.at_ L
  else if t.text = k_cron then cronP c X t.at_ L
  else if winK t.text = 0 then .error (t.at_, 16)
  else winP c X (winK t.text) t.at_ L
def atomP (c : Int) (X : Option Ps) : Ps := fun L => bnd (nxt c L) fun t =>
  if t.kind = 2 then numberP c L
  else if t.kind = 1 then .ok (⟨2, t.text, 0, 0, (t.at_ : Int), []⟩, L.tail)
  else if t.kind = 6 then wordP c X t L.tail
  else beginP c k_lp X L fun E L1 => bnd (E L1) fun y => closeP c k_rp y
def facP (c : Int) (A : Ps) : Ps := fun L => bnd (nxt c L) fun t =>
  if isT k_sub t = true then bnd (A L.tail) fun y => .ok (tm 13 t.at_ [y.1], y.2)
  else if isT k_not t = true then bnd (A L.tail) fun y => .ok (tm 14 t.at_ [y.1], y.2)
  else A L
abbrev Sg := List (ByteArray × Int)
/-- The sign that the token is. -/
def sgT (sg : Sg) (t : Tk) : Option Int := (sg.find? fun s => isT s.1 t).map Prod.snd
def joinP (c : Int) (sg : Sg) (S : Ps) (x : Tm) (L : List Tk) : Rs (Tm × Bool) := bnd (nxt c L) fun t =>
  match sgT sg t with
  | some k => bnd (S L.tail) fun y => .ok ((tm k t.at_ [x, y.1], true), y.2)
  | none => .ok ((x, false), L)
def leftL (c : Int) (sg : Sg) (S : Ps) : Nat → Tm → List Tk → Rs Tm
  | 0, x, L => .ok (x, L)
  | f + 1, x, L => bnd (joinP c sg S x L) fun y => if y.1.2 = true then leftL c sg S f y.1.1 y.2 else .ok (y.1.1, y.2)
def leftP (c : Int) (sg : Sg) (S : Ps) : Ps := fun L => bnd (S L) fun y => leftL c sg S y.2.length y.1 y.2
def cmpP (c : Int) (sg : Sg) (S : Ps) : Ps := fun L => bnd (S L) fun y => bnd (joinP c sg S y.1 y.2) fun z => .ok (z.1.1, z.2)
abbrev sgOr : Sg := [(k_or, 28)]
abbrev sgAnd : Sg := [(k_and, 27)]
abbrev sgCmp : Sg := [(k_lt, 22), (k_le, 23), (k_eq, 24), (k_gt, 25), (k_ge, 26)]
abbrev sgSum : Sg := [(k_add, 18), (k_sub, 19)]
abbrev sgMul : Sg := [(k_mul, 20), (k_div, 21)]
def lv5 (c : Int) (X : Option Ps) : Ps := facP c (atomP c X)
def lv4 (c : Int) (X : Option Ps) : Ps := leftP c sgMul (lv5 c X)
def lv3 (c : Int) (X : Option Ps) : Ps := leftP c sgSum (lv4 c X)
def lv2 (c : Int) (X : Option Ps) : Ps := cmpP c sgCmp (lv3 c X)
def lv1 (c : Int) (X : Option Ps) : Ps := leftP c sgAnd (lv2 c X)
def lv0 (c : Int) (X : Option Ps) : Ps := leftP c sgOr (lv1 c X)
/-- An expression, where d brackets more may be open. -/
def exprD (c : Int) : Nat → Ps
  | 0 => lv0 c none
  | d + 1 => lv0 c (some (exprD c d))
def inner (f : Nat → Ps) : Nat → Option Ps
  | 0 => none
  | d + 1 => some (f d)
theorem exprD_eq (c : Int) (d : Nat) : exprD c d = lv0 c (inner (exprD c) d) := by cases d <;> rfl

/-! ### Actions -/
def boundP (c : Int) : Ps := fun L => bnd (nxt c L) fun t => if isT k_sub t = true then bnd (numberP c L.tail) fun y => .ok (tm 13 t.at_ [y.1], y.2) else numberP c L
def rungs (c : Int) (A : Ps) : Nat → List Tm → List Tk → Rs (List Tm)
  | 0, ps, L => .ok (ps, L)
  | f + 1, ps, L => bnd (mayS c k_else L) fun b =>
    if b.1 = true then bnd (mustS c k_col b.2) fun a => bnd (A a.2) fun y => closeP c k_rb (ps ++ [y.1], y.2)
    else bnd (boundP c b.2) fun x => bnd (mustS c k_col x.2) fun a => bnd (A a.2) fun y => bnd (mustS c k_com y.2) fun d => rungs c A f (ps ++ [x.1, y.1]) d.2
def actP (c : Int) (E : Ps) (A : Option Ps) : Ps := fun L => bnd (nxt c L) fun t =>
  if isT k_hold t = true then .ok (tm 33 t.at_ [], L.tail)
  else if isT k_to t = true then bnd (E L.tail) fun y => .ok (tm 34 t.at_ [y.1], y.2)
  else if isT k_by t = true then bnd (E L.tail) fun y => .ok (tm 35 t.at_ [y.1], y.2)
  else if isT k_ladder t = true then bnd (E L.tail) fun x => beginP c k_lb A x.2 fun B L1 => bnd (rungs c B L1.length [x.1] L1) fun z => .ok (tm 36 t.at_ z.1, z.2)
  else .error (t.at_, 16)
def actD (c : Int) : Nat → Ps
  | 0 => actP c (exprD c 0) none
  | d + 1 => actP c (exprD c (d + 1)) (some (actD c d))
theorem actD_eq (c : Int) (d : Nat) : actD c d = actP c (exprD c d) (inner (actD c) d) := by cases d <;> rfl
/-- Nothing is left. -/
def endP {α : Type} (c : Int) (y : α × List Tk) : Except Flt α := bnd (nxt c y.2) fun t => if t.kind = 7 then .ok y.1 else .error (t.at_, 16)
end Go.Proofs.YtecdfnpbcabdnaaGreatDoor
