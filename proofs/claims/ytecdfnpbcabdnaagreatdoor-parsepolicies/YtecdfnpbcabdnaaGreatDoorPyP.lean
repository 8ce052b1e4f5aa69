/- Items and policies read off tokens, plain: the chapter's grammar. -/
import Derived.Test.YtecdfnpbcabdnaaGreatDoorPyB
import Derived.Test.YtecdfnpbcabdnaaGreatDoorTqA
namespace Go.Proofs.YtecdfnpbcabdnaaGreatDoor
open Go.Lib

/-- An item, by its fields; its place is a token's. -/
abbrev itm (k : Int) (nm un : ByteArray) (a b c : Int) (x y : Tm) (p : Nat) : It := ⟨k, nm, un, a, b, c, x, y, (p : Int)⟩
def metricP (c : Int) (p : Nat) (L : List Tk) : Rs It := bnd (takeK c 1 L) fun t => bnd (unitP c t.2) fun u => .ok (itm 1 t.1.text u.1 0 0 0 nilM nilM p, u.2)
def repsP (c : Int) (p : Nat) (L : List Tk) : Rs It := bnd (takeK c 2 L) fun t => bnd (mustS c k_dots t.2) fun b => bnd (takeK c 2 b.2) fun d => bnd (mayS c k_step d.2) fun s =>
  if s.1 = true then bnd (takeK c 2 s.2) fun e => .ok (itm 2 noB noB t.1.n d.1.n e.1.n nilM nilM p, e.2) else .ok (itm 2 noB noB t.1.n d.1.n 0 nilM nilM p, s.2)
def coolP (c : Int) (p : Nat) (L : List Tk) : Rs It := bnd (mayS c k_up L) fun s =>
  if s.1 = true then bnd (takeK c 3 s.2) fun t => .ok (itm 3 noB noB t.1.n 0 0 nilM nilM p, t.2)
  else bnd (mustS c k_down s.2) fun b => bnd (takeK c 3 b.2) fun t => .ok (itm 4 noB noB t.1.n 0 0 nilM nilM p, t.2)
def letP (c : Int) (E : Ps) (p : Nat) (L : List Tk) : Rs It := bnd (takeK c 1 L) fun t => bnd (mustS c k_eq t.2) fun b => bnd (E b.2) fun y => .ok (itm 5 t.1.text noB 0 0 0 y.1 nilM p, y.2)
def guardP (c : Int) (E A : Ps) (p : Nat) (L : List Tk) : Rs It := bnd (E L) fun y => bnd (mustS c k_then y.2) fun b => bnd (A b.2) fun q => .ok (itm 6 noB noB 0 0 0 y.1 q.1 p, q.2)
def decideP (A : Ps) (p : Nat) (L : List Tk) : Rs It := bnd (A L) fun q => .ok (itm 7 noB noB 0 0 0 nilM q.1 p, q.2)
def itemP (c : Int) (E A : Ps) (L : List Tk) : Rs It := bnd (nxt c L) fun t =>
  if isT k_metric t = true then metricP c t.at_ L.tail
  else if isT k_reps t = true then repsP c t.at_ L.tail
  else if isT k_cooldown t = true then coolP c t.at_ L.tail
  else if isT k_let t = true then letP c E t.at_ L.tail
  else if isT k_guard t = true then guardP c E A t.at_ L.tail
  else if isT k_decide t = true then decideP A t.at_ L.tail
  else .error (t.at_, 16)
/-- The items, behind those that are there, up to the one that decides. -/
def itemsP (c : Int) (E A : Ps) : Nat → List It → List Tk → Rs (List It)
  | 0, l, L => .ok (l, L)
  | f + 1, l, L => bnd (itemP c E A L) fun x => bnd (mustS c k_sem x.2) fun b => if x.1.kind = 7 then .ok (l ++ [x.1], b.2) else itemsP c E A f (l ++ [x.1]) b.2
def polP (c : Int) (E A : Ps) (L : List Tk) : Rs (ByteArray × List It) := bnd (mustS c k_policy L) fun a => bnd (takeK c 1 a.2) fun t => bnd (mustS c k_sem t.2) fun b =>
  bnd (itemsP c E A b.2.length [] b.2) fun z => .ok ((t.1.text, z.1), z.2)
theorem itemsP_succ (c : Int) (E A : Ps) (f : Nat) (l : List It) (L : List Tk) : itemsP c E A (f + 1) l L = bnd (itemP c E A L) fun x => bnd (mustS c k_sem x.2) fun b => if x.1.kind = 7 then .ok (l ++ [x.1], b.2) else itemsP c E A f (l ++ [x.1]) b.2 := rfl

theorem dec_ok {α : Type} {x : α} {L L' : List Tk} {y : α × List Tk} (h : (Except.ok (x, L) : Rs α) = .ok y) (hl : L.length ≤ L'.length) : y.2.length ≤ L'.length := by cases h; exact hl
theorem dec_metric {c : Int} {p : Nat} : Dec (metricP c p) := fun L y h => by
  obtain ⟨t, h1, h2⟩ := bnd_inv h
  obtain ⟨u, h3, h4⟩ := bnd_inv h2
  exact dec_ok h4 (Nat.le_trans (dec_unit c _ _ h3) (dec_take h1))
theorem dec_reps {c : Int} {p : Nat} : Dec (repsP c p) := fun L y h => by
  obtain ⟨t, h1, h2⟩ := bnd_inv h
  obtain ⟨b, h3, h4⟩ := bnd_inv h2
  obtain ⟨d, h5, h6⟩ := bnd_inv h4
  obtain ⟨s, h7, h8⟩ := bnd_inv h6
  have k1 := dec_take h1
  have k2 := dec_must h3
  have k3 := dec_take h5
  have k4 := dec_may h7
  split at h8
  · obtain ⟨e, h9, h10⟩ := bnd_inv h8
    have k5 := dec_take h9
    exact dec_ok h10 (by omega)
  · exact dec_ok h8 (by omega)
theorem dec_cool {c : Int} {p : Nat} : Dec (coolP c p) := fun L y h => by
  obtain ⟨s, h1, h2⟩ := bnd_inv h
  have k1 := dec_may h1
  split at h2
  · obtain ⟨t, h3, h4⟩ := bnd_inv h2
    have k2 := dec_take h3
    exact dec_ok h4 (by omega)
  · obtain ⟨b, h3, h4⟩ := bnd_inv h2
    obtain ⟨t, h5, h6⟩ := bnd_inv h4
    have k2 := dec_must h3
    have k3 := dec_take h5
    exact dec_ok h6 (by omega)
theorem dec_let {c : Int} {E : Ps} (hE : Dec E) {p : Nat} : Dec (letP c E p) := fun L y h => by
  obtain ⟨t, h1, h2⟩ := bnd_inv h
  obtain ⟨b, h3, h4⟩ := bnd_inv h2
  obtain ⟨q, h5, h6⟩ := bnd_inv h4
  have k1 := dec_take h1
  have k2 := dec_must h3
  have k3 := hE _ _ h5
  exact dec_ok h6 (by omega)
theorem dec_guard {c : Int} {E A : Ps} (hE : Dec E) (hA : Dec A) {p : Nat} : Dec (guardP c E A p) := fun L y h => by
  obtain ⟨t, h1, h2⟩ := bnd_inv h
  obtain ⟨b, h3, h4⟩ := bnd_inv h2
  obtain ⟨q, h5, h6⟩ := bnd_inv h4
  have k1 := hE _ _ h1
  have k2 := dec_must h3
  have k3 := hA _ _ h5
  exact dec_ok h6 (by omega)
theorem dec_decide {A : Ps} (hA : Dec A) {p : Nat} : Dec (decideP A p) := fun L y h => by
  obtain ⟨t, h1, h2⟩ := bnd_inv h
  exact dec_ok h2 (hA _ _ h1)
/-- An item takes a token at least. -/
theorem dec_item {c : Int} {E A : Ps} (hE : Dec E) (hA : Dec A) {L : List Tk} {y : It × List Tk} (h : itemP c E A L = .ok y) : y.2.length ≤ L.tail.length := by
  obtain ⟨t, h1, h2⟩ := bnd_inv h
  split at h2
  · exact dec_metric _ _ h2
  split at h2
  · exact dec_reps _ _ h2
  split at h2
  · exact dec_cool _ _ h2
  split at h2
  · exact dec_let hE _ _ h2
  split at h2
  · exact dec_guard hE hA _ _ h2
  split at h2
  · exact dec_decide hA _ _ h2
  · cases h2
theorem dec_items {c : Int} {E A : Ps} (hE : Dec E) (hA : Dec A) : ∀ f l L y, itemsP c E A f l L = .ok y → y.2.length ≤ L.length
  | 0, _, _, _, h => by cases h; exact Nat.le_refl _
  | f + 1, l, L, y, h => by
    obtain ⟨x, h1, h2⟩ := bnd_inv h
    obtain ⟨b, h3, h4⟩ := bnd_inv h2
    have k1 := dec_item hE hA h1
    have k2 := dec_must h3
    have k3 := tail_le L
    split at h4
    · exact dec_ok h4 (by omega)
    · have := dec_items hE hA f _ _ _ h4
      omega

end Go.Proofs.YtecdfnpbcabdnaaGreatDoor
