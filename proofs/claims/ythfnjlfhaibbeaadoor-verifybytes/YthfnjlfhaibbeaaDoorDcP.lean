/- Package codec, plain: a program's bytes, and what bytes tell. -/
import Derived.Test.YthfnjlfhaibbeaaDoorDcM
namespace Go.Proofs.YthfnjlfhaibbeaaDoor
open Go.RowKit

/-- A number's last bytes, the highest first: so many. -/
def beN : Nat → Int → List UInt8
  | 0, _ => []
  | k + 1, n => UInt8.ofNat ((n / 256 ^ k) % 256).toNat :: beN k n
/-- The number that bytes tell. -/
def beW (l : List UInt8) : Nat := l.foldl (fun n b => n * 256 + b.toNat) 0
theorem beN_len : ∀ (k : Nat) (n : Int), (beN k n).length = k
  | 0, _ => rfl
  | k + 1, n => by rw [beN, List.length_cons, beN_len k n]
theorem fold_be : ∀ (l : List UInt8) (a : Nat), l.foldl (fun n b => n * 256 + b.toNat) a = a * 256 ^ l.length + beW l
  | [], a => by simp [beW]
  | b :: r, a => by
    have h1 := fold_be r (a * 256 + b.toNat)
    have h2 := fold_be r (0 * 256 + b.toNat)
    simp only [beW, List.foldl_cons, List.length_cons] at h1 h2 ⊢
    rw [h1, h2, Nat.pow_succ, Nat.zero_mul, Nat.zero_add, Nat.add_mul, ← Nat.add_assoc, Nat.mul_assoc, Nat.mul_comm 256]
theorem beW_cons (b : UInt8) (r : List UInt8) : beW (b :: r) = b.toNat * 256 ^ r.length + beW r := by
  have := fold_be r (0 * 256 + b.toNat)
  rw [beW, List.foldl_cons, this, Nat.zero_mul, Nat.zero_add]
theorem beW_snoc (l : List UInt8) (b : UInt8) : beW (l ++ [b]) = beW l * 256 + b.toNat := by simp [beW]
theorem beW_lt : ∀ l : List UInt8, beW l < 256 ^ l.length
  | [] => by simp [beW]
  | b :: r => by
    rw [beW_cons, List.length_cons, Nat.pow_succ]
    have h1 := beW_lt r
    have h2 : b.toNat < 256 := b.toNat_lt
    have h3 : (b.toNat + 1) * 256 ^ r.length ≤ 256 * 256 ^ r.length := Nat.mul_le_mul_right _ h2
    rw [Nat.add_mul, Nat.one_mul] at h3
    rw [Nat.mul_comm (256 ^ r.length)]
    omega
theorem pow_pos256 (k : Nat) : (0 : Int) < 256 ^ k := Int.pow_pos (by decide)
theorem emod_div (n : Int) {a b : Int} (ha : 0 < a) : n % (a * b) / a = n / a % b := by
  rw [Int.emod_def, Int.emod_def, Int.ediv_ediv_of_nonneg (Int.le_of_lt ha), Int.mul_assoc, Int.sub_eq_add_neg, ← Int.mul_neg, Int.add_mul_ediv_left _ _ (Int.ne_of_gt ha), ← Int.sub_eq_add_neg]
theorem beN_mod : ∀ (k : Nat) (m : Nat) (n : Int), k ≤ m → beN k (n % 256 ^ m) = beN k n
  | 0, _, _, _ => rfl
  | k + 1, m, n, h => by
    rw [beN, beN, beN_mod k m n (by omega)]
    congr 3
    have e : (256 : Int) ^ m = 256 ^ k * (256 * 256 ^ (m - (k + 1))) := by
      rw [← Int.mul_assoc, ← Int.pow_succ, ← Int.pow_add, show k + 1 + (m - (k + 1)) = m by omega]
    rw [e, emod_div _ (pow_pos256 k), Int.emod_emod_of_dvd _ (Int.dvd_mul_right _ _)]
theorem beN_congr {k : Nat} {a b : Int} (h : a % 256 ^ k = b % 256 ^ k) : beN k a = beN k b := by rw [← beN_mod k k a (Nat.le_refl _), h, beN_mod k k b (Nat.le_refl _)]
theorem beW_be : ∀ (k : Nat) (n : Int), ((beW (beN k n) : Nat) : Int) = n % 256 ^ k
  | 0, n => by simp [beN, beW]
  | k + 1, n => by
    have hp := pow_pos256 k
    have h1 : 0 ≤ (n / 256 ^ k) % 256 := Int.emod_nonneg _ (by decide)
    have h2 : (n / 256 ^ k) % 256 < 256 := Int.emod_lt_of_pos _ (by decide)
    have h3 : ((UInt8.ofNat ((n / 256 ^ k) % 256).toNat).toNat : Int) = (n / 256 ^ k) % 256 := by
      generalize n / 256 ^ k % 256 = q at h1 h2 ⊢
      have hq : q.toNat < 2 ^ 8 := by omega
      rw [UInt8.toNat_ofNat_of_lt' hq]
      omega
    rw [beN, beW_cons, beN_len, Int.natCast_add, Int.natCast_mul, h3, beW_be k n, Int.natCast_pow, Int.pow_succ]
    have h4 := emod_div n hp (b := 256)
    have h5 := Int.emod_add_mul_ediv (n % (256 ^ k * 256)) (256 ^ k)
    rw [h4, Int.emod_emod_of_dvd _ (Int.dvd_mul_right _ _)] at h5
    rw [← h5, Int.add_comm, Int.mul_comm]
    rfl
theorem be_beW : ∀ l : List UInt8, beN l.length (beW l : Nat) = l
  | [] => rfl
  | b :: r => by
    have h1 := beW_lt r
    have h2 : b.toNat < 256 := b.toNat_lt
    have hp : (0 : Int) < 256 ^ r.length := pow_pos256 _
    have e : ((beW (b :: r) : Nat) : Int) = (b.toNat : Int) * 256 ^ r.length + (beW r : Nat) := by rw [beW_cons]; simp
    have h3 : ((beW r : Nat) : Int) < 256 ^ r.length := by have := Int.ofNat_lt.2 h1; simpa using this
    rw [List.length_cons, beN, e]
    congr 1
    · rw [Int.add_comm, Int.add_mul_ediv_right _ _ (Int.ne_of_gt hp), Int.ediv_eq_zero_of_lt (Int.natCast_nonneg _) h3, Int.zero_add, show ((b.toNat : Int) % 256).toNat = b.toNat by omega]
      simp
    · have : beN r.length ((b.toNat : Int) * 256 ^ r.length + (beW r : Nat)) = beN r.length (beW r : Nat) := beN_congr (by rw [Int.add_comm, Int.add_mul_emod_self_right])
      rw [this]
      exact be_beW r
/-- Eight bytes as a number of 64 bits. -/
def i64W (l : List UInt8) : Int := if (beW l : Int) < 9223372036854775808 then (beW l : Int) else (beW l : Int) - 18446744073709551616
theorem p8 : (256 : Int) ^ 8 = 18446744073709551616 := by decide
theorem p4 : (256 : Int) ^ 4 = 4294967296 := by decide
theorem i64W_be {n : Int} (h : C64 n) : i64W (beN 8 n) = n := by
  unfold C64 at h
  have := beW_be 8 n
  rw [p8] at this
  unfold i64W
  rw [this]
  split <;> omega
theorem i64W_ok {l : List UInt8} (h : l.length = 8) : C64 (i64W l) := by
  have := beW_lt l
  rw [h, show 256 ^ 8 = 18446744073709551616 from by decide] at this
  unfold C64 i64W
  split <;> omega
theorem be_i64W {l : List UInt8} (h : l.length = 8) : beN 8 (i64W l) = l := by
  have e : beN 8 (i64W l) = beN 8 (beW l : Nat) := beN_congr (by rw [p8]; unfold i64W; split <;> omega)
  rw [e, ← h]
  exact be_beW l
theorem four_be {n : Int} (h0 : 0 ≤ n) (h1 : n ≤ 2147483647) : (beW (beN 4 n) : Int) = n := by
  rw [beW_be, p4]
  omega
theorem one_be {n : Int} (h0 : 0 ≤ n) (h1 : n ≤ 255) : (beW (beN 1 n) : Int) = n := by
  rw [beW_be, show (256 : Int) ^ 1 = 256 by decide]
  omega
theorem nat_be {n : Nat} (h : n < 18446744073709551616) : beW (beN 8 (n : Nat)) = n := by
  have := beW_be 8 (n : Nat)
  rw [p8] at this
  omega
theorem be_of {l : List UInt8} {k : Nat} (h : l.length = k) : beN k (beW l : Nat) = l := by subst h; exact be_beW l

/-- The bytes of the pieces. -/
def enW (x : WiP) : List UInt8 := beN 4 x.m ++ beN 4 x.a ++ beN 8 x.s ++ beN 8 x.p
def enC (x : Cr) : List UInt8 := beN 8 (x.a : Nat) ++ beN 8 (x.b : Nat) ++ beN 8 (x.c : Nat) ++ beN 8 (x.d : Nat) ++ beN 8 (x.e : Nat)
def enI (x : Ins) : List UInt8 := beN 1 x.1 ++ beN 8 x.2
def enL {α : Type} (f : α → List UInt8) (l : List α) : List UInt8 := beN 4 (l.length : Nat) ++ l.flatMap f
def enH (g : PgP) : List UInt8 := [0x63, 0x70, 0x73, 0x31] ++ (beN 4 g.met ++ beN 4 g.loc ++ beN 4 g.h) ++ (beN 8 g.ru.mn ++ beN 8 g.ru.mx ++ beN 8 g.ru.st ++ beN 8 g.ru.up ++ beN 8 g.ru.dn)
/-- The bytes of a program. -/
def encF (g : PgP) : List UInt8 := enH g ++ enL (beN 8) g.K ++ enL enW g.wins ++ enL enC g.crons ++ enL enI g.C
/-- A number of four bytes. -/
def fitB (n : Int) : Bool := decide (0 ≤ n) && decide (n ≤ 2147483647)
def opB (n : Int) : Bool := decide (0 ≤ n) && decide (n ≤ 255)
def fewL (g : PgP) : Bool := decide (g.K.length ≤ 16384) && decide (g.wins.length ≤ 256) && decide (g.crons.length ≤ 256) && decide (g.C.length ≤ 16384)
/-- A program can be told. -/
def toldB (g : PgP) : Bool := fewL g && g.wins.all (fun x => fitB x.m && fitB x.a) && g.C.all (fun x => opB x.1) && (fitB g.met && fitB g.loc && fitB g.h)
theorem enW_len (x : WiP) : (enW x).length = 24 := by simp [enW, beN_len]
theorem enC_len (x : Cr) : (enC x).length = 40 := by simp [enC, beN_len]
theorem enI_len (x : Ins) : (enI x).length = 9 := by simp [enI, beN_len]
theorem enH_len (g : PgP) : (enH g).length = 56 := by simp [enH, beN_len]
theorem flat_len {α : Type} {f : α → List UInt8} {k : Nat} (h : ∀ x, (f x).length = k) (l : List α) : (l.flatMap f).length = l.length * k := by
  induction l with
  | nil => simp
  | cons x r ih => rw [List.flatMap_cons, List.length_append, h, ih, List.length_cons, Nat.succ_mul, Nat.add_comm]
theorem enL_len {α : Type} {f : α → List UInt8} {k : Nat} (h : ∀ x, (f x).length = k) (l : List α) : (enL f l).length = 4 + l.length * k := by rw [enL, List.length_append, beN_len, flat_len h]
theorem encF_len (g : PgP) : (encF g).length = 72 + g.K.length * 8 + g.wins.length * 24 + g.crons.length * 40 + g.C.length * 9 := by
  simp only [encF, List.length_append, enH_len, enL_len (beN_len 8), enL_len enW_len, enL_len enC_len, enL_len enI_len]
  omega
structure ToldP (g : PgP) : Prop where
  k : g.K.length ≤ 16384
  wi : g.wins.length ≤ 256
  cr : g.crons.length ≤ 256
  c : g.C.length ≤ 16384
  win : ∀ x, x ∈ g.wins → (0 ≤ x.m ∧ x.m ≤ 2147483647) ∧ 0 ≤ x.a ∧ x.a ≤ 2147483647
  op : ∀ x, x ∈ g.C → 0 ≤ x.1 ∧ x.1 ≤ 255
  met : 0 ≤ g.met ∧ g.met ≤ 2147483647
  loc : 0 ≤ g.loc ∧ g.loc ≤ 2147483647
  h : 0 ≤ g.h ∧ g.h ≤ 2147483647
theorem told_iff {g : PgP} : toldB g = true ↔ ToldP g := by
  simp only [toldB, fewL, fitB, opB, Bool.and_eq_true, decide_eq_true_eq, List.all_eq_true]
  constructor
  · rintro ⟨⟨⟨⟨⟨⟨h1, h2⟩, h3⟩, h4⟩, h5⟩, h6⟩, ⟨h7, h8⟩, h9⟩
    exact ⟨h1, h2, h3, h4, h5, h6, h7, h8, h9⟩
  · rintro ⟨h1, h2, h3, h4, h5, h6, h7, h8, h9⟩
    exact ⟨⟨⟨⟨⟨⟨h1, h2⟩, h3⟩, h4⟩, h5⟩, h6⟩, ⟨h7, h8⟩, h9⟩
theorem told_len {g : PgP} (h : ToldP g) : (encF g).length ≤ 300000 := by
  have := h.k
  have := h.wi
  have := h.cr
  have := h.c
  rw [encF_len]
  omega

/-- What a reader does: it takes bytes off the front, or gives up. -/
abbrev Rdr (α : Type) := List UInt8 → Option (α × List UInt8)
def rCut (k : Nat) : Rdr (List UInt8) := fun l => if k ≤ l.length then some (l.take k, l.drop k) else none
def rNum (k : Nat) : Rdr Nat := fun l => (rCut k l).map (fun p => (beW p.1, p.2))
def rFour : Rdr Int := fun l => (rNum 4 l).bind (fun p => if p.1 ≤ 2147483647 then some ((p.1 : Int), p.2) else none)
def rEight : Rdr Int := fun l => (rCut 8 l).map (fun p => (i64W p.1, p.2))
def rBind {α β : Type} (f : Rdr α) (g : α → Rdr β) : Rdr β := fun l => (f l).bind (fun p => g p.1 p.2)
def rRet {α : Type} (a : α) : Rdr α := fun l => some (a, l)
def rMany {α : Type} (f : Rdr α) : Nat → Rdr (List α)
  | 0 => rRet []
  | n + 1 => rBind f fun a => rBind (rMany f n) fun r => rRet (a :: r)
def rList {α : Type} (most : Nat) (f : Rdr α) : Rdr (List α) := rBind rFour fun n => if n ≤ (most : Int) then rMany f n.toNat else fun _ => none
def rRules : Rdr RuP := rBind rEight fun a => rBind rEight fun b => rBind rEight fun c => rBind rEight fun d => rBind rEight fun e => rRet ⟨a, b, c, d, e⟩
def rWin : Rdr WiP := rBind rFour fun a => rBind rFour fun b => rBind rEight fun c => rBind rEight fun d => rRet ⟨a, b, c, d⟩
def rCron : Rdr Cr := rBind (rNum 8) fun a => rBind (rNum 8) fun b => rBind (rNum 8) fun c => rBind (rNum 8) fun d => rBind (rNum 8) fun e => rRet ⟨a, b, c, d, e⟩
def rIns : Rdr Ins := rBind (rNum 1) fun a => rBind rEight fun b => rRet ((a : Int), b)
def rMark : Rdr Unit := rBind (rCut 4) fun m => if m = [0x63, 0x70, 0x73, 0x31] then rRet () else fun _ => none
def rEnd {α : Type} (a : α) : Rdr α := fun l => if l = [] then some (a, []) else none
def rProg : Rdr PgP := rBind rMark fun _ => rBind rFour fun a => rBind rFour fun b => rBind rFour fun c => rBind rRules fun ru => rBind (rList 16384 rEight) fun ks => rBind (rList 256 rWin) fun ws => rBind (rList 256 rCron) fun cs => rBind (rList 16384 rIns) fun is => rEnd ⟨a, ru, ks, ws, cs, b, c, is⟩
/-- The program that bytes tell. -/
def decF (b : List UInt8) : Option PgP := (rProg b).map (·.1)

/-- A reader reads back what a writer wrote, where it may be written. -/
structure Reads {α : Type} (f : Rdr α) (e : α → List UInt8) (ok : α → Prop) : Prop where
  fwd : ∀ a r, ok a → f (e a ++ r) = some (a, r)
  bwd : ∀ l a r, f l = some (a, r) → l = e a ++ r ∧ ok a
theorem cut_app {a r : List UInt8} {k : Nat} (h : a.length = k) : rCut k (a ++ r) = some (a, r) := by
  subst h
  unfold rCut
  rw [if_pos (by simp)]
  simp
theorem cut_bwd {l a r : List UInt8} {k : Nat} (h : rCut k l = some (a, r)) : l = a ++ r ∧ a.length = k := by
  unfold rCut at h
  split at h
  · cases h
    exact ⟨(List.take_append_drop k l).symm, by simp; omega⟩
  · cases h
theorem num_reads (k : Nat) : Reads (rNum k) (fun n : Nat => beN k (n : Nat)) (fun n => n < 256 ^ k) := by
  refine ⟨fun a r h => ?_, fun l a r h => ?_⟩
  · unfold rNum
    rw [cut_app (beN_len k _)]
    simp only [Option.map_some, Option.some.injEq, Prod.mk.injEq, and_true]
    have h1 := beW_be k (a : Nat)
    rw [Int.emod_eq_of_lt (Int.natCast_nonneg _) (by have := Int.ofNat_lt.2 h; simpa using this)] at h1
    omega
  · unfold rNum at h
    cases hc : rCut k l with
    | none => rw [hc] at h; cases h
    | some p =>
      rw [hc] at h
      cases h
      obtain ⟨h1, h2⟩ := cut_bwd hc
      refine ⟨?_, by have := beW_lt p.1; rw [h2] at this; exact this⟩
      show l = beN k (beW p.1 : Nat) ++ p.2
      rw [be_of h2]
      exact h1
theorem four_reads : Reads rFour (beN 4) (fun n => 0 ≤ n ∧ n ≤ 2147483647) := by
  refine ⟨fun a r h => ?_, fun l a r h => ?_⟩
  · have h1 := (num_reads 4).fwd a.toNat r (by show a.toNat < 4294967296; omega)
    have h2 : ((a.toNat : Nat) : Int) = a := by omega
    simp only [h2] at h1
    unfold rFour
    rw [h1]
    simp only [Option.bind_some]
    rw [if_pos (by omega), h2]
  · unfold rFour at h
    cases hc : rNum 4 l with
    | none => rw [hc] at h; cases h
    | some p =>
      rw [hc] at h
      simp only [Option.bind_some] at h
      split at h
      · rename_i hm
        cases h
        exact ⟨((num_reads 4).bwd l p.1 p.2 hc).1, by omega, by omega⟩
      · cases h
theorem eight_reads : Reads rEight (beN 8) C64 := by
  refine ⟨fun a r h => ?_, fun l a r h => ?_⟩
  · unfold rEight
    rw [cut_app (beN_len 8 _), Option.map_some, i64W_be h]
  · unfold rEight at h
    cases hc : rCut 8 l with
    | none => rw [hc] at h; cases h
    | some p =>
      rw [hc] at h
      simp only [Option.map_some, Option.some.injEq, Prod.mk.injEq] at h
      obtain ⟨rfl, rfl⟩ := h
      obtain ⟨h1, h2⟩ := cut_bwd hc
      exact ⟨by rw [be_i64W h2]; exact h1, i64W_ok h2⟩
theorem bind_some {α β : Type} {f : Rdr α} {g : α → Rdr β} {l : List UInt8} {b : β} {r : List UInt8} (h : rBind f g l = some (b, r)) : ∃ a m, f l = some (a, m) ∧ g a m = some (b, r) := by
  unfold rBind at h
  cases hf : f l with
  | none => rw [hf] at h; cases h
  | some p => rw [hf] at h; exact ⟨p.1, p.2, rfl, h⟩
theorem bind_fwd {α β : Type} {f : Rdr α} {g : α → Rdr β} {l m : List UInt8} {a : α} (h : f l = some (a, m)) : rBind f g l = g a m := by unfold rBind; rw [h]; rfl
theorem many_reads {α : Type} {f : Rdr α} {e : α → List UInt8} {ok : α → Prop} (h : Reads f e ok) : ∀ n, (∀ xs r, xs.length = n → (∀ x, x ∈ xs → ok x) → rMany f n (xs.flatMap e ++ r) = some (xs, r)) ∧ ∀ l xs r, rMany f n l = some (xs, r) → l = xs.flatMap e ++ r ∧ xs.length = n ∧ ∀ x, x ∈ xs → ok x
  | 0 => by
    refine ⟨fun xs r hl _ => ?_, fun l xs r hr => ?_⟩
    · obtain rfl := List.eq_nil_of_length_eq_zero hl
      rfl
    · simp only [rMany, rRet, Option.some.injEq, Prod.mk.injEq] at hr
      obtain ⟨rfl, rfl⟩ := hr
      exact ⟨rfl, rfl, fun x hx => by cases hx⟩
  | n + 1 => by
    obtain ⟨i1, i2⟩ := many_reads h n
    refine ⟨fun xs r hl ho => ?_, fun l xs r hr => ?_⟩
    · cases xs with
      | nil => cases hl
      | cons x xs =>
        rw [List.flatMap_cons, List.append_assoc]
        simp only [rMany]
        rw [bind_fwd (h.fwd x _ (ho x List.mem_cons_self)), bind_fwd (i1 xs r (by simpa using hl) (fun y hy => ho y (List.mem_cons_of_mem _ hy)))]
        rfl
    · simp only [rMany] at hr
      obtain ⟨a, m, h1, hr⟩ := bind_some hr
      obtain ⟨ys, m2, h2, hr⟩ := bind_some hr
      simp only [rRet, Option.some.injEq, Prod.mk.injEq] at hr
      obtain ⟨rfl, rfl⟩ := hr
      obtain ⟨e1, o1⟩ := h.bwd _ _ _ h1
      obtain ⟨e2, l2, o2⟩ := i2 _ _ _ h2
      refine ⟨by rw [e1, e2, List.flatMap_cons, List.append_assoc], by simp [l2], fun x hx => ?_⟩
      rcases List.mem_cons.1 hx with rfl | hx
      · exact o1
      · exact o2 x hx
theorem list_reads {α : Type} {f : Rdr α} {e : α → List UInt8} {ok : α → Prop} (h : Reads f e ok) (most : Nat) (hm : most ≤ 2147483647) : Reads (rList most f) (enL e) (fun l => l.length ≤ most ∧ ∀ x, x ∈ l → ok x) := by
  refine ⟨fun xs r ho => ?_, fun l xs r hr => ?_⟩
  · unfold rList enL
    rw [List.append_assoc, bind_fwd (four_reads.fwd (xs.length : Nat) _ ⟨by omega, by omega⟩), if_pos (by omega), show ((xs.length : Nat) : Int).toNat = xs.length by omega]
    exact (many_reads h xs.length).1 xs r rfl ho.2
  · unfold rList at hr
    obtain ⟨n, m, h1, hr⟩ := bind_some hr
    obtain ⟨e1, o1⟩ := four_reads.bwd _ _ _ h1
    split at hr
    · rename_i hn
      obtain ⟨e2, l2, o2⟩ := (many_reads h n.toNat).2 _ _ _ hr
      refine ⟨?_, by omega, o2⟩
      rw [e1, e2, enL, List.append_assoc, show ((xs.length : Nat) : Int) = n by omega]
    · cases hr
theorem win_reads : Reads rWin enW (fun x => ((0 ≤ x.m ∧ x.m ≤ 2147483647) ∧ 0 ≤ x.a ∧ x.a ≤ 2147483647) ∧ C64 x.s ∧ C64 x.p) := by
  refine ⟨fun x r h => ?_, fun l x r hr => ?_⟩
  · unfold rWin enW
    simp only [List.append_assoc]
    rw [bind_fwd (four_reads.fwd _ _ h.1.1), bind_fwd (four_reads.fwd _ _ h.1.2), bind_fwd (eight_reads.fwd _ _ h.2.1), bind_fwd (eight_reads.fwd _ _ h.2.2)]
    rfl
  · unfold rWin at hr
    obtain ⟨a1, m1, h1, hr⟩ := bind_some hr
    obtain ⟨a2, m2, h2, hr⟩ := bind_some hr
    obtain ⟨a3, m3, h3, hr⟩ := bind_some hr
    obtain ⟨a4, m4, h4, hr⟩ := bind_some hr
    cases hr
    obtain ⟨e1, o1⟩ := four_reads.bwd _ _ _ h1
    obtain ⟨e2, o2⟩ := four_reads.bwd _ _ _ h2
    obtain ⟨e3, o3⟩ := eight_reads.bwd _ _ _ h3
    obtain ⟨e4, o4⟩ := eight_reads.bwd _ _ _ h4
    exact ⟨by rw [e1, e2, e3, e4]; simp only [enW, List.append_assoc], ⟨o1, o2⟩, o3, o4⟩
theorem cron_reads : Reads rCron enC Cr.Fits := by
  refine ⟨fun x r h => ?_, fun l x r hr => ?_⟩
  · unfold rCron enC
    simp only [List.append_assoc]
    rw [bind_fwd ((num_reads 8).fwd _ _ h.a), bind_fwd ((num_reads 8).fwd _ _ h.b), bind_fwd ((num_reads 8).fwd _ _ h.c), bind_fwd ((num_reads 8).fwd _ _ h.d), bind_fwd ((num_reads 8).fwd _ _ h.e)]
    rfl
  · unfold rCron at hr
    obtain ⟨a1, m1, h1, hr⟩ := bind_some hr
    obtain ⟨a2, m2, h2, hr⟩ := bind_some hr
    obtain ⟨a3, m3, h3, hr⟩ := bind_some hr
    obtain ⟨a4, m4, h4, hr⟩ := bind_some hr
    obtain ⟨a5, m5, h5, hr⟩ := bind_some hr
    cases hr
    obtain ⟨e1, o1⟩ := (num_reads 8).bwd _ _ _ h1
    obtain ⟨e2, o2⟩ := (num_reads 8).bwd _ _ _ h2
    obtain ⟨e3, o3⟩ := (num_reads 8).bwd _ _ _ h3
    obtain ⟨e4, o4⟩ := (num_reads 8).bwd _ _ _ h4
    obtain ⟨e5, o5⟩ := (num_reads 8).bwd _ _ _ h5
    exact ⟨by rw [e1, e2, e3, e4, e5]; simp only [enC, List.append_assoc], o1, o2, o3, o4, o5⟩
theorem ins_reads : Reads rIns enI (fun x => (0 ≤ x.1 ∧ x.1 ≤ 255) ∧ C64 x.2) := by
  refine ⟨fun x r h => ?_, fun l x r hr => ?_⟩
  · have h1 := (num_reads 1).fwd x.1.toNat (beN 8 x.2 ++ r) (by show x.1.toNat < 256; omega)
    have h2 : ((x.1.toNat : Nat) : Int) = x.1 := by omega
    simp only [h2] at h1
    unfold rIns enI
    rw [List.append_assoc, bind_fwd h1, bind_fwd (eight_reads.fwd _ _ h.2), h2]
    rfl
  · unfold rIns at hr
    obtain ⟨a1, m1, h1, hr⟩ := bind_some hr
    obtain ⟨a2, m2, h2, hr⟩ := bind_some hr
    cases hr
    obtain ⟨e1, o1⟩ := (num_reads 1).bwd _ _ _ h1
    obtain ⟨e2, o2⟩ := eight_reads.bwd _ _ _ h2
    have o1' : a1 < 256 := o1
    exact ⟨by rw [e1, e2]; simp only [enI, List.append_assoc], ⟨by show 0 ≤ (a1 : Int); omega, by show (a1 : Int) ≤ 255; omega⟩, o2⟩
theorem rules_reads : Reads rRules (fun x => beN 8 x.mn ++ beN 8 x.mx ++ beN 8 x.st ++ beN 8 x.up ++ beN 8 x.dn) RuOk := by
  refine ⟨fun x r h => ?_, fun l x r hr => ?_⟩
  · unfold rRules
    simp only [List.append_assoc]
    rw [bind_fwd (eight_reads.fwd _ _ h.mn), bind_fwd (eight_reads.fwd _ _ h.mx), bind_fwd (eight_reads.fwd _ _ h.st), bind_fwd (eight_reads.fwd _ _ h.up), bind_fwd (eight_reads.fwd _ _ h.dn)]
    rfl
  · unfold rRules at hr
    obtain ⟨a1, m1, h1, hr⟩ := bind_some hr
    obtain ⟨a2, m2, h2, hr⟩ := bind_some hr
    obtain ⟨a3, m3, h3, hr⟩ := bind_some hr
    obtain ⟨a4, m4, h4, hr⟩ := bind_some hr
    obtain ⟨a5, m5, h5, hr⟩ := bind_some hr
    cases hr
    obtain ⟨e1, o1⟩ := eight_reads.bwd _ _ _ h1
    obtain ⟨e2, o2⟩ := eight_reads.bwd _ _ _ h2
    obtain ⟨e3, o3⟩ := eight_reads.bwd _ _ _ h3
    obtain ⟨e4, o4⟩ := eight_reads.bwd _ _ _ h4
    obtain ⟨e5, o5⟩ := eight_reads.bwd _ _ _ h5
    exact ⟨by rw [e1, e2, e3, e4, e5]; simp only [List.append_assoc], o1, o2, o3, o4, o5⟩
theorem mark_fwd (r : List UInt8) : rMark ([0x63, 0x70, 0x73, 0x31] ++ r) = some ((), r) := by
  unfold rMark
  rw [bind_fwd (cut_app (k := 4) rfl), if_pos rfl]
  rfl
theorem mark_bwd {l r : List UInt8} {u : Unit} (h : rMark l = some (u, r)) : l = [0x63, 0x70, 0x73, 0x31] ++ r := by
  unfold rMark at h
  obtain ⟨m, r', h1, h⟩ := bind_some h
  obtain ⟨e1, -⟩ := cut_bwd h1
  split at h
  · rename_i hm
    cases h
    rw [e1, hm]
  · cases h
set_option maxRecDepth 20000 in
theorem prog_enc {g : PgP} (ht : ToldP g) (ho : PgOk g) (x : List UInt8) : rProg (encF g ++ x) = rEnd g x := by
  unfold rProg encF enH
  simp only [List.append_assoc]
  have hw : ∀ x, x ∈ g.wins → ((0 ≤ x.m ∧ x.m ≤ 2147483647) ∧ 0 ≤ x.a ∧ x.a ≤ 2147483647) ∧ C64 x.s ∧ C64 x.p := fun x hx => ⟨ht.win x hx, (ho.wins x hx).s, (ho.wins x hx).p⟩
  have hi : ∀ x, x ∈ g.C → (0 ≤ x.1 ∧ x.1 ≤ 255) ∧ C64 x.2 := fun x hx => ⟨ht.op x hx, (ho.C x hx).2⟩
  have hr := fun r => rules_reads.fwd g.ru r ho.ru
  have hm := mark_fwd
  simp only [List.append_assoc] at hr hm
  rw [bind_fwd (hm _), bind_fwd (four_reads.fwd _ _ ht.met), bind_fwd (four_reads.fwd _ _ ht.loc), bind_fwd (four_reads.fwd _ _ ht.h), bind_fwd (hr _),
    bind_fwd ((list_reads eight_reads 16384 (by decide)).fwd _ _ ⟨ht.k, ho.K⟩), bind_fwd ((list_reads win_reads 256 (by decide)).fwd _ _ ⟨ht.wi, hw⟩),
    bind_fwd ((list_reads cron_reads 256 (by decide)).fwd _ _ ⟨ht.cr, ho.crons⟩), bind_fwd ((list_reads ins_reads 16384 (by decide)).fwd _ _ ⟨ht.c, hi⟩)]
/-- What is encoded is decoded to what it was. -/
theorem dec_enc {g : PgP} (ht : ToldP g) (ho : PgOk g) : decF (encF g) = some g := by
  have := prog_enc ht ho []
  rw [List.append_nil] at this
  unfold decF
  rw [this]
  rfl
theorem dec_more {g : PgP} (ht : ToldP g) (ho : PgOk g) {x : List UInt8} (hx : x ≠ []) : decF (encF g ++ x) = none := by
  unfold decF
  rw [prog_enc ht ho x, rEnd, if_neg hx]
  rfl
/-- What is decoded is encoded to the same bytes. -/
theorem enc_dec {b : List UInt8} {g : PgP} (h : decF b = some g) : b = encF g ∧ ToldP g ∧ PgOk g := by
  unfold decF at h
  cases hp : rProg b with
  | none => rw [hp] at h; cases h
  | some p =>
    rw [hp] at h
    simp only [Option.map_some, Option.some.injEq] at h
    obtain ⟨q, r⟩ := p
    simp only at h
    subst h
    unfold rProg at hp
    obtain ⟨u, m0, h0, hp⟩ := bind_some hp
    obtain ⟨a1, m1, h1, hp⟩ := bind_some hp
    obtain ⟨a2, m2, h2, hp⟩ := bind_some hp
    obtain ⟨a3, m3, h3, hp⟩ := bind_some hp
    obtain ⟨a4, m4, h4, hp⟩ := bind_some hp
    obtain ⟨a5, m5, h5, hp⟩ := bind_some hp
    obtain ⟨a6, m6, h6, hp⟩ := bind_some hp
    obtain ⟨a7, m7, h7, hp⟩ := bind_some hp
    obtain ⟨a8, m8, h8, hp⟩ := bind_some hp
    unfold rEnd at hp
    split at hp
    · rename_i hm
      cases hp
      subst hm
      have e0 := mark_bwd h0
      obtain ⟨e1, o1⟩ := four_reads.bwd _ _ _ h1
      obtain ⟨e2, o2⟩ := four_reads.bwd _ _ _ h2
      obtain ⟨e3, o3⟩ := four_reads.bwd _ _ _ h3
      obtain ⟨e4, o4⟩ := rules_reads.bwd _ _ _ h4
      obtain ⟨e5, o5⟩ := (list_reads eight_reads 16384 (by decide)).bwd _ _ _ h5
      obtain ⟨e6, o6⟩ := (list_reads win_reads 256 (by decide)).bwd _ _ _ h6
      obtain ⟨e7, o7⟩ := (list_reads cron_reads 256 (by decide)).bwd _ _ _ h7
      obtain ⟨e8, o8⟩ := (list_reads ins_reads 16384 (by decide)).bwd _ _ _ h8
      have c64 : ∀ x : Int, 0 ≤ x ∧ x ≤ 2147483647 → C64 x := fun x hx => ⟨by omega, by omega⟩
      refine ⟨?_, ⟨o5.1, o6.1, o7.1, o8.1, fun x hx => (o6.2 x hx).1, fun x hx => (o8.2 x hx).1, o1, o2, o3⟩, ⟨c64 _ o1, o4, o5.2, fun x hx => ⟨c64 _ (o6.2 x hx).1.1, c64 _ (o6.2 x hx).1.2, (o6.2 x hx).2.1, (o6.2 x hx).2.2⟩, o7.2, c64 _ o2, c64 _ o3, fun x hx => ⟨⟨by have := (o8.2 x hx).1; omega, by have := (o8.2 x hx).1; omega⟩, (o8.2 x hx).2⟩⟩⟩
      rw [e0, e1, e2, e3, e4, e5, e6, e7, e8]
      simp only [encF, enH, List.append_assoc, List.append_nil]
    · cases hp
theorem enc_inj {g q : PgP} (hg : ToldP g) (og : PgOk g) (hq : ToldP q) (oq : PgOk q) (h : encF g = encF q) : g = q := by
  have h1 := dec_enc hg og
  rw [h, dec_enc hq oq] at h1
  exact (Option.some.inj h1).symm
/-- A program's bytes with some missing are none's. -/
theorem dec_cut {g : PgP} (ht : ToldP g) (ho : PgOk g) {c x : List UInt8} (h : encF g = c ++ x) (hx : x ≠ []) : decF c = none := by
  cases hd : decF c with
  | none => rfl
  | some q =>
    exfalso
    obtain ⟨e2, t2, o2⟩ := enc_dec hd
    have h1 := dec_enc ht ho
    rw [h, e2, dec_more t2 o2 hx] at h1
    cases h1
end Go.Proofs.YthfnjlfhaibbeaaDoor
