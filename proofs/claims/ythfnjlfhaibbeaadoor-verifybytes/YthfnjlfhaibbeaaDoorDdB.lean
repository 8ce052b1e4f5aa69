/- Package codec: what is left to read, plain; the document's numbers of eight bytes. -/
import Derived.Test.YthfnjlfhaibbeaaDoorDdA
import Derived.Test.YthfnjlfhaibbeaaDoorDcO
namespace Go.Proofs.YthfnjlfhaibbeaaDoor
open Go.RowKit

def cI (a b c : Int) (ru : RuP) (ks : List Int) (ws : List WiP) (cs : List Cr) (is : List Ins) : Rdr PgP := rEnd ⟨a, ru, ks, ws, cs, b, c, is⟩
def cC (a b c : Int) (ru : RuP) (ks : List Int) (ws : List WiP) (cs : List Cr) : Rdr PgP := rBind (rList 16384 rIns) (cI a b c ru ks ws cs)
def cW (a b c : Int) (ru : RuP) (ks : List Int) (ws : List WiP) : Rdr PgP := rBind (rList 256 rCron) (cC a b c ru ks ws)
def cK (a b c : Int) (ru : RuP) (ks : List Int) : Rdr PgP := rBind (rList 256 rWin) (cW a b c ru ks)
def cR (a b c : Int) (ru : RuP) : Rdr PgP := rBind (rList 16384 rEight) (cK a b c ru)
def cH : Rdr PgP := rBind rFour fun a => rBind rFour fun b => rBind rFour fun c => rBind rRules (cR a b c)
theorem rProg_split : rProg = rBind rMark fun _ => cH := rfl
theorem rb_assoc {α β γ : Type} (f : Rdr α) (g : α → Rdr β) (h : β → Rdr γ) : rBind (rBind f g) h = rBind f (fun a => rBind (g a) h) := by
  funext l
  unfold rBind
  cases f l <;> rfl
theorem rb_ret {α β : Type} (a : α) (g : α → Rdr β) : rBind (rRet a) g = g a := by
  funext l
  rfl
/-- The number that eight bytes tell, with its sign. -/
def i64N (n : Nat) : Int := if (n : Int) < 9223372036854775808 then (n : Int) else (n : Int) - 18446744073709551616
theorem eight_num : rEight = rBind (rNum 8) (fun n => rRet (i64N n)) := by
  funext l
  unfold rEight rBind rNum
  cases rCut 8 l <;> rfl
theorem i64N_wrap {n : Nat} (h : n < 18446744073709551616) : IntKind.i64.wrap (n : Int) = i64N n := by
  rw [IntKind.wrap_i64]
  unfold i64N
  by_cases h1 : (n : Int) < 9223372036854775808
  · rw [if_pos h1]; omega
  · rw [if_neg h1]; omega
theorem i64N_zero : i64N 0 = 0 := by
  unfold i64N
  rw [if_pos (by omega)]
  omega
theorem oN_map {α β : Type} (f : Rdr α) (F : α → β) (d : α) (d' : β) (hd : F d = d') (s : Option (List UInt8)) : oN (rBind f (fun a => rRet (F a))) d' s = (F (oN f d s).1, (oN f d s).2) := by
  cases h : s.bind f with
  | none =>
    have h2 : s.bind (rBind f (fun a => rRet (F a))) = none := by rw [oN_bind f d, oN_none h]; rfl
    rw [oN_none h, oN_none h2, hd]
  | some p =>
    obtain ⟨a, r⟩ := p
    have h2 : s.bind (rBind f (fun a => rRet (F a))) = some (F a, r) := by rw [oN_bind f d, oN_some h]; rfl
    rw [oN_some h, oN_some h2]
theorem oN_eight (s : Option (List UInt8)) : oN rEight 0 s = (i64N (oN (rNum 8) 0 s).1, (oN (rNum 8) 0 s).2) := by
  rw [eight_num]
  exact oN_map _ _ _ _ i64N_zero s
theorem oN_lt (k : Nat) (s : Option (List UInt8)) : (oN (rNum k) 0 s).1 < 256 ^ k := by
  cases h : s.bind (rNum k) with
  | none => rw [oN_none h]; exact Nat.pow_pos (by decide)
  | some p =>
    obtain ⟨n, r⟩ := p
    rw [oN_some h]
    cases s with
    | none => cases h
    | some l => exact ((num_reads k).bwd l n r h).2
/-- A list's reader, so many elements read. -/
theorem start_list {α : Type} (most : Nat) (hm : most ≤ 2147483647) (f : Rdr α) (g : List α → Rdr PgP) (s : Option (List UInt8)) : s.bind (rBind (rList most f) g) = (oN (rFourM most) 0 s).2.bind (rBind (rMany f (oN (rFourM most) 0 s).1.toNat) (fun r => g ([] ++ r))) := by
  rw [rList_most most hm, rb_assoc, oN_bind (rFourM most) 0]
  rfl
theorem step_many {α : Type} (f : Rdr α) (q : Nat) (xs : List α) (g : List α → Rdr PgP) : rBind (rMany f (q + 1)) (fun r => g (xs ++ r)) = rBind f (fun a => rBind (rMany f q) (fun r => g ((xs ++ [a]) ++ r))) := by
  show rBind (rBind f fun a => rBind (rMany f q) fun r => rRet (a :: r)) _ = _
  rw [rb_assoc]
  congr 1
  funext a
  rw [rb_assoc]
  congr 1
  funext r
  rw [rb_ret]
  simp
theorem end_many {α : Type} (f : Rdr α) (xs : List α) (g : List α → Rdr PgP) : rBind (rMany f 0) (fun r => g (xs ++ r)) = g xs := by
  show rBind (rRet []) _ = _
  rw [rb_ret, List.append_nil]
theorem four_range (most : Nat) (s : Option (List UInt8)) : ∃ N : Nat, (oN (rFourM most) 0 s).1 = (N : Int) ∧ N ≤ most := by
  cases h : s.bind (rFourM most) with
  | none => rw [oN_none h]; exact ⟨0, rfl, Nat.zero_le _⟩
  | some p =>
    obtain ⟨n, r⟩ := p
    rw [oN_some h]
    cases s with
    | none => cases h
    | some l =>
      simp only [Option.bind_some] at h
      unfold rFourM at h
      cases hq : rNum 4 l with
      | none => rw [hq] at h; cases h
      | some p =>
        rw [hq] at h
        simp only [Option.bind_some] at h
        split at h
        · cases h; exact ⟨p.1, rfl, by assumption⟩
        · cases h
theorem p8n : (256 : Nat) ^ 8 = 18446744073709551616 := by decide
theorem rtake8_c (rb : Nat) (L : List UInt8) (v : Value) (s : Option (List UInt8)) (w : World) (h : Rr w rb L v s) :
    Calls Tryd.prog 22 #[.pointer (some ⟨rb, 0, none⟩), .int .i64 8] w (fun e w' => ∃ n : Nat, e = .returned (.int .u64 (n : Nat)) ∧ IntKind.i64.wrap (n : Int) = (oN rEight 0 s).1 ∧ Turn [rb] w w' ∧ Rr w' rb L v (oN rEight 0 s).2) := by
  refine (rtake_c rb 8 (by decide) (by decide) L v s w h).mono ?_
  rintro e w' ⟨rfl, h2, h3⟩
  rw [oN_eight]
  have hl := oN_lt 8 s
  generalize oN (rNum 8) 0 s = q at *
  rw [p8n] at hl
  obtain ⟨n, r⟩ := q
  dsimp only at hl h2 h3 ⊢
  have hw : IntKind.i64.wrap (n : Int) = i64N n := i64N_wrap hl
  exact ⟨n, rfl, hw, h2, h3⟩
theorem rfour_all (rb : Nat) (L : List UInt8) (v : Value) (s : Option (List UInt8)) (w : World) (h : Rr w rb L v s) :
    Calls Tryd.prog 23 #[.pointer (some ⟨rb, 0, none⟩), .int .i64 2147483647] w (RtQ rFour 0 (fun n => .int .i64 n) rb L v s w) := rfour_c rb 2147483647 (by decide) L v s w h
/-- The mark. -/
theorem mark_be : beN 4 ((1668313905 : Nat) : Int) = [0x63, 0x70, 0x73, 0x31] := by decide
theorem mark_w : beW [0x63, 0x70, 0x73, 0x31] = 1668313905 := by decide
theorem mark_num {l : List UInt8} : rMark l = (rNum 4 l).bind (fun p => if p.1 = 1668313905 then some ((), p.2) else none) := by
  unfold rMark rBind rNum
  cases h : rCut 4 l with
  | none => rfl
  | some p =>
    simp only [Option.bind_some, Option.map_some]
    have hl := (cut_bwd h).2
    by_cases e : p.1 = [0x63, 0x70, 0x73, 0x31]
    · rw [if_pos e, if_pos (by rw [e]; exact mark_w)]
      rfl
    · rw [if_neg e, if_neg (fun hb => e (by
        have := be_of hl
        rw [hb] at this
        rw [← this]
        exact mark_be))]
/-- Where a list's elements lie, and their reader's bounds. -/
theorem bind_none_eq (g : Rdr PgP) : (none : Option (List UInt8)).bind g = none := rfl
/-- Five numbers of rules. -/
theorem rules_many : rRules = rBind (rMany rEight 5) (fun r => rRet ⟨r.getD 0 0, r.getD 1 0, r.getD 2 0, r.getD 3 0, r.getD 4 0⟩) := by
  unfold rRules
  simp only [rMany, rb_assoc, rb_ret, List.getD_cons_zero, List.getD_cons_succ]
theorem cron_many : rCron = rBind (rMany (rNum 8) 5) (fun r => rRet ⟨r.getD 0 0, r.getD 1 0, r.getD 2 0, r.getD 3 0, r.getD 4 0⟩) := by
  unfold rCron
  simp only [rMany, rb_assoc, rb_ret, List.getD_cons_zero, List.getD_cons_succ]
end Go.Proofs.YthfnjlfhaibbeaaDoor
