import Derived.Test.YtigldebdljfnbaaDoorCoR
import Derived.BigQuiet
import Derived.Test.YtigldebdljfnbaaDoorMhN
import Derived.Laws.OwnMore
import Derived.Laws.EntriesVeiled
namespace Go.Proofs.YtigldebdljfnbaaDoor
open Go.RowKit

def belowB (n k : Int) : Bool := decide (0 ≤ n) && decide (n < k)
def fitsB (op : Nat) (wn cn ln : Int) (c : Co) : Bool :=
  if op = 1 then decide (c.m = 0)
  else if op = 2 then belowB c.n 2 && decide (c.m = 0)
  else if op = 4 then belowB c.n wn && decide (c.m = 0)
  else if op = 5 then belowB c.n cn && decide (c.m = 0)
  else if op = 6 then decide (1 ≤ c.n) && (decide (c.n ≤ 3) && (decide (c.m = 1) || decide (c.m = 2)))
  else if op = 7 then belowB c.n ln && decide (c.m = 0)
  else if op = 13 then decide (0 ≤ c.n) && (decide (1 ≤ c.m))
  else decide (c.n = 0) && (decide (c.m = 0))

def mkF (k : Int) (ts ss : List Int) : Int := if ss = ts then k else 0

def alikeF (k : Nat) (ss : List Int) : Int := if ss.length = k ∧ ss.headD 0 ≠ 3 ∧ ∀ x, x ∈ ss → x = ss.headD 0 then ss.headD 0 else 0
theorem alikeF_no {k : Nat} {ss : List Int} (h : ¬ (ss.length = k ∧ ss.headD 0 ≠ 3 ∧ ∀ x, x ∈ ss → x = ss.headD 0)) : alikeF k ss = 0 := if_neg h
theorem alikeF_yes {k : Nat} {ss : List Int} (h : ss.length = k ∧ ss.headD 0 ≠ 3 ∧ ∀ x, x ∈ ss → x = ss.headD 0) : alikeF k ss = ss.headD 0 := if_pos h
def choiceF (ss : List Int) : Int := if ss.headD 0 = 2 then alikeF 2 ss.tail else 0

def sortF (lad : Co → List Int → Int) (op : Nat) (c : Co) (ss : List Int) : Int := match mkT.getD op none with
  | some x => mkF x.1 x.2 ss
  | none => if op = 6 then (if ss = [] then c.m else 0) else if op = 7 then alikeF 1 ss else if op = 27 then alikeF 2 ss else if op = 28 then choiceF ss else lad c ss
def csort (lad : Co → List Int → Int) (wn cn ln : Int) : Co → Int
  | ⟨k, n, m, ps⟩ => if 1 ≤ k ∧ k ≤ 32 then (if fitsB k.toNat wn cn ln ⟨k, n, m, ps⟩ = true then (if (ps.map (csort lad wn cn ln)).contains 0 = true then 0 else sortF lad k.toNat ⟨k, n, m, ps⟩ (ps.map (csort lad wn cn ln))) else 0) else 0
theorem csort_eq (lad : Co → List Int → Int) (wn cn ln : Int) (c : Co) : csort lad wn cn ln c = if 1 ≤ c.op ∧ c.op ≤ 32 then (if fitsB c.op.toNat wn cn ln c = true then (if (c.parts.map (csort lad wn cn ln)).contains 0 = true then 0 else sortF lad c.op.toNat c (c.parts.map (csort lad wn cn ln))) else 0) else 0 := by
  cases c
  rw [csort]
theorem info_int : (Tryd.prog.info? 3).map (fun i => (i.zero, i.size, i.bytes)) = some (some (.int .i64 0), 1, 8) := by kernel_rfl
theorem cown_box {w : World} {B size : Nat} {e : TypeId} {v : Value} {n : Nat} {xs : List Value} (h : w.ownsRow B e size v n xs) : (v = .slice none 0 0 ∧ n = 0) ∨ ∃ g cap, v = .slice (some ⟨g, 0, none⟩) n cap ∧ B ≤ g ∧ Box w g xs := by
  obtain ⟨h1, ⟨h2, h3⟩ | ⟨g, cap, cur, h2, h3, h4, h5, h6, h7, h8⟩⟩ := h
  · exact .inl ⟨h2, h3⟩
  · exact .inr ⟨g, cap, h2, h3, (Box.ofBlock h4).part (by rw [← h8]; exact List.take_prefix _ _)⟩
theorem mk_none : ∀ k : Fin 33, 1 ≤ k.val → mkT.getD k.val none = none → k.val = 6 ∨ k.val = 7 ∨ k.val = 27 ∨ k.val = 28 ∨ k.val = 32 := by decide

abbrev co0 : Co := ⟨0, 0, 0, []⟩
def lstep (c : Co) (ss : List Int) (i : Nat) : Prop := (c.parts.getD i co0).op = 1 ∧ ss.getD (i + 1) 0 = 3 ∧ (1 < i → (c.parts.getD (i - 2) co0).n < (c.parts.getD i co0).n)
def LadOk (c : Co) (ss : List Int) : Prop := 2 ≤ ss.length ∧ ss.length % 2 = 0 ∧ ss.getD 0 0 = 1 ∧ ss.getD (ss.length - 1) 0 = 3 ∧ ∀ i, i % 2 = 1 → i + 1 < ss.length → lstep c ss i
def lstepB (c : Co) (ss : List Int) (i : Nat) : Bool := decide ((c.parts.getD i co0).op = 1) && (decide (ss.getD (i + 1) 0 = 3) && (decide (i ≤ 1) || decide ((c.parts.getD (i - 2) co0).n < (c.parts.getD i co0).n)))
theorem lstepB_iff (c : Co) (ss : List Int) (i : Nat) : lstepB c ss i = true ↔ lstep c ss i := by
  unfold lstepB lstep
  simp only [Bool.and_eq_true, Bool.or_eq_true, decide_eq_true_eq]
  constructor
  · rintro ⟨h1, h2, h3⟩
    exact ⟨h1, h2, fun h => h3.resolve_left (by omega)⟩
  · rintro ⟨h1, h2, h3⟩
    exact ⟨h1, h2, (Nat.lt_or_ge 1 i).elim (fun h => .inr (h3 h)) .inl⟩
def ladB (c : Co) (ss : List Int) : Bool := decide (2 ≤ ss.length) && (decide (ss.length % 2 = 0) && (decide (ss.getD 0 0 = 1) && (decide (ss.getD (ss.length - 1) 0 = 3) && (List.range ss.length).all fun i => decide (i % 2 = 0) || (decide (ss.length ≤ i + 1) || lstepB c ss i))))
theorem ladB_iff (c : Co) (ss : List Int) : ladB c ss = true ↔ LadOk c ss := by
  unfold ladB LadOk
  simp only [Bool.and_eq_true, decide_eq_true_eq, List.all_eq_true, List.mem_range, Bool.or_eq_true, lstepB_iff]
  refine and_congr Iff.rfl (and_congr Iff.rfl (and_congr Iff.rfl (and_congr Iff.rfl ⟨fun h i h1 h2 => ?_, fun h i h1 => ?_⟩)))
  · rcases h i (by omega) with k | k | k
    · omega
    · omega
    · exact k
  · by_cases k : i % 2 = 0
    · exact .inl k
    · by_cases k2 : ss.length ≤ i + 1
      · exact .inr (.inl k2)
      · exact .inr (.inr (h i (by omega) (by omega)))
def ladF (c : Co) (ss : List Int) : Int := if ladB c ss = true then 3 else 0
theorem ladF_yes {c : Co} {ss : List Int} (h : LadOk c ss) : ladF c ss = 3 := if_pos ((ladB_iff c ss).2 h)
theorem ladF_no {c : Co} {ss : List Int} (h : ¬ LadOk c ss) : ladF c ss = 0 := if_neg (fun k => h ((ladB_iff c ss).1 k))

end Go.Proofs.YtigldebdljfnbaaDoor
