/- The document's reader in memory: expressions, whole. -/
import Derived.Test.YtecdfnpbcabdnaaGreatDoorPrK
namespace Go.Proofs.YtecdfnpbcabdnaaGreatDoor
open Go.RowKit Go.Lib

theorem qInside_c {z rb tb : Nat} {LL : List Tk} {c : Int} {o : Nat} (hz : z ≤ 9223372036854775807) {X : Option Rdf} (HX : InQ z rb tb LL c o X) : InsC z rb tb LL c o X := by
  intro q hq a ha S w hr
  unfold callT at hq
  simp only [List.mem_cons, List.not_mem_nil, or_false] at hq
  rcases hq with rfl | rfl | rfl | rfl | rfl | rfl | rfl | rfl | rfl | rfl | rfl | rfl | rfl | rfl
  · exact qInCall_c hz HX _ 2 rfl (by decide) (by decide) (by decide) a ha S w hr
  · exact qInCall_c hz HX _ 1 rfl (by decide) (by decide) (by decide) a ha S w hr
  · exact qInCall_c hz HX _ 1 rfl (by decide) (by decide) (by decide) a ha S w hr
  · exact qInCall_c hz HX _ 1 rfl (by decide) (by decide) (by decide) a ha S w hr
  · exact qInCall_c hz HX _ 0 rfl (by decide) (by decide) (by decide) a ha S w hr
  · exact qInCall_c hz HX _ 0 rfl (by decide) (by decide) (by decide) a ha S w hr
  · exact qInCall_c hz HX _ 0 rfl (by decide) (by decide) (by decide) a ha S w hr
  · exact qInWin_c hz HX _ rfl (by decide) (by decide) a ha S w hr
  · exact qInWin_c hz HX _ rfl (by decide) (by decide) a ha S w hr
  · exact qInWin_c hz HX _ rfl (by decide) (by decide) a ha S w hr
  · exact qInWin_c hz HX _ rfl (by decide) (by decide) a ha S w hr
  · exact qInWin_c hz HX _ rfl (by decide) (by decide) a ha S w hr
  · exact qInRank_c hz HX _ rfl rfl a ha S w hr
  · exact qInCron_c hz HX _ rfl rfl a ha S w hr
theorem qRv0_c {z rb tb : Nat} {LL : List Tk} {c : Int} {o : Nat} (hz : z ≤ 9223372036854775807) {X : Option Rdf} (HX : InQ z rb tb LL c o X) (hL : LenO X) : RdC z rb tb LL c o 22 (rv0 c X) :=
  have l5 : LenE (rv5 c X) := len_fac (len_atom hL)
  have l4 : LenE (rv4 c X) := len_left l5
  have l3 : LenE (rv3 c X) := len_left l4
  have l2 : LenE (rv2 c X) := len_rel l3
  have l1 : LenE (rv1 c X) := len_left l2
  qExpr_c hz (qConj_c hz (qRel_c hz (qSum_c hz (qProd_c hz (qFac_c hz (qAtom_c hz HX (qInside_c hz HX))) l5) l4)) l2) l1
/-- The document's expression, where d brackets more may be open. -/
theorem qExprD_c {z rb tb : Nat} {LL : List Tk} {c : Int} (hz : z ≤ 9223372036854775807) : ∀ d o : Nat, o + d = 64 → RdC z rb tb LL c o 22 (exprR c d)
  | 0, o, h => qRv0_c hz (.inl ⟨by omega, rfl⟩) (fun E h => by cases h)
  | d + 1, o, h => qRv0_c hz (.inr ⟨by omega, _, rfl, qExprD_c hz d (o + 1) (by omega)⟩) (fun E h => by cases h; exact len_expr c d)
end Go.Proofs.YtecdfnpbcabdnaaGreatDoor
