/- Names. -/
import Derived.Test.YtdikeicnefgjcaaDoorTnB
namespace Go.Proofs.YtdikeicnefgjcaaDoor
open Go.RowKit Go.Maps

theorem addN_len (acc : List ByteArray) (t : Tm) : (addN acc t).length ≤ acc.length + 1 := by
  unfold addN
  split
  · split <;> simp
  · omega
theorem runV_nam : ∀ (l : List Tm) (acc : List ByteArray), runV namV l acc = (l.foldl addN acc, true)
  | [], acc => rfl
  | t :: r, acc => by rw [runV, if_pos (show (namV acc t).2 = true from rfl), List.foldl_cons]; exact runV_nam r _
theorem row_base {w : World} {B B' n s : Nat} {e : TypeId} {v : Value} {xs : List Value} (h : w.ownsRow B e s v n xs) (hb : B' ≤ B) : w.ownsRow B' e s v n xs := by
  refine ⟨h.1, ?_⟩
  rcases h.2 with hq | ⟨g, cap, cur, rfl, hbg, rest⟩
  · exact .inl hq
  · exact .inr ⟨g, cap, cur, rfl, Nat.le_trans hb hbg, rest⟩
theorem nam_vis {z : Nat} (hz : z ≤ 281474976710656) (W : World) (B gm gl mb : Nat) : VisM z W (NamR W B gm gl mb) namV (fun acc n => acc.length + n ≤ 16384) gm gl where
  next := fun s F w w' ⟨lv, e, h⟩ hb => ⟨lv, e, h.next hb⟩
  lt := fun s F w ⟨lv, e, h⟩ b hb => by
    subst e
    rcases List.mem_cons.1 hb with rfl | hb
    · exact ⟨h.lo.2.1, h.bgl.lt⟩
    rcases List.mem_cons.1 hb with rfl | hb
    · exact ⟨h.lo.2.2.1, h.map.lt⟩
    have := row_ge h.row (k := b) (by simpa using hb)
    exact ⟨Nat.le_trans h.lo.2.2.2 this.1, this.2⟩
  good := fun s t n hg _ => by
    have := addN_len s t
    show (addN s t).length + n ≤ _
    omega
  mono := fun s n m h hm => by show _ + _ ≤ _; have : s.length + n ≤ 16384 := h; omega
  call := fun s F t v w hG hR _ hs => nam_call hz W B gm gl mb s F t v w hG hR hs
/-- The names of a term. -/
def namesT (t : Tm) : List ByteArray := (pord t).foldl addN []
/-- A list of strings in new memory. -/
def NewS (L : List ByteArray) (w : World) (e : Ending) (w' : World) : Prop := ∃ lv, e = .returned lv ∧ w'.ownsRow w.heap.size 9 1 lv L.length (strs L) ∧ Below w.heap.size w w'
theorem names_start (w : World) (o : Obj) : NamS w (w.heap.size + 1 + 1 + 1 + 1) (w.heap.size + 1 + 1 + 1) (w.heap.size + 1) (w.heap.size + 1 + 1) [] (.slice none 0 0) ((((w.alloc o).alloc (.cells #[.slice none 0 0] 36)).alloc (.map #[] 0)).alloc (.cells #[.map (some (w.heap.size + 1 + 1))] 61)) := by
  have b1 := Box.new (w.alloc o) [.slice none 0 0] 36
  have m1 := World.ownsMap_made (H := Unit) ((w.alloc o).alloc (.cells #[.slice none 0 0] 36)) Tryd.prog 9 unitElem
  have b2 := Box.new (((w.alloc o).alloc (.cells #[.slice none 0 0] 36)).alloc (.map #[] 0)) [.map (some (w.heap.size + 1 + 1))] 61
  refine ⟨by simpa using b2, ?_, ?_, World.ownsRow_nil _ _ _ _, ⟨by omega, by omega, by omega, by omega⟩, ⟨by omega, by omega, by omega, by simp⟩, ⟨by omega, by omega, by omega⟩⟩
  · have := (b1.next ((Below.refl _ _).alloc (Nat.le_refl _) (.map #[] 0))).next ((Below.refl _ _).alloc (Nat.le_refl _) (.cells #[.map (some (w.heap.size + 1 + 1))] 61))
    simpa using this
  · have := m1.alloc (.cells #[.map (some (w.heap.size + 1 + 1))] 61)
    simpa [SdN, setOf] using this
set_option maxRecDepth 20000 in
theorem names_c {z : Nat} (hz : z ≤ 281474976710656) (t : Tm) (v : Value) (w : World) (hs : Sits z w t v) (hn : nodes t ≤ 16384) : Calls Tryd.prog 23 #[tmV t v] w (NewS (namesT t) w) := by
  have hmm := @run_makeMap Tryd.prog
  have A : ∀ o o1 o2 o3, Below w.heap.size w ((((w.alloc o).alloc o1).alloc o2).alloc o3) := fun o o1 o2 o3 => ((((Below.refl _ _).alloc (Nat.le_refl _) _).alloc (by simp) _).alloc (by simp; omega) _).alloc (by simp; omega) _
  have HW := hid2 (fun (o : Obj) => walkM (nam_vis hz w (w.heap.size + 1 + 1 + 1 + 1) (w.heap.size + 1 + 1 + 1) (w.heap.size + 1) (w.heap.size + 1 + 1)) t [] [w.heap.size + 1, w.heap.size + 1 + 1] v _ (by simpa using hn) ⟨.slice none 0 0, rfl, names_start w o⟩ (A o _ _ _) hs)
  obtain ⟨ad, cap, rfl, -, -⟩ := hs.parts.shape
  have HA := hid2 A
  clear A hs hn
  go_enter Tryd.func23, Tryd.ntmps23
  go_wp2_with fail
  refine Calls.mono (HW.out _) ?_
  rintro e w1 ⟨rfl, F', ⟨lv, rfl, hN⟩, t1, -⟩
  rw [runV_nam] at hN
  have c0 := hN.bgl.cell 0 _ rfl
  have l0 := hN.bgl.lt
  have B1 : Hid (Below w.heap.size w w1) := (HA.out _ _ _ _).trans (t1.below (fun k hk => by simp at hk; omega) (by simp; omega))
  have R1 : Hid (w1.ownsRow w.heap.size 9 1 lv (namesT t).length (strs (namesT t))) := row_base hN.row (by omega)
  obtain ⟨ba, bc, rfl⟩ := row_val hN.row
  clear hN t1 HW HA
  go_wp2_with fail
  go_ret
  exact ⟨_, rfl, R1.out, B1.out⟩
end Go.Proofs.YtdikeicnefgjcaaDoor
