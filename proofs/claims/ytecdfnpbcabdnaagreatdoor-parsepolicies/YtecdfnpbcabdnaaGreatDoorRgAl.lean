/- In a region that draws its order: allocations that nobody waits for among themselves may come in any order: the blocks are new ones, each its own. -/
import Derived.Test.YtecdfnpbcabdnaaGreatDoorBoxes
import Derived.OrdersHeld
namespace Go.Proofs.YtecdfnpbcabdnaaGreatDoor
open Go.RowKit

/-- The pointers that the allocations rem (the operation's number, the slot) leave, by the blocks f. -/
def putsP (f : Nat → Nat) (rem : List (Nat × Nat)) (a : Act) : Act := rem.foldl (fun a x => a.put (some x.2) (.pointer (some ⟨f x.1, 0, none⟩))) a
/-- All of these have come up. -/
def listsP (rem : List (Nat × Nat)) (listed : Array Bool) : Array Bool := rem.foldl (fun l x => l.setIfInBounds x.1 true) listed
/-- So many new blocks. -/
def allocN (o : Obj) : Nat → World → World
  | 0, w => w
  | n + 1, w => allocN o n (w.alloc o)
theorem allocN_size (o : Obj) (n : Nat) (w : World) : (allocN o n w).heap.size = w.heap.size + n := by
  induction n generalizing w with
  | zero => rfl
  | succ n ih => simp only [allocN, ih]; simp; omega
theorem snd_inj {l : List (Nat × Nat)} (h : (l.map Prod.snd).Nodup) : ∀ x y, x ∈ l → y ∈ l → x.2 = y.2 → x = y := by
  induction l with
  | nil => intro x y hx; simp at hx
  | cons z l ih =>
    rw [List.map_cons, List.nodup_cons] at h
    intro x y hx hy e
    rcases List.mem_cons.1 hx with rfl | hx2
    · rcases List.mem_cons.1 hy with rfl | hy
      · rfl
      · exact absurd (e ▸ List.mem_map_of_mem hy) h.1
    · rcases List.mem_cons.1 hy with rfl | hy
      · exact absurd (e ▸ List.mem_map_of_mem hx2) h.1
      · exact ih h.2 x y hx2 hy e
theorem foldl_same {α β : Type} {f g : α → β → α} : ∀ (l : List β) (a : α), (∀ b y, y ∈ l → f b y = g b y) → l.foldl f a = l.foldl g a
  | [], _, _ => rfl
  | y :: l, a, h => by
    simp only [List.foldl_cons]
    rw [h a y (by simp)]
    exact foldl_same l _ (fun b z hz => h b z (by simp [hz]))
theorem puts_perm {f : Nat → Nat} {r r' : List (Nat × Nat)} (h : r.Perm r') (hd : (r.map Prod.snd).Nodup) (a : Act) : putsP f r a = putsP f r' a := by
  refine h.foldl_eq' (fun x hx y hy z => ?_) a
  by_cases e : x = y
  · rw [e]
  · refine Act.put_comm z _ _ ?_
    intro d hd1 hd2
    simp only [Option.some.injEq] at hd1 hd2
    exact e (snd_inj hd x y hx hy (by rw [hd1, hd2]))
theorem lists_perm {r r' : List (Nat × Nat)} (h : r.Perm r') (l : Array Bool) : listsP r l = listsP r' l := by
  refine h.foldl_eq' (fun x _ y _ z => ?_) l
  by_cases e : x.1 = y.1
  · rw [e]
  · exact Array.setIfInBounds_comm _ _ e
theorem wpAnyH_allocs {P : Program} {ops : Array Oper} {Q : Exit → Act → World → Prop} {md : Region.Mode} {S : World → Prop} {T : TypeId} {ob : Obj}
    (hrun : ∀ (a : Act) (w : World) (o : Oper), o.op = Op.alloc T → (execOp a.eval o).run P w = .ok (.value (.pointer (some ⟨w.heap.size, 0, none⟩))) (w.alloc ob))
    (hS : ∀ w, S w → S (w.alloc ob)) (fuel : Nat) : ∀ (n : Nat) (rem : List (Nat × Nat)) (listed : Array Bool) (a : Act) (w : World), rem.length = n →
    (∀ x, x ∈ rem → listed.getD x.1 true = false ∧ ∃ o, ops[x.1]? = some o ∧ o.op = Op.alloc T ∧ o.dst = some x.2 ∧ o.guard = none ∧ o.after = #[]) →
    (∀ j o, ops[j]? = some o → listed.getD j true = false → (∀ x, x ∈ rem → x.1 ≠ j) → ∀ x, x ∈ rem → ∃ e, e ∈ o.after ∧ Region.binds md e = true ∧ e.on = x.1) →
    (rem.map Prod.fst).Nodup → (rem.map Prod.snd).Nodup → S w →
    (∀ f : Nat → Nat, (∀ x, x ∈ rem → w.heap.size ≤ f x.1 ∧ f x.1 < w.heap.size + n) → (∀ x y, x ∈ rem → y ∈ rem → x.1 ≠ y.1 → f x.1 ≠ f y.1) → S (allocN ob n w) → wpAnyH P md ops Q S fuel (listsP rem listed) (putsP f rem a) (allocN ob n w)) →
    wpAnyH P md ops Q S (fuel + n) listed a w := by
  intro n
  induction n with
  | zero =>
    intro rem listed a w hl _ _ _ _ hw H
    obtain rfl := List.eq_nil_of_length_eq_zero hl
    exact H (fun _ => 0) (by simp) (by simp) hw
  | succ n ih =>
    intro rem listed a w hl h1 h2 hk hd hw H
    obtain ⟨x0, hx0⟩ : ∃ x, x ∈ rem := by
      cases rem with
      | nil => simp at hl
      | cons x r => exact ⟨x, by simp⟩
    refine ⟨fun hr => ?_, fun i hi => ?_⟩
    · obtain ⟨u, o, ho, _, _, _, ha⟩ := h1 x0 hx0
      have : x0.1 ∈ Region.ready md ops listed := mem_ready.2 ⟨u, o, ho, by rw [ha]; simp⟩
      rw [hr] at this
      cases this
    · obtain ⟨hun, oi, hoi, hall⟩ := mem_ready.1 hi
      obtain ⟨x, hx, rfl⟩ : ∃ x, x ∈ rem ∧ x.1 = i := by
        apply Classical.byContradiction
        intro hno
        obtain ⟨e, he, hb, hon⟩ := h2 i oi hoi hun (fun x hx e => hno ⟨x, hx, e⟩) x0 hx0
        have h3 := hall e he hb
        have h4 := (h1 x0 hx0).1
        rw [hon] at h3
        rcases Nat.lt_or_ge x0.1 listed.size with h' | h'
        · simp [h'] at h3 h4; rw [h4] at h3; cases h3
        · simp [Array.getElem?_eq_none h'] at h3
      obtain ⟨_, o, ho, hop, hdst, hg, _⟩ := h1 x hx
      have hperm : rem.Perm (x :: rem.erase x) := List.perm_cons_erase hx
      have hl' : (rem.erase x).length = n := by rw [List.length_erase_of_mem hx, hl]; rfl
      have hk' : ((x :: rem.erase x).map Prod.fst).Nodup := (hperm.map Prod.fst).nodup_iff.1 hk
      have hd' : ((x :: rem.erase x).map Prod.snd).Nodup := (hperm.map Prod.snd).nodup_iff.1 hd
      have hne : ∀ y, y ∈ rem.erase x → y.1 ≠ x.1 := fun y hy e => by
        rw [List.map_cons, List.nodup_cons] at hk'
        exact hk'.1 (e ▸ List.mem_map_of_mem hy)
      unfold wpOp
      simp only [ho]
      have hwd : Region.wanted o (yielded ops a.tmps) = true := by simp [Region.wanted, hg]
      rw [if_pos hwd]
      refine .inl ?_
      unfold Oper.wp
      rw [hrun a w o hop]
      simp only [Oper.upon]
      refine ⟨hS w hw, ?_⟩
      rw [hdst]
      refine ih (rem.erase x) _ _ _ hl' (fun y hy => ?_) (fun j oj hj hju hno y hy => ?_) (by rw [List.map_cons, List.nodup_cons] at hk'; exact hk'.2) (by rw [List.map_cons, List.nodup_cons] at hd'; exact hd'.2) (hS w hw) (fun f' r1 r2 r3 => ?_)
      · obtain ⟨u, o2, q⟩ := h1 y (List.mem_of_mem_erase hy)
        exact ⟨by rw [getD_set_ne true (Ne.symm (hne y hy))]; exact u, o2, q⟩
      · have hji : j ≠ x.1 := by
          rintro rfl
          rcases Nat.lt_or_ge x.1 listed.size with h' | h'
          · simp [h'] at hju
          · have := hun; simp [Array.getElem?_eq_none h'] at this
        rw [getD_set_ne true (Ne.symm hji)] at hju
        refine h2 j oj hj hju (fun z hz => ?_) y (List.mem_of_mem_erase hy)
        by_cases e : z = x
        · rw [e]; exact Ne.symm hji
        · exact hno z ((List.mem_erase_of_ne e).2 hz)
      · have hf : ∀ y, y ∈ rem.erase x → (if y.1 = x.1 then w.heap.size else f' y.1) = f' y.1 := fun y hy => if_neg (hne y hy)
        have hmem : ∀ y, y ∈ rem → y = x ∨ y ∈ rem.erase x := fun y hy => List.mem_cons.1 (hperm.mem_iff.1 hy)
        have hsz : (w.alloc ob).heap.size = w.heap.size + 1 := by simp
        have hH := H (fun k => if k = x.1 then w.heap.size else f' k) (fun y hy => ?_) (fun y z hy hz hyz => ?_) r3
        · rw [puts_perm hperm hd, lists_perm hperm] at hH
          have e1 : putsP (fun k => if k = x.1 then w.heap.size else f' k) (x :: rem.erase x) a = putsP f' (rem.erase x) (a.put (some x.2) (.pointer (some ⟨w.heap.size, 0, none⟩))) := by
            simp only [putsP, List.foldl_cons, if_true]
            exact foldl_same _ _ (fun b y hy => by rw [hf y hy])
          rw [e1] at hH
          exact hH
        · rcases hmem y hy with rfl | hy
          · simp
          · show w.heap.size ≤ (if y.1 = x.1 then w.heap.size else f' y.1) ∧ _
            have := r1 y hy
            rw [hf y hy]
            omega
        · show (if y.1 = x.1 then w.heap.size else f' y.1) ≠ (if z.1 = x.1 then w.heap.size else f' z.1)
          rcases hmem y hy with rfl | hy
          · rcases hmem z hz with rfl | hz
            · exact absurd rfl hyz
            · rw [if_pos rfl, hf z hz]
              have := r1 z hz
              omega
          · rcases hmem z hz with rfl | hz
            · rw [if_pos rfl, hf y hy]
              have := r1 y hy
              omega
            · rw [hf y hy, hf z hz]
              exact r2 y z hy hz hyz
/-- The conditions of the law above, told. -/
def isAlloc (T : TypeId) (o : Op) : Bool := match o with
  | .alloc t => t == T
  | _ => false
def allocsOk (md : Region.Mode) (T : TypeId) (ops : Array Oper) (listed : Array Bool) (rem : List (Nat × Nat)) : Bool :=
  rem.all (fun x => !listed.getD x.1 true && ((ops[x.1]?).map (fun o => isAlloc T o.op && (o.dst == some x.2) && o.guard.isNone && (o.after.size == 0))).getD false) &&
  (List.range ops.size).all (fun j => listed.getD j true || rem.any (fun x => x.1 == j) || ((ops[j]?).map (fun o => rem.all (fun x => o.after.any (fun e => Region.binds md e && e.on == x.1)))).getD true)
theorem wpAnyH_allocs_ok {P : Program} {ops : Array Oper} {Q : Exit → Act → World → Prop} {md : Region.Mode} {S : World → Prop} {T : TypeId} {ob : Obj}
    (hrun : ∀ (a : Act) (w : World) (o : Oper), o.op = Op.alloc T → (execOp a.eval o).run P w = .ok (.value (.pointer (some ⟨w.heap.size, 0, none⟩))) (w.alloc ob))
    (hS : ∀ w, S w → S (w.alloc ob)) (fuel n : Nat) (rem : List (Nat × Nat)) (listed : Array Bool) (a : Act) (w : World) (hl : rem.length = n) (hok : allocsOk md T ops listed rem = true)
    (hk : (rem.map Prod.fst).Nodup) (hd : (rem.map Prod.snd).Nodup) (hw : S w)
    (H : ∀ f : Nat → Nat, (∀ x, x ∈ rem → w.heap.size ≤ f x.1 ∧ f x.1 < w.heap.size + n) → (∀ x y, x ∈ rem → y ∈ rem → x.1 ≠ y.1 → f x.1 ≠ f y.1) → S (allocN ob n w) → wpAnyH P md ops Q S fuel (listsP rem listed) (putsP f rem a) (allocN ob n w)) :
    wpAnyH P md ops Q S (fuel + n) listed a w := by
  simp only [allocsOk, Bool.and_eq_true, List.all_eq_true] at hok
  obtain ⟨k1, k2⟩ := hok
  refine wpAnyH_allocs hrun hS fuel n rem listed a w hl (fun x hx => ?_) (fun j o hj hju hno x hx => ?_) hk hd hw H
  · have h := k1 x hx
    cases ho : ops[x.1]? with
    | none => rw [ho] at h; simp at h
    | some o =>
      rw [ho] at h
      simp only [Option.map_some, Option.getD_some, Bool.and_eq_true, Bool.not_eq_true'] at h
      obtain ⟨h1, ⟨⟨h2, h3⟩, h4⟩, h5⟩ := h
      refine ⟨h1, o, rfl, ?_, by simpa using h3, by simpa using h4, by simpa using h5⟩
      unfold isAlloc at h2
      split at h2
      · rename_i t e; rw [e]; congr 1; simpa using h2
      · cases h2
  · have hlt : j < ops.size := (Array.getElem?_eq_some_iff.1 hj).1
    have h := k2 j (List.mem_range.2 hlt)
    rw [hju, hj] at h
    have hany : rem.any (fun x => x.1 == j) = false := by
      rw [List.any_eq_false]
      intro y hy
      simpa using hno y hy
    rw [hany] at h
    simp only [Bool.false_or, Option.map_some, Option.getD_some, List.all_eq_true] at h
    have h1 := h x hx
    obtain ⟨i, hi, h2⟩ := Array.any_eq_true.1 h1
    simp only [Bool.and_eq_true, beq_iff_eq] at h2
    exact ⟨o.after[i], Array.getElem_mem hi, h2.1, h2.2⟩
theorem allocN_below (o : Obj) (n : Nat) (w : World) : Below w.heap.size w (allocN o n w) := by
  induction n generalizing w with
  | zero => exact Below.refl _ _
  | succ n ih => exact ((Below.refl _ w).alloc (Nat.le_refl _) o).trans ((ih (w.alloc o)).mono (by simp))
theorem allocN_box (vs : List Value) (t : TypeId) (n : Nat) (w : World) (m : Nat) (h1 : w.heap.size ≤ m) (h2 : m < w.heap.size + n) : Box (allocN (.cells vs.toArray t) n w) m vs := by
  induction n generalizing w with
  | zero => omega
  | succ n ih =>
    by_cases e : m = w.heap.size
    · subst e
      exact (Box.new w vs t).next (allocN_below _ n _)
    · exact ih (w.alloc (.cells vs.toArray t)) (by simp; omega) (by simp; omega)
end Go.Proofs.YtecdfnpbcabdnaaGreatDoor
