/- The visitor of Names. -/
import Derived.Test.YtdikeicnefgjcaaDoorTnA
import Derived.Deep.RegionHeld3
namespace Go.Proofs.YtdikeicnefgjcaaDoor
open Go.RowKit Go.Maps

theorem addN_new {acc : List ByteArray} {t : Tm} (hk : t.kind = 2) (h : hasN acc t.text = false) : addN acc t = acc ++ [t.text] := by
  unfold addN
  rw [if_pos hk, if_neg (by rw [h]; exact Bool.false_ne_true)]
theorem addN_old {acc : List ByteArray} {t : Tm} (h : t.kind = 2 → hasN acc t.text = true) : addN acc t = acc := by
  unfold addN
  by_cases hk : t.kind = 2
  · rw [if_pos hk, if_pos (h hk)]
  · rw [if_neg hk]
theorem turn_grown {w w' : World} {row : Option Nat} (h : w.grownBy w' row) : Turn row.toList w w' :=
  ⟨h.os, h.tape, h.output, h.size, fun k hk hn => h.block k hk (fun e => hn (by rw [← e]; simp))⟩
/-- A call of a Go function, in a region that draws its order. -/
theorem step_call {ops : Array Oper} {o : Oper} {a : Act} {w : World} {K : Act → World → Prop} {Q : Exit → Act → World → Prop} {E : Prop} (hgd : o.guard = none) {f : FuncId} {args : Array Value} {post : Ending → World → Prop}
    (C : Calls Tryd.prog f args w post) (he : (execOp a.eval o).run Tryd.prog w = .ok (.enter f args) w)
    (hK : ∀ e w', post e w' → ∃ v, e = .returned v ∧ K (a.put o.dst v) w') :
    if Region.wanted o (yielded ops a.tmps) = true then Oper.wp Tryd.prog o a w K Q else E := by
  have hwd : Region.wanted o (yielded ops a.tmps) = true := by simp [Region.wanted, hgd]
  rw [if_pos hwd]
  unfold Oper.wp
  rw [he, Oper.upon_enter]
  exact C.mono fun e w' h => by obtain ⟨v, rfl, hk⟩ := hK e w' h; exact hk
theorem Turn.mono {S S' : List Nat} {w w' : World} (h : Turn S w w') (hs : ∀ k, k ∈ S → k ∈ S') : Turn S' w w' := ⟨h.os, h.tape, h.output, h.size, fun k hk hn => h.block k hk (fun hm => hn (hs k hm))⟩
theorem alloc_two (w : World) (o o' : Obj) : Below w.heap.size w ((w.alloc o).alloc o') := ((Below.refl _ _).alloc (Nat.le_refl _) _).alloc (by simp) _
set_option maxRecDepth 20000 in
set_option maxHeartbeats 2000000 in
theorem nam_call {z : Nat} (hz : z ≤ 281474976710656) (W : World) (B gm gl mb : Nat) (acc : List ByteArray) (F : List Nat) (t : Tm) (v : Value) (w : World) (hG : acc.length + 1 ≤ 16384) (hR : NamR W B gm gl mb acc F w) (hs : Sits z W t v) :
    Calls Tryd.prog 49 #[tmV t v, .pointer (some ⟨gm, 0, none⟩), .pointer (some ⟨gl, 0, none⟩)] w (VPost (NamR W B gm gl mb) (namV acc t) F w) := by
  obtain ⟨lv, rfl, hN⟩ := hR
  obtain ⟨ad, cap, rfl, -, -⟩ := hs.parts.shape
  have hts : t.text.size ≤ 281474976710656 := Nat.le_trans hs.fit.s hz
  have hkey : keyOf Tryd.prog 9 (.string t.text) = some (keyN t.text) := Go.WideMaps.keyOf_string_mk Tryd.underlying9 (Nat.le_trans hts (by decide))
  have cm := hN.bgm.cell 0 _ rfl
  have lm := hN.bgm.lt
  have HM := hid2 (fun o => hN.map.alloc o)
  obtain ⟨ba, bc, rfl⟩ := row_val hN.row
  have cl : w.cell? ⟨gl, 0, none⟩ = some (.slice ba acc.length bc) := hN.bgl.cell 0 _ rfl
  have ll := hN.bgl.lt
  have HT := hid2 hts
  have HN := hid2 hN
  have hA : Hid (∀ o, Below w.heap.size w (w.alloc o)) := fun o => (Below.refl _ _).alloc (Nat.le_refl _) _
  clear hs hN hts hz
  by_cases hnew : t.kind = 2 ∧ hasN acc t.text = false
  · obtain ⟨hk, hn⟩ := hnew
    have HE := hid2 (addN_new hk hn)
    have hb : Maps.has (SdN acc) (keyN t.text) = false := by rw [has_SdN]; exact hn
    clear hn
    go_enter Tryd.func49, Tryd.ntmps49
    go_wp2_with (first | (at_lookup; refine wpList_lookup_own_unit _ rfl _ _ 61 rfl 9 62 keyedN Tryd.underlying61 (zeroUnit _) mb acc.length (SdN acc) rfl (HM.out _) _ _ rfl hkey ?_; rw [hb]) | (at_mapUpdate; refine wpList_mapUpdate_own _ rfl _ _ _ 61 rfl 9 62 keyedN Tryd.underlying61 (unitElem (H := Unit)) mb acc.length (SdN acc) rfl ((HM.out _).alloc _) (by unfold maxLen; omega) _ _ _ rfl rfl hkey _ [] unitElem_mk ?_; intro w1 hown1 hgrow1))
    have T1 : Turn [mb] w w1 := (Turn.of_below (S := [mb]) (alloc_two w _ _)).trans (turn_grown hgrow1) (fun i hi => .inl (by simpa using hi))
    have hlo := HN.out.lo
    have hhi := HN.out.hi
    have hne := HN.out.ne
    have tc : w1.cell? ⟨w.heap.size, 1, none⟩ = some (.string t.text) := by
      refine hgrow1.cell (a := ⟨w.heap.size, 1, none⟩) ?_ (by simp; omega)
      simp [go_sem]
    have lt1 : w.heap.size < w1.heap.size := by have := hgrow1.size; simp at this; omega
    have gm1 := hid2 (HN.out.bgm.turn T1 (by simp; omega))
    have gl1 := hid2 (HN.out.bgl.turn T1 (by simp; omega))
    have row1 := hid2 (row_turn HN.out.row T1 (fun k hk => by have := (row_ge HN.out.row hk).1; simp; omega))
    have map1 : Hid (w1.ownsMap Tryd.prog 9 unitElem mb (acc.length + 1) (SdN (acc ++ [t.text]))) := by rw [SdN_snoc]; exact hown1
    have T1' := hid2 T1
    have cl1 : w1.cell? ⟨gl, 0, none⟩ = some (.slice ba acc.length bc) := gl1.out.cell 0 _ rfl
    have ll1 := gl1.out.lt
    have HK := hid2 (fun wx => clone_c t.text HT.out wx)
    have KG : Hid (∀ (w2 w3 : World) (o : Obj), Below w1.heap.size w1 w2 → (w2.alloc o).grownBy w3 (Value.slice ba acc.length bc).ownBlock → Box w3 gl [.slice ba acc.length bc] ∧ Box w3 gm [.map (some mb)] ∧ w3.ownsMap Tryd.prog 9 unitElem mb (acc.length + 1) (SdN (acc ++ [t.text])) ∧ Turn (gl :: mb :: (Value.slice ba acc.length bc).ownBlock.toList) w w3 ∧ B ≤ w3.heap.size) := fun w2 w3 o b2 g3 => by
      have hk : ∀ k, (Value.slice ba acc.length bc).ownBlock = some k → B ≤ k := fun k hk => (row_ge row1.out hk).1
      have T3 : Turn (Value.slice ba acc.length bc).ownBlock.toList w1 w3 := ((Turn.of_below (S := (Value.slice ba acc.length bc).ownBlock.toList) b2).andBelow ((Below.refl _ _).alloc (Nat.le_refl _) o)).trans (turn_grown g3) (fun i hi => .inl hi)
      have nn : ∀ q, q < B → q ∉ (Value.slice ba acc.length bc).ownBlock.toList := fun q hq hm => by
        have := hk q (by simpa using hm)
        omega
      refine ⟨gl1.out.turn T3 (nn _ hhi.2.1), gm1.out.turn T3 (nn _ hhi.1), map_turn map1.out T3 (nn _ hhi.2.2.1), ?_, ?_⟩
      · exact (T1'.out.mono (fun k hk => by simp at hk; simp [hk])).trans T3 (fun i hi => .inl (List.mem_cons_of_mem _ (List.mem_cons_of_mem _ hi)))
      · have := T3.size
        have := T1'.out.size
        omega
    clear hown1 hgrow1 T1 cm cl lm ll HM hA hb hkey
    go_region_law (first | (refine step_call rfl (HK.out _) (by first | rfl | go_simp) ?_; rintro e w2 ⟨rfl, b2⟩; refine ⟨_, rfl, ?_⟩; have B2 := hid2 ((below_drewN (Below.refl _ _) 1).trans b2); have cl2 := (B2.out.cell (p := ⟨gl, 0, none⟩) ll1).trans cl1; have l2 := Nat.lt_of_lt_of_le ll1 B2.out.size) | (refine step_append_str w2 B rfl (.tmp 25) (.tmp 29) rfl (.slice ba acc.length bc) acc t.text rfl (by simp [Act.eval]) (row_turn (S := []) row1.out (Turn.of_below B2.out) (by simp)) hG (by have := B2.out.size; have := T1'.out.size; omega) (by simp [Act.eval]) ?_; intro na nc w3 hrow3 hgrow3 hblk3; have BK3 := hid2 hblk3; obtain ⟨bl3, bm3, mp3, t3, sz3⟩ := KG.out _ _ _ B2.out hgrow3; have R3 := hid2 hrow3; have k3 := bl3.cell 0 _ rfl; have f3 := bl3.free 0 (by simp); have l3 := bl3.lt; have BL3 := hid2 bl3; have BM3 := hid2 bm3; have MP3 := hid2 mp3; have T3 := hid2 t3; have SZ3 := hid2 sz3; clear hrow3 hgrow3 hblk3 bl3 bm3 mp3 t3 sz3))
    all_goals
      have hsz2 : Hid (w.heap.size ≤ w2.heap.size) := Nat.le_trans T1'.out.size B2.out.size
      have RK : Hid (∀ k, (Value.slice na (acc.length + 1) nc).ownBlock = some k → B ≤ k) := fun k hk => (row_ge R3.out hk).1
      have HP : Hid (VPost (NamR W B gm gl mb) (namV acc t) (gl :: mb :: (Value.slice ba acc.length bc).ownBlock.toList) w (.returned (.bool true)) (w3.setCell ⟨gl, 0, none⟩ (.slice na (acc.length + 1) nc))) := by
        refine ⟨rfl, gl :: mb :: (Value.slice na (acc.length + 1) nc).ownBlock.toList, ⟨_, rfl, ?_⟩, T3.out.andSet _ _ (.inl (by simp)), fun b hm => ?_⟩
        · show NamS W B gm gl mb (addN acc t) _ _
          rw [HE.out]
          refine ⟨BM3.out.other hne.1, BL3.out.set 0 (by simp) _, ?_, ?_, hlo, ⟨hhi.1, hhi.2.1, hhi.2.2.1, by simpa using SZ3.out⟩, hne⟩
          · have := MP3.out.setCell (a := ⟨gl, 0, none⟩) (by simp; omega) (.slice na (acc.length + 1) nc)
            simpa using this
          · have := row_turn R3.out (Turn.set (S := [gl]) w3 ⟨gl, 0, none⟩ (.slice na (acc.length + 1) nc) (by simp)) (fun k hk => by have := RK.out k hk; simp; omega)
            simpa using this
        · rcases List.mem_cons.1 hm with rfl | hm
          · exact .inl (by simp)
          rcases List.mem_cons.1 hm with rfl | hm
          · exact .inl (by simp)
          have hk : (Value.slice na (acc.length + 1) nc).ownBlock = some b := by simpa using hm
          rcases BK3.out with e | e
          · exact .inl (by rw [e] at hk; simp [hk])
          · rw [e] at hk
            cases hk
            exact .inr (by have := hsz2.out; omega)
      clear HE KG BM3 BL3 MP3 R3 RK T3 HN gm1 gl1 row1 map1
      go_wp2_with fail
      go_ret
      exact HP.out
  · have hold : t.kind = 2 → hasN acc t.text = true := fun hk => by
      by_cases h : hasN acc t.text = true
      · exact h
      · exact absurd ⟨hk, by simpa using h⟩ hnew
    have HE := hid2 (addN_old hold)
    have HP : Hid (∀ o o', VPost (NamR W B gm gl mb) (namV acc t) (gl :: mb :: (Value.slice ba acc.length bc).ownBlock.toList) w (.returned (.bool true)) ((w.alloc o).alloc o')) := fun o o' => by
      refine ⟨rfl, _, ⟨_, rfl, ?_⟩, Turn.of_below (alloc_two w _ _), fun b hm => .inl hm⟩
      show NamS W B gm gl mb (addN acc t) _ _
      rw [HE.out]
      exact HN.out.next (alloc_two w _ _)
    clear hnew
    by_cases hk : t.kind = 2
    · have hb : Maps.has (SdN acc) (keyN t.text) = true := by rw [has_SdN]; exact hold hk
      clear HN HE hold cl ll hA HT
      go_enter Tryd.func49, Tryd.ntmps49
      go_wp2_with (first | (at_lookup; refine wpList_lookup_own_unit _ rfl _ _ 61 rfl 9 62 keyedN Tryd.underlying61 (zeroUnit _) mb acc.length (SdN acc) rfl (HM.out _) _ _ rfl hkey ?_; rw [hb]))
      go_ret
      exact HP.out _ _
    · clear HN HE hold cl ll hA HT
      go_enter Tryd.func49, Tryd.ntmps49
      go_wp2_with (first | (at_lookup; refine wpList_lookup_own_unit _ rfl _ _ 61 rfl 9 62 keyedN Tryd.underlying61 (zeroUnit _) mb acc.length (SdN acc) rfl (HM.out _) _ _ rfl hkey ?_))
      go_ret
      exact HP.out _ _
end Go.Proofs.YtdikeicnefgjcaaDoor
