/- Package codec: the document's Encode. -/
import Derived.Test.YtgfimpphpadmgaaDoorDcH
namespace Go.Proofs.YtgfimpphpadmgaaDoor
open Go.RowKit

theorem own_new (w : World) (e : TypeId) (n k : Nat) (xs : List Value) (B : Nat) (hB : B ≤ w.heap.size) (hl : xs.length = n * k) (hn : n ≤ maxLen) : (w.alloc (.cells xs.toArray e)).ownsRow B e k (.slice (some ⟨w.heap.size, 0, none⟩) n n) n xs :=
  ⟨hl, .inr ⟨w.heap.size, n, xs.toArray, rfl, hB, heap_new w _, Nat.le_refl _, hn, by simpa using hl, by rw [← hl]; simp⟩⟩
/-- Where the document's Encode stands: the bytes so far, the program's box. -/
structure Ste (w wr : World) (ps : List Value) (X : List UInt8) (v : Value) : Prop where
  row : Bys wr (w.heap.size + 1) v X
  box : Box wr w.heap.size ps
  bel : Below w.heap.size w wr
theorem Ste.step {w wr w' : World} {ps : List Value} {X Y : List UInt8} {v v' : Value} (h : Ste w wr ps X v) (k : Nb (w.heap.size + 1) (blk v) wr Y w' v') : Ste w w' ps Y v' :=
  ⟨k.row, h.box.turn k.turn (fun hm => by have := (h.row.lt _ (blk_mem.1 hm)).1; omega), h.bel.trans (k.turn.below (fun i hi => by have := (h.row.lt _ (blk_mem.1 hi)).1; omega) h.bel.size)⟩
theorem Ste.next {w wr w' : World} {ps : List Value} {X : List UInt8} {v : Value} (h : Ste w wr ps X v) (k : Below wr.heap.size wr w') : Ste w w' ps X v :=
  ⟨own_turn h.row (S := []) (Turn.of_below k) (fun _ _ hm => by cases hm), h.box.next k, h.bel.trans (k.mono h.bel.size)⟩
/-- Another box lies on while bytes are written. -/
theorem Nb.box {B : Nat} {wr w' : World} {X : List UInt8} {v v' : Value} {g : Nat} {xs : List Value} (k : Nb B (blk v) wr X w' v') (h : Box wr g xs) (hg : g ∉ blk v) : Box w' g xs ∧ g ∉ blk v' :=
  ⟨h.turn k.turn hg, fun hm => by
    rcases k.own g (blk_mem.1 hm) with h1 | h1
    · exact hg h1
    · have := h.lt; omega⟩
theorem Ste.far {w wr : World} {ps : List Value} {X : List UInt8} {v : Value} (h : Ste w wr ps X v) {g : Nat} (hg : wr.heap.size ≤ g) : g ∉ blk v := fun hm => by
  have := (h.row.lt _ (blk_mem.1 hm)).2
  omega
theorem Ste.num {w wr : World} {ps : List Value} {X : List UInt8} {v : Value} (h : Ste w wr ps X v) (k : Nat) (hk : k ≤ 8) (n m : Int) (hm : beN k n = beN k m) (hl : X.length ≤ 1000000) :
    Calls Tryd.prog 20 #[v, .int .u64 n, .int .i64 (k : Nat)] wr fun e w' => ∃ v', e = .returned v' ∧ Nb (w.heap.size + 1) (blk v) wr (X ++ beN k m) w' v' := by
  have := number_c (w.heap.size + 1) k hk n X v wr h.row hl (by have := h.bel.size; have := h.box.lt; omega)
  rwa [hm] at this
theorem be_u64 {k : Nat} (hk : k ≤ 8) (x : Int) : beN k (IntKind.u64.wrap x) = beN k x := by
  have := beN_mod k 8 x hk
  rwa [p8, ← IntKind.wrap_u64] at this
theorem enl_drop {α : Type} (P : List UInt8) (f : α → List UInt8) (l : List α) : P ++ beN 4 (l.length : Nat) ++ (l.drop 0).flatMap f = P ++ enL f l := by rw [enL, List.drop_zero, List.append_assoc]
def kus (l : List Int) : List Value := l.map fun x => .int .u64 x
theorem pl1 (g : PgP) : (enH g).length ≤ 400000 := by rw [enH_len]; omega
theorem pl2 {g : PgP} (h : ToldP g) : (enH g ++ enL (beN 8) g.K).length ≤ 400000 := by rw [List.length_append, enH_len, enL_len (beN_len 8)]; have := h.k; omega
theorem pl3 {g : PgP} (h : ToldP g) : (enH g ++ enL (beN 8) g.K ++ enL enW g.wins).length ≤ 400000 := by rw [List.length_append, List.length_append, enH_len, enL_len (beN_len 8), enL_len enW_len]; have := h.k; have := h.wi; omega
theorem pl4 {g : PgP} (h : ToldP g) : (enH g ++ enL (beN 8) g.K ++ enL enW g.wins ++ enL enC g.crons).length ≤ 400000 := by rw [List.length_append, List.length_append, List.length_append, enH_len, enL_len (beN_len 8), enL_len enW_len, enL_len enC_len]; have := h.k; have := h.wi; have := h.cr; omega
theorem pl5 {g : PgP} (h : ToldP g) : (enH g ++ enL (beN 8) g.K ++ enL enW g.wins ++ enL enC g.crons ++ enL enI g.C).length ≤ 400000 := Nat.le_trans (told_len h) (by decide)
set_option maxHeartbeats 4000000 in
set_option maxRecDepth 20000 in
theorem rEncode_c (g : PgP) (u : PgV) (w : World) (h : PgRd w g u) :
    Calls Tryd.prog 11 #[pgV g u] w (EncP g w) := by
  obtain ⟨a1, c1, e1, -, -⟩ := RowsK.shape h.k
  obtain ⟨a2, c2, e2, -, -⟩ := RowsK.shape h.wi
  obtain ⟨a3, c3, e3, -, -⟩ := RowsK.shape h.cr
  obtain ⟨a4, c4, e4, -, -⟩ := RowsK.shape h.c
  obtain ⟨vk, vw, vr, vc⟩ := u
  simp only at e1 e2 e3 e4
  subst e1 e2 e3 e4
  obtain ⟨Y0, YB⟩ := one_box w 29 (pgL g ⟨.slice a1 g.K.length c1, .slice a2 g.wins.length c2, .slice a3 g.crons.length c3, .slice a4 g.C.length c4⟩)
  have HT := rtold_c g _ _ (h.next YB)
  have HR := chid h
  have HY := chid Y0
  have HB := chid YB
  cases hq : toldB g with
  | false =>
    rw [hq] at HT
    have HT := chid HT
    have HE : Hid (∀ w', Below w.heap.size w w' → EncP g w (.returned (.tuple #[.slice none 0 0, .int .i64 1])) w') := chid (fun w' hb => ⟨hb, .inl ⟨hq, rfl⟩⟩)
    clear h hq Y0 YB HR HY
    generalize EncP g w = Post at *
    go_enter Tryd.func11, Tryd.ntmps11
    go_wp2_with fail
    refine Calls.mono HT.out ?_
    rintro e w1 ⟨rfl, b1⟩
    go_wp2_with fail
    exact HE.out _ (cbelow_on HB.out b1 HB.out.size)
  | true =>
    rw [hq] at HT
    have HT := chid HT
    have HE : Hid (∀ w' v, Below w.heap.size w w' → Bys w' w.heap.size v (encF g) → EncP g w (.returned (.tuple #[v, .int .i64 0])) w') := chid (fun w' v hb hv => ⟨hb, .inr ⟨hq, v, rfl, hv⟩⟩)
    have HTo := chid (told_iff.1 hq)
    clear h hq Y0 YB
    generalize EncP g w = Post at *
    go_enter Tryd.func11, Tryd.ntmps11
    go_wp2_with fail
    refine Calls.mono HT.out ?_
    rintro e w1 ⟨rfl, b1⟩
    have HB1 := chid (cbelow_on HB.out b1 HB.out.size)
    have HY1 := chid (HY.out.next b1)
    obtain ⟨ps, hps⟩ : ∃ ps, Hid (ps = pgL g ⟨.slice a1 g.K.length c1, .slice a2 g.wins.length c2, .slice a3 g.crons.length c3, .slice a4 g.C.length c4⟩) := ⟨_, chid rfl⟩
    have S0 : Ste w (w1.alloc (.cells #[.int .u8 99, .int .u8 112, .int .u8 115, .int .u8 49] 5)) ps [99, 112, 115, 49] (.slice (some ⟨w1.heap.size, 0, none⟩) 4 4) := by
      have hsz := b1.size
      simp only [World.size_alloc] at hsz
      rw [hps.out]
      exact ⟨own_new w1 5 4 1 [byc 99, byc 112, byc 115, byc 49] _ hsz rfl (by decide), HY1.out.next (bel_alloc w1 _), HB1.out.alloc HB1.out.size _⟩
    have z0 := HY1.out.next (bel_alloc w1 (.cells #[.int .u8 99, .int .u8 112, .int .u8 115, .int .u8 49] 5))
    have y0 := z0.cell 0 _ rfl
    have yl := z0.lt
    have HS0 := chid S0
    have hp0 : ps[0]? = some (.int .i64 g.met) := by rw [hps.out]; rfl
    have hp1 : ps[1]? = some (.int .i64 g.ru.mn) := by rw [hps.out]; rfl
    have hp2 : ps[2]? = some (.int .i64 g.ru.mx) := by rw [hps.out]; rfl
    have hp3 : ps[3]? = some (.int .i64 g.ru.st) := by rw [hps.out]; rfl
    have hp4 : ps[4]? = some (.int .i64 g.ru.up) := by rw [hps.out]; rfl
    have hp5 : ps[5]? = some (.int .i64 g.ru.dn) := by rw [hps.out]; rfl
    have hp6 : ps[6]? = some (.slice a1 g.K.length c1) := by rw [hps.out]; rfl
    have hp7 : ps[7]? = some (.slice a2 g.wins.length c2) := by rw [hps.out]; rfl
    have hp8 : ps[8]? = some (.slice a3 g.crons.length c3) := by rw [hps.out]; rfl
    have hp9 : ps[9]? = some (.int .i64 g.loc) := by rw [hps.out]; rfl
    have hp10 : ps[10]? = some (.int .i64 g.h) := by rw [hps.out]; rfl
    have hp11 : ps[11]? = some (.slice a4 g.C.length c4) := by rw [hps.out]; rfl
    have HP := chid (And.intro hp0 (And.intro hp1 (And.intro hp2 (And.intro hp3 (And.intro hp4 (And.intro hp5 (And.intro hp6 (And.intro hp7 (And.intro hp8 (And.intro hp9 (And.intro hp10 hp11)))))))))))
    clear hp0 hp1 hp2 hp3 hp4 hp5 hp6 hp7 hp8 hp9 hp10 hp11 b1 S0 z0
    have HN := chid (HS0.out.num 4 (by omega) (IntKind.u64.wrap (g.met)) (g.met) (be_u64 (by omega) _) (by simp))
    go_wp2_with fail
    refine Calls.mono HN.out ?_
    rintro e wn1 ⟨vn1, rfl, h2⟩
    have HS1 := chid (HS0.out.step h2)
    clear h2 HN
    clear y0 yl
    generalize w1.alloc _ = w1' at *
    have y9 := HS1.out.box.cell 9 _ (HP.out.2.2.2.2.2.2.2.2.2.1)
    have yl := HS1.out.box.lt
    have HN := chid (HS1.out.num 4 (by omega) (IntKind.u64.wrap (g.loc)) (g.loc) (be_u64 (by omega) _) (by simp [beN_len]))
    go_wp2_with fail
    refine Calls.mono HN.out ?_
    rintro e wn2 ⟨vn2, rfl, h2⟩
    have HS2 := chid (HS1.out.step h2)
    clear h2 HN
    clear y9 yl
    have y10 := HS2.out.box.cell 10 _ (HP.out.2.2.2.2.2.2.2.2.2.2.1)
    have yl := HS2.out.box.lt
    have HN := chid (HS2.out.num 4 (by omega) (IntKind.u64.wrap (g.h)) (g.h) (be_u64 (by omega) _) (by simp [beN_len]))
    go_wp2_with fail
    refine Calls.mono HN.out ?_
    rintro e wn3 ⟨vn3, rfl, h2⟩
    have HS3 := chid (HS2.out.step h2)
    clear h2 HN
    clear y10 yl
    obtain ⟨rl, hrl⟩ : ∃ rl, Hid (rl = [g.ru.mn, g.ru.mx, g.ru.st, g.ru.up, g.ru.dn]) := ⟨_, chid rfl⟩
    have y1 := HS3.out.box.cell 1 _ (HP.out.2.1)
    have y2 := HS3.out.box.cell 2 _ (HP.out.2.2.1)
    have y3 := HS3.out.box.cell 3 _ (HP.out.2.2.2.1)
    have y4 := HS3.out.box.cell 4 _ (HP.out.2.2.2.2.1)
    have y5 := HS3.out.box.cell 5 _ (HP.out.2.2.2.2.2.1)
    have yl := HS3.out.box.lt
    have HX0 : Hid (((([99, 112, 115, 49] : List UInt8) ++ beN 4 g.met) ++ beN 4 g.loc) ++ beN 4 g.h ++ rl.flatMap (beN 8) = enH g) := chid (by rw [hrl.out]; simp [enH, List.append_assoc])
    have HLr : Hid (rl.length = 5) := chid (by rw [hrl.out]; rfl)
    have HSr := chid (HS3.out.next (bel_alloc wn3 (.cells (ks [g.ru.mn, g.ru.mx, g.ru.st, g.ru.up, g.ru.dn]).toArray 52)))
    have HBr : Hid (Box (wn3.alloc (.cells (ks [g.ru.mn, g.ru.mx, g.ru.st, g.ru.up, g.ru.dn]).toArray 52)) wn3.heap.size (ks rl)) := chid (by rw [hrl.out]; exact Box.new wn3 (ks [g.ru.mn, g.ru.mx, g.ru.st, g.ru.up, g.ru.dn]) 52)
    have HFr : Hid (wn3.heap.size ∉ blk vn3) := chid (HS3.out.far (Nat.le_refl _))
    generalize [99, 112, 115, 49] ++ beN 4 g.met ++ beN 4 g.loc ++ beN 4 g.h = X0 at *
    go_wp2_with fail
    clear y1 y2 y3 y4 y5 yl
    generalize wn3.heap.size = rb at *
    go_loopw [4, 6] (fun r i wr => ∃ (k : Nat), i = .int .i64 (k : Nat) ∧ k ≤ 5 ∧ ∃ X, Hid (X ++ (rl.drop k).flatMap (beN 8) = enH g) ∧ Hid (Ste w wr ps X r) ∧ Hid (Box wr rb (ks rl)) ∧ Hid (rb ∉ blk r)) (fun _ i _ => match i with | .int _ z => ((5 : Int) - z).toNat | _ => 0)
    case atStart => exact ⟨0, rfl, by omega, X0, HX0, HSr, HBr, HFr⟩
    case round =>
      obtain ⟨k, rfl, hk, X, HX, HS, HBx, HFx⟩ := hrel
      clear HX0 HSr HBr HFr
      by_cases hlt : k < 5
      · have hlt' : (k : Int) < 5 := by omega
        have hkl : k < rl.length := by rw [HLr.out]; exact hlt
        have hd : rl.drop k = rl[k] :: rl.drop (k + 1) := List.drop_eq_getElem_cons hkl
        rw [hd, List.flatMap_cons, ← List.append_assoc] at HX
        have c0 := HBx.out.cell k (.int .i64 rl[k]) (by simp [ks, hkl])
        have cl := HBx.out.lt
        have hXl : X.length ≤ 1000000 := by have h1 := enH_len g; rw [← HX.out] at h1; simp only [List.length_append] at h1; omega
        clear hd
        generalize rl[k] = y at *
        have HN := chid (HS.out.num 8 (by omega) (IntKind.u64.wrap (y)) (y) (be_u64 (by omega) _) (hXl))
        go_wp2_with fail
        refine Calls.mono HN.out ?_
        rintro e wn4 ⟨vn4, rfl, h2⟩
        have HS4 := chid (HS.out.step h2)
        have HB2 := chid (h2.box HBx.out HFx.out)
        clear h2 HN
        clear c0 cl
        go_wp2_with fail
        go_roundw
        case rel => exact ⟨k + 1, by go_num, by omega, _, HX, HS4, chid HB2.out.1, chid HB2.out.2⟩
        case measure => simp; omega
      · have hlt' : ¬ (k : Int) < 5 := by omega
        have hk5 : k = 5 := by omega
        subst hk5
        have e : X = enH g := by
          have := HX.out
          rw [List.drop_eq_nil_of_le (by rw [HLr.out]; omega)] at this
          simpa using this
        subst e
        have HSa := HS
        clear HX HBx HFx HS
        have y6 := HSa.out.box.cell 6 _ (HP.out.2.2.2.2.2.2.1)
        have yl := HSa.out.box.lt
        have HN := chid (HSa.out.num 4 (by omega) (IntKind.u64.wrap ((g.K.length : Nat))) ((g.K.length : Nat)) (be_u64 (by omega) _) (Nat.le_trans (pl1 g) (by decide)))
        go_wp2_with fail
        refine Calls.mono HN.out ?_
        rintro e wn5 ⟨vn5, rfl, h2⟩
        have HS5 := chid (HSa.out.step h2)
        clear h2 HN
        clear y6 yl
        go_wp2_with fail
        obtain ⟨ZK, hZK⟩ : ∃ Z, Hid (Z = enH g ++ enL (beN 8) g.K) := ⟨_, chid rfl⟩
        have HZlK : Hid (ZK.length ≤ 400000) := chid (by rw [hZK.out]; exact pl2 HTo.out)
        have HX0 : Hid (enH g ++ beN 4 (g.K.length : Nat) ++ (g.K.drop 0).flatMap (beN 8) = ZK) := chid (by rw [hZK.out]; exact enl_drop _ _ _)
        have HLm : Hid (g.K.length ≤ 20000) := chid (by have := HTo.out.k; have := HTo.out.wi; have := HTo.out.cr; have := HTo.out.c; omega)
        go_loopw [4, 7] (fun r i wr => ∃ (k : Nat), i = .int .i64 (k : Nat) ∧ k ≤ g.K.length ∧ ∃ X, Hid (X ++ (g.K.drop k).flatMap (beN 8) = ZK) ∧ Hid (Ste w wr ps X r)) (fun _ i _ => match i with | .int _ z => ((g.K.length : Int) - z).toNat | _ => 0)
        case atStart => exact ⟨0, rfl, Nat.zero_le _, _, HX0, HS5⟩
        case round =>
          obtain ⟨k, rfl, hk, X, HX, HS⟩ := hrel
          clear HX0
          have y6 := HS.out.box.cell 6 _ (HP.out.2.2.2.2.2.2.1)
          have yl := HS.out.box.lt
          by_cases hlt : k < g.K.length
          · have hlt' : (k : Int) < (g.K.length : Int) := by omega
            have hwk : IntKind.i64.wrap ((k : Int) + 1) = (k : Int) + 1 := by have := HLm.out; rw [IntKind.wrap_i64]; omega
            have hd : g.K.drop k = g.K.getD k 0 :: g.K.drop (k + 1) := by rw [show g.K.getD k 0 = g.K[k] by simp [List.getD, hlt]]; exact List.drop_eq_getElem_cons hlt
            rw [hd, List.flatMap_cons, ← List.append_assoc] at HX
            have hXl : X.length ≤ 1000000 := by have h1 := HZlK.out; rw [← HX.out] at h1; simp only [List.length_append] at h1; omega
            have hXw : X.length ≤ 900000 := by have h1 := HZlK.out; rw [← HX.out] at h1; simp only [List.length_append] at h1; omega
            obtain ⟨b, off, cap, hv, -, -, hbl, hx⟩ := RowsK.open HR.out.k (show 0 < g.K.length by omega)
            simp only [Value.slice.injEq] at hv
            obtain ⟨rfl, -, rfl⟩ := hv
            have z0 := keepc HS.out.bel (hx k hlt 0 _ rfl)
            rw [show off + k * 1 + 0 = off + k by omega] at z0
            have bl := Nat.lt_of_lt_of_le hbl HS.out.bel.size
            clear hd hx hbl
            generalize g.K.getD k 0 = y at *
            have HN := chid (HS.out.num 8 (by omega) (IntKind.u64.wrap (y)) (y) (be_u64 (by omega) _) (hXl))
            go_wp2_with fail
            refine Calls.mono HN.out ?_
            rintro e wn6 ⟨vn6, rfl, h2⟩
            have HS6 := chid (HS.out.step h2)
            clear h2 HN
            go_wp2_with fail
            go_roundw
            case rel => exact ⟨k + 1, by go_num, by omega, _, HX, HS6⟩
            case measure => simp; omega
          · have hlt' : ¬ (k : Int) < (g.K.length : Int) := by omega
            obtain rfl : k = g.K.length := by omega
            have e : X = enH g ++ enL (beN 8) g.K := by
              rw [← hZK.out, ← HX.out, List.drop_length]
              simp
            subst e
            clear HX HLm hZK HZlK
            have y7 := HS.out.box.cell 7 _ (HP.out.2.2.2.2.2.2.2.1)
            have yl := HS.out.box.lt
            have HN := chid (HS.out.num 4 (by omega) (IntKind.u64.wrap ((g.wins.length : Nat))) ((g.wins.length : Nat)) (be_u64 (by omega) _) (Nat.le_trans (pl2 HTo.out) (by decide)))
            go_wp2_with fail
            refine Calls.mono HN.out ?_
            rintro e wn7 ⟨vn7, rfl, h2⟩
            have HS7 := chid (HS.out.step h2)
            clear h2 HN
            clear y7 y6 yl
            go_wp2_with fail
            obtain ⟨Zwi, hZwi⟩ : ∃ Z, Hid (Z = (enH g ++ enL (beN 8) g.K) ++ enL enW g.wins) := ⟨_, chid rfl⟩
            have HZlwi : Hid (Zwi.length ≤ 400000) := chid (by rw [hZwi.out]; exact pl3 HTo.out)
            have HX0 : Hid ((enH g ++ enL (beN 8) g.K) ++ beN 4 (g.wins.length : Nat) ++ (g.wins.drop 0).flatMap enW = Zwi) := chid (by rw [hZwi.out]; exact enl_drop _ _ _)
            have HLm : Hid (g.wins.length ≤ 20000) := chid (by have := HTo.out.k; have := HTo.out.wi; have := HTo.out.cr; have := HTo.out.c; omega)
            go_loopw [4, 8] (fun r i wr => ∃ (k : Nat), i = .int .i64 (k : Nat) ∧ k ≤ g.wins.length ∧ ∃ X, Hid (X ++ (g.wins.drop k).flatMap enW = Zwi) ∧ Hid (Ste w wr ps X r)) (fun _ i _ => match i with | .int _ z => ((g.wins.length : Int) - z).toNat | _ => 0)
            case atStart => exact ⟨0, rfl, Nat.zero_le _, _, HX0, HS7⟩
            case round =>
              obtain ⟨k, rfl, hk, X, HX, HS⟩ := hrel
              clear HX0
              have y7 := HS.out.box.cell 7 _ (HP.out.2.2.2.2.2.2.2.1)
              have yl := HS.out.box.lt
              by_cases hlt : k < g.wins.length
              · have hlt' : (k : Int) < (g.wins.length : Int) := by omega
                have hwk : IntKind.i64.wrap ((k : Int) + 1) = (k : Int) + 1 := by have := HLm.out; rw [IntKind.wrap_i64]; omega
                have hd : g.wins.drop k = g.wins.getD k wi0 :: g.wins.drop (k + 1) := by rw [show g.wins.getD k wi0 = g.wins[k] by simp [List.getD, hlt]]; exact List.drop_eq_getElem_cons hlt
                rw [hd, List.flatMap_cons, ← List.append_assoc] at HX
                have hXl : X.length ≤ 1000000 := by have h1 := HZlwi.out; rw [← HX.out] at h1; simp only [List.length_append] at h1; omega
                have hXw : X.length ≤ 900000 := by have h1 := HZlwi.out; rw [← HX.out] at h1; simp only [List.length_append] at h1; omega
                obtain ⟨b, off, cap, hv, -, -, hbl, hx⟩ := RowsK.open HR.out.wi (show 0 < g.wins.length by omega)
                simp only [Value.slice.injEq] at hv
                obtain ⟨rfl, -, rfl⟩ := hv
                have z0 := keepc HS.out.bel (hx k hlt 0 _ rfl)
                have z1 := keepc HS.out.bel (hx k hlt 1 _ rfl)
                have z2 := keepc HS.out.bel (hx k hlt 2 _ rfl)
                have z3 := keepc HS.out.bel (hx k hlt 3 _ rfl)
                rw [show off + k * 4 + 0 = off + k * 4 by omega] at z0
                have bl := Nat.lt_of_lt_of_le hbl HS.out.bel.size
                clear hd hx hbl
                generalize g.wins.getD k wi0 = y at *
                have HSb := chid (HS.out.next (bel_alloc wr (.cells (wiL y).toArray 54)))
                have HBb := chid (Box.new wr (wiL y) 54)
                have HFb := chid (HS.out.far (Nat.le_refl _))
                have c0 := HBb.out.cell 0 _ rfl
                have cl := HBb.out.lt
                have HN := chid (HSb.out.num 4 (by omega) (IntKind.u64.wrap (y.m)) (y.m) (be_u64 (by omega) _) (hXl))
                go_wp2_with fail
                refine Calls.mono HN.out ?_
                rintro e wn8 ⟨vn8, rfl, h2⟩
                have HS8 := chid (HSb.out.step h2)
                have HB82 := chid (h2.box HBb.out HFb.out)
                have HBx8 := chid HB82.out.1
                have HFx8 := chid HB82.out.2
                clear h2 HN
                generalize wr.heap.size = rbx at *
                clear c0 cl
                have c1 := HBx8.out.cell 1 _ rfl
                have cl := HBx8.out.lt
                have HN := chid (HS8.out.num 4 (by omega) (IntKind.u64.wrap (y.a)) (y.a) (be_u64 (by omega) _) (by have := hXw; simp only [List.length_append, beN_len]; omega))
                go_wp2_with fail
                refine Calls.mono HN.out ?_
                rintro e wn9 ⟨vn9, rfl, h2⟩
                have HS9 := chid (HS8.out.step h2)
                have HB92 := chid (h2.box HBx8.out HFx8.out)
                have HBx9 := chid HB92.out.1
                have HFx9 := chid HB92.out.2
                clear h2 HN
                clear c1 cl
                have c2 := HBx9.out.cell 2 _ rfl
                have cl := HBx9.out.lt
                have HN := chid (HS9.out.num 8 (by omega) (IntKind.u64.wrap (y.s)) (y.s) (be_u64 (by omega) _) (by have := hXw; simp only [List.length_append, beN_len]; omega))
                go_wp2_with fail
                refine Calls.mono HN.out ?_
                rintro e wn10 ⟨vn10, rfl, h2⟩
                have HS10 := chid (HS9.out.step h2)
                have HB102 := chid (h2.box HBx9.out HFx9.out)
                have HBx10 := chid HB102.out.1
                have HFx10 := chid HB102.out.2
                clear h2 HN
                clear c2 cl
                have c3 := HBx10.out.cell 3 _ rfl
                have cl := HBx10.out.lt
                have HN := chid (HS10.out.num 8 (by omega) (IntKind.u64.wrap (y.p)) (y.p) (be_u64 (by omega) _) (by have := hXw; simp only [List.length_append, beN_len]; omega))
                go_wp2_with fail
                refine Calls.mono HN.out ?_
                rintro e wn11 ⟨vn11, rfl, h2⟩
                have HS11 := chid (HS10.out.step h2)
                have HB112 := chid (h2.box HBx10.out HFx10.out)
                have HBx11 := chid HB112.out.1
                have HFx11 := chid HB112.out.2
                clear h2 HN
                clear c3 cl
                have HX2 : Hid (((((X ++ beN 4 (y.m)) ++ beN 4 (y.a)) ++ beN 8 (y.s)) ++ beN 8 (y.p)) ++ (g.wins.drop (k + 1)).flatMap enW = Zwi) := chid (by have := HX.out; simpa only [enW, List.append_assoc] using this)
                go_wp2_with fail
                go_roundw
                case rel => exact ⟨k + 1, by go_num, by omega, _, HX2, HS11⟩
                case measure => simp; omega
              · have hlt' : ¬ (k : Int) < (g.wins.length : Int) := by omega
                obtain rfl : k = g.wins.length := by omega
                have e : X = (enH g ++ enL (beN 8) g.K) ++ enL enW g.wins := by
                  rw [← hZwi.out, ← HX.out, List.drop_length]
                  simp
                subst e
                clear HX HLm hZwi HZlwi
                have y8 := HS.out.box.cell 8 _ (HP.out.2.2.2.2.2.2.2.2.1)
                have yl := HS.out.box.lt
                have HN := chid (HS.out.num 4 (by omega) (IntKind.u64.wrap ((g.crons.length : Nat))) ((g.crons.length : Nat)) (be_u64 (by omega) _) (Nat.le_trans (pl3 HTo.out) (by decide)))
                go_wp2_with fail
                refine Calls.mono HN.out ?_
                rintro e wn12 ⟨vn12, rfl, h2⟩
                have HS12 := chid (HS.out.step h2)
                clear h2 HN
                clear y8 y7 yl
                go_wp2_with fail
                obtain ⟨Zcr, hZcr⟩ : ∃ Z, Hid (Z = (enH g ++ enL (beN 8) g.K ++ enL enW g.wins) ++ enL enC g.crons) := ⟨_, chid rfl⟩
                have HZlcr : Hid (Zcr.length ≤ 400000) := chid (by rw [hZcr.out]; exact pl4 HTo.out)
                have HX0 : Hid ((enH g ++ enL (beN 8) g.K ++ enL enW g.wins) ++ beN 4 (g.crons.length : Nat) ++ (g.crons.drop 0).flatMap enC = Zcr) := chid (by rw [hZcr.out]; exact enl_drop _ _ _)
                have HLm : Hid (g.crons.length ≤ 20000) := chid (by have := HTo.out.k; have := HTo.out.wi; have := HTo.out.cr; have := HTo.out.c; omega)
                go_loopw [4, 10] (fun r i wr => ∃ (k : Nat), i = .int .i64 (k : Nat) ∧ k ≤ g.crons.length ∧ ∃ X, Hid (X ++ (g.crons.drop k).flatMap enC = Zcr) ∧ Hid (Ste w wr ps X r)) (fun _ i _ => match i with | .int _ z => ((g.crons.length : Int) - z).toNat | _ => 0)
                case atStart => exact ⟨0, rfl, Nat.zero_le _, _, HX0, HS12⟩
                case round =>
                  obtain ⟨k, rfl, hk, X, HX, HS⟩ := hrel
                  clear HX0
                  have y8 := HS.out.box.cell 8 _ (HP.out.2.2.2.2.2.2.2.2.1)
                  have yl := HS.out.box.lt
                  by_cases hlt : k < g.crons.length
                  · have hlt' : (k : Int) < (g.crons.length : Int) := by omega
                    have hwk : IntKind.i64.wrap ((k : Int) + 1) = (k : Int) + 1 := by have := HLm.out; rw [IntKind.wrap_i64]; omega
                    have hd : g.crons.drop k = g.crons.getD k cr0 :: g.crons.drop (k + 1) := by rw [show g.crons.getD k cr0 = g.crons[k] by simp [List.getD, hlt]]; exact List.drop_eq_getElem_cons hlt
                    rw [hd, List.flatMap_cons, ← List.append_assoc] at HX
                    have hXl : X.length ≤ 1000000 := by have h1 := HZlcr.out; rw [← HX.out] at h1; simp only [List.length_append] at h1; omega
                    have hXw : X.length ≤ 900000 := by have h1 := HZlcr.out; rw [← HX.out] at h1; simp only [List.length_append] at h1; omega
                    obtain ⟨b, off, cap, hv, -, -, hbl, hx⟩ := RowsK.open HR.out.cr (show 0 < g.crons.length by omega)
                    simp only [Value.slice.injEq] at hv
                    obtain ⟨rfl, -, rfl⟩ := hv
                    have z0 := keepc HS.out.bel (hx k hlt 0 _ rfl)
                    have z1 := keepc HS.out.bel (hx k hlt 1 _ rfl)
                    have z2 := keepc HS.out.bel (hx k hlt 2 _ rfl)
                    have z3 := keepc HS.out.bel (hx k hlt 3 _ rfl)
                    have z4 := keepc HS.out.bel (hx k hlt 4 _ rfl)
                    rw [show off + k * 5 + 0 = off + k * 5 by omega] at z0
                    have bl := Nat.lt_of_lt_of_le hbl HS.out.bel.size
                    clear hd hx hbl
                    generalize g.crons.getD k cr0 = y at *
                    have YC := Box.new wr (crL y) 56
                    have YC2 := YC.next (bel_alloc _ (.cells (crL y).toArray 57))
                    have c0 := YC.cell 0 _ rfl
                    have c1 := YC.cell 1 _ rfl
                    have c2 := YC.cell 2 _ rfl
                    have c3 := YC.cell 3 _ rfl
                    have c4 := YC.cell 4 _ rfl
                    have cl := YC.lt
                    have S1 := HS.out.next (bel_alloc wr (.cells (crL y).toArray 56))
                    have HSf := chid (S1.next (bel_alloc _ (.cells (crL y).toArray 57)))
                    have BF := Box.new (wr.alloc (.cells (crL y).toArray 56)) (crL y) 57
                    have FF := S1.far (Nat.le_refl _)
                    rw [World.size_alloc] at BF FF
                    obtain ⟨rl, hrl⟩ : ∃ rl : List Int, Hid (rl = [(y.a : Int), (y.b : Int), (y.c : Int), (y.d : Int), (y.e : Int)]) := ⟨_, chid rfl⟩
                    have HBf : Hid (Box ((wr.alloc (.cells (crL y).toArray 56)).alloc (.cells (crL y).toArray 57)) (wr.heap.size + 1) (kus rl)) := chid (by rw [hrl.out]; exact BF)
                    have HFf := chid FF
                    have HLr : Hid (rl.length = 5) := chid (by rw [hrl.out]; rfl)
                    obtain ⟨T, hT⟩ : ∃ T, Hid (T = X ++ enC y) := ⟨_, chid rfl⟩
                    have HTl : Hid (T.length ≤ 950000) := chid (by rw [hT.out, List.length_append, enC_len]; omega)
                    have HXi : Hid (X ++ (rl.drop 0).flatMap (beN 8) = T) := chid (by rw [hT.out, hrl.out]; simp [enC, List.append_assoc])
                    rw [← hT.out] at HX
                    clear YC YC2 S1 BF FF hT
                    go_wp2_with fail
                    clear c0 c1 c2 c3 c4 cl z0 z1 z2 z3 z4 y8 yl
                    generalize wr.heap.size + 1 = rbf at *
                    go_loopw [4, 13] (fun r i wr => ∃ (j : Nat), i = .int .i64 (j : Nat) ∧ j ≤ 5 ∧ ∃ X, Hid (X ++ (rl.drop j).flatMap (beN 8) = T) ∧ Hid (Ste w wr ps X r) ∧ Hid (Box wr rbf (kus rl)) ∧ Hid (rbf ∉ blk r)) (fun _ i _ => match i with | .int _ z => ((5 : Int) - z).toNat | _ => 0)
                    case atStart => exact ⟨0, rfl, by omega, X, HXi, HSf, HBf, HFf⟩
                    case round =>
                      obtain ⟨j, rfl, hj, X1, HX1, HS1, HBx, HFx⟩ := hrel
                      clear HXi HSf HBf HFf
                      by_cases hlt2 : j < 5
                      · have hlt2' : (j : Int) < 5 := by omega
                        have hkl : j < rl.length := by rw [HLr.out]; exact hlt2
                        have hd : rl.drop j = rl[j] :: rl.drop (j + 1) := List.drop_eq_getElem_cons hkl
                        rw [hd, List.flatMap_cons, ← List.append_assoc] at HX1
                        have c0 := HBx.out.cell j (.int .u64 rl[j]) (by simp [kus, hkl])
                        have cl := HBx.out.lt
                        have hXl2 : X1.length ≤ 1000000 := by have h1 := HTl.out; rw [← HX1.out] at h1; simp only [List.length_append] at h1; omega
                        clear hd
                        generalize rl[j] = x at *
                        have HN := chid (HS1.out.num 8 (by omega) x x rfl hXl2)
                        go_wp2_with fail
                        refine Calls.mono HN.out ?_
                        rintro e wq ⟨vq, rfl, h2⟩
                        have HS2 := chid (HS1.out.step h2)
                        have HB2 := chid (h2.box HBx.out HFx.out)
                        clear h2 HN c0 cl
                        go_wp2_with fail
                        go_roundw
                        case rel => exact ⟨j + 1, by go_num, by omega, _, HX1, HS2, chid HB2.out.1, chid HB2.out.2⟩
                        case measure => simp; omega
                      · have hlt2' : ¬ (j : Int) < 5 := by omega
                        have hj5 : j = 5 := by omega
                        subst hj5
                        have e : X1 = T := by
                          have := HX1.out
                          rw [List.drop_eq_nil_of_le (by rw [HLr.out]; omega)] at this
                          simpa using this
                        subst e
                        go_wp2_with fail
                        go_roundw
                        case rel => exact ⟨k + 1, by go_num, by omega, _, HX, HS1⟩
                        case measure => simp; omega
                  · have hlt' : ¬ (k : Int) < (g.crons.length : Int) := by omega
                    obtain rfl : k = g.crons.length := by omega
                    have e : X = (enH g ++ enL (beN 8) g.K ++ enL enW g.wins) ++ enL enC g.crons := by
                      rw [← hZcr.out, ← HX.out, List.drop_length]
                      simp
                    subst e
                    clear HX HLm hZcr HZlcr
                    have y11 := HS.out.box.cell 11 _ (HP.out.2.2.2.2.2.2.2.2.2.2.2)
                    have yl := HS.out.box.lt
                    have HN := chid (HS.out.num 4 (by omega) (IntKind.u64.wrap ((g.C.length : Nat))) ((g.C.length : Nat)) (be_u64 (by omega) _) (Nat.le_trans (pl4 HTo.out) (by decide)))
                    go_wp2_with fail
                    refine Calls.mono HN.out ?_
                    rintro e wn13 ⟨vn13, rfl, h2⟩
                    have HS13 := chid (HS.out.step h2)
                    clear h2 HN
                    clear y11 y8 yl
                    go_wp2_with fail
                    obtain ⟨ZC, hZC⟩ : ∃ Z, Hid (Z = (enH g ++ enL (beN 8) g.K ++ enL enW g.wins ++ enL enC g.crons) ++ enL enI g.C) := ⟨_, chid rfl⟩
                    have HZlC : Hid (ZC.length ≤ 400000) := chid (by rw [hZC.out]; exact pl5 HTo.out)
                    have HX0 : Hid ((enH g ++ enL (beN 8) g.K ++ enL enW g.wins ++ enL enC g.crons) ++ beN 4 (g.C.length : Nat) ++ (g.C.drop 0).flatMap enI = ZC) := chid (by rw [hZC.out]; exact enl_drop _ _ _)
                    have HLm : Hid (g.C.length ≤ 20000) := chid (by have := HTo.out.k; have := HTo.out.wi; have := HTo.out.cr; have := HTo.out.c; omega)
                    go_loopw [4, 14] (fun r i wr => ∃ (k : Nat), i = .int .i64 (k : Nat) ∧ k ≤ g.C.length ∧ ∃ X, Hid (X ++ (g.C.drop k).flatMap enI = ZC) ∧ Hid (Ste w wr ps X r)) (fun _ i _ => match i with | .int _ z => ((g.C.length : Int) - z).toNat | _ => 0)
                    case atStart => exact ⟨0, rfl, Nat.zero_le _, _, HX0, HS13⟩
                    case round =>
                      obtain ⟨k, rfl, hk, X, HX, HS⟩ := hrel
                      clear HX0
                      have y11 := HS.out.box.cell 11 _ (HP.out.2.2.2.2.2.2.2.2.2.2.2)
                      have yl := HS.out.box.lt
                      by_cases hlt : k < g.C.length
                      · have hlt' : (k : Int) < (g.C.length : Int) := by omega
                        have hwk : IntKind.i64.wrap ((k : Int) + 1) = (k : Int) + 1 := by have := HLm.out; rw [IntKind.wrap_i64]; omega
                        have hd : g.C.drop k = g.C.getD k in0 :: g.C.drop (k + 1) := by rw [show g.C.getD k in0 = g.C[k] by simp [List.getD, hlt]]; exact List.drop_eq_getElem_cons hlt
                        rw [hd, List.flatMap_cons, ← List.append_assoc] at HX
                        have hXl : X.length ≤ 1000000 := by have h1 := HZlC.out; rw [← HX.out] at h1; simp only [List.length_append] at h1; omega
                        have hXw : X.length ≤ 900000 := by have h1 := HZlC.out; rw [← HX.out] at h1; simp only [List.length_append] at h1; omega
                        obtain ⟨b, off, cap, hv, -, -, hbl, hx⟩ := RowsK.open HR.out.c (show 0 < g.C.length by omega)
                        simp only [Value.slice.injEq] at hv
                        obtain ⟨rfl, -, rfl⟩ := hv
                        have z0 := keepc HS.out.bel (hx k hlt 0 _ rfl)
                        have z1 := keepc HS.out.bel (hx k hlt 1 _ rfl)
                        rw [show off + k * 2 + 0 = off + k * 2 by omega] at z0
                        have bl := Nat.lt_of_lt_of_le hbl HS.out.bel.size
                        have hx2 : ∀ j x, (inL (g.C.getD k in0))[j]? = some x → w.cell? ⟨b, off + k * 2 + j, none⟩ = some x := hx k hlt
                        have hbl2 := hbl
                        clear hd hx hbl
                        generalize g.C.getD k in0 = y at *
                        have HN := chid (HS.out.num 1 (by omega) (IntKind.u64.wrap (y.1)) (y.1) (be_u64 (by omega) _) (hXl))
                        go_wp2_with fail
                        refine Calls.mono HN.out ?_
                        rintro e wn14 ⟨vn14, rfl, h2⟩
                        have HS14 := chid (HS.out.step h2)
                        clear h2 HN
                        have z0 := keepc HS14.out.bel (hx2 0 _ rfl)
                        have z1 := keepc HS14.out.bel (hx2 1 _ rfl)
                        rw [show off + k * 2 + 0 = off + k * 2 by omega] at z0
                        have bl := Nat.lt_of_lt_of_le hbl2 HS14.out.bel.size
                        have y11 := HS14.out.box.cell 11 _ (HP.out.2.2.2.2.2.2.2.2.2.2.2)
                        have yl := HS14.out.box.lt
                        have HN := chid (HS14.out.num 8 (by omega) (IntKind.u64.wrap (y.2)) (y.2) (be_u64 (by omega) _) (by have := hXw; simp only [List.length_append, beN_len]; omega))
                        go_wp2_with fail
                        refine Calls.mono HN.out ?_
                        rintro e wn15 ⟨vn15, rfl, h2⟩
                        have HS15 := chid (HS14.out.step h2)
                        clear h2 HN
                        have HX2 : Hid (X ++ beN 1 y.1 ++ beN 8 y.2 ++ (g.C.drop (k + 1)).flatMap enI = ZC) := chid (by have := HX.out; simpa only [enI, List.append_assoc] using this)
                        clear y11 yl
                        go_wp2_with fail
                        go_roundw
                        case rel => exact ⟨k + 1, by go_num, by omega, _, HX2, HS15⟩
                        case measure => simp; omega
                      · have hlt' : ¬ (k : Int) < (g.C.length : Int) := by omega
                        obtain rfl : k = g.C.length := by omega
                        have e : X = (enH g ++ enL (beN 8) g.K ++ enL enW g.wins ++ enL enC g.crons) ++ enL enI g.C := by
                          rw [← hZC.out, ← HX.out, List.drop_length]
                          simp
                        subst e
                        clear HX HLm hZC HZlC
                        go_wp2_with fail
                        exact HE.out _ _ HS.out.bel (own_low _ HS.out.row (Nat.le_succ _))
end Go.Proofs.YtgfimpphpadmgaaDoor
