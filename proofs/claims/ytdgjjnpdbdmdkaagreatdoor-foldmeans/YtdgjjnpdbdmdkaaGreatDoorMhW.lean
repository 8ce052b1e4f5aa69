import Derived.Test.YtdgjjnpdbdmdkaaGreatDoorMgP
import Derived.Test.YtdgjjnpdbdmdkaaGreatDoorMjB
import Derived.Deep.AppendLies
import Derived.Deep.RegionLaw
import Derived.Lib.LazyBuf
import Derived.Test.YtdgjjnpdbdmdkaaGreatDoorMgK
import Derived.Test.YtdgjjnpdbdmdkaaGreatDoorMgD
namespace Go.Proofs.YtdgjjnpdbdmdkaaGreatDoor
open Go.RowKit
def a1O (cs:Nat->List Value)(n:Nat):List Value:=((List.range n).map cs).flatten
theorem a5E (cs:Nat->List Value)(n:Nat):a1O cs (n+1)=a1O cs n++cs n:=by simp[a1O,List.range_succ]
theorem a1U {cs:Nat->List Value}{k:Nat}(h:∀ i,(cs i).length=k)(n:Nat):(a1O cs n).length=n*k:=by
 induction n with
 | zero=>simp[a1O]
 | succ n ih=>rw[a5E,List.length_append,ih,h,Nat.succ_mul]
theorem a6l {cs:Nat->List Value}{k:Nat}(h:∀ i,(cs i).length=k)(n:Nat):∀ i j u,i<n->(cs i)[j]? = some u->(a1O cs n)[i*k+j]? = some u:=by
 induction n with
 | zero=>intro i j u hi;omega
 | succ n ih=>
   intro i j u hi hu
   have hj:j<k:=by have:=(List.getElem?_eq_some_iff.1 hu).1;rw[h] at this;exact this
   rw[a5E]
   by_cases e:i<n
   ·have hb:i*k+j<n*k:=by
     have:(i+1)*k<=n*k:=Nat.mul_le_mul_right k e
     rw[Nat.succ_mul] at this
     omega
    rw[List.getElem?_append_left (by rw[a1U h];exact hb)]
    exact ih i j u e hu
   ·have e2:i=n:=by omega
    subst e2
    rw[List.getElem?_append_right (by rw[a1U h];omega),a1U h]
    rw[show i*k+j-i*k=j by omega]
    exact hu
theorem a4G {cs:Nat->List Value}{k:Nat}(hk:0<k)(h:∀ i,(cs i).length=k)(n:Nat)(q:Nat)(u:Value)(hu:(a1O cs n)[q]? = some u):q/k<n/\(cs (q/k))[q%k]? = some u:=by
 have hq:q<n*k:=by have:=(List.getElem?_eq_some_iff.1 hu).1;rw[a1U h] at this;exact this
 have h1:q/k<n:=Nat.div_lt_of_lt_mul (by rw[Nat.mul_comm];exact hq)
 refine⟨h1,?_⟩
 have h2:q%k<(cs (q/k)).length:=by rw[h];exact Nat.mod_lt _ hk
 have h3:=a6l h n (q/k) (q%k) _ h1 (List.getElem?_eq_getElem h2)
 have h4:q/k*k+q%k=q:=by rw[Nat.mul_comm];exact Nat.div_add_mod q k
 rw[h4,hu] at h3
 rw[List.getElem?_eq_getElem h2]
 exact h3.symm
theorem a5D {w:World}{n k:Nat}{cs:Nat->List Value}(hk:0<k)(hl:∀ i,(cs i).length=k){b off:Nat}(hx:∀ i,i<n->∀ j x,(cs i)[j]? = some x->w.cell? ⟨b,off+i*k+j,none⟩=some x):∀ j u,(a1O cs n)[j]? = some u->w.cell? ((⟨b,off,none⟩:Addr).add j)=some u:=by
 intro j u hu
 obtain⟨h1,h2⟩:=a4G hk hl n j u hu
 have:=hx _ h1 _ _ h2
 rw[Nat.add_assoc,show j/k*k+j%k=j by rw[Nat.mul_comm];exact Nat.div_add_mod j k] at this
 have hadd:(⟨b,off,none⟩:Addr).add j=⟨b,off+j,none⟩:=by unfold Addr.add;split<;>simp_all
 rw[hadd]
 exact this
theorem a1N {w:World}{B n k:Nat}{e:TypeId}{v:Value}{cs:Nat->List Value}(hl:∀ i,(cs i).length=k)(h:w.ownsRow B e k v n (a1O cs n)):a1K w v n k cs:=by
 obtain⟨h1,⟨h2,h3⟩ | ⟨g,cap,cur,h2,h3,h4,h5,h6,h7,h8⟩⟩:=h
 ·exact⟨none,0,by rw[h2,h3],by omega,by omega,.inl h3⟩
 ·have BX:Box w g (a1O cs n):=(Box.ofBlock h4).part (by rw[<-h8];exact List.take_prefix _ _)
  refine⟨_,cap,h2,h5,h6,.inr ⟨g,0,rfl,BX.lt,fun i hi j x hx=>?_⟩⟩
  have:=BX.cell (i*k+j) x (a6l hl n i j x hi hx)
  simpa using this
theorem b5I:(Tryz.prog.info? 60).map (fun i=>(i.zero.map (fun z=>z.cells.size),i.size,i.bytes))=some (some 4,4,32):=by kernel_rfl
theorem b3E:∃ i z,Tryz.prog.info? 60=some i/\i.zero=some z/\z.cells.size=4/\i.size=4/\i.bytes=32:=by
 have h:=b5I
 cases hi:Tryz.prog.info? 60 with
 | none=>rw[hi] at h;cases h
 | some i=>
   rw[hi] at h
   simp only[Option.map_some,Option.some.injEq,Prod.mk.injEq] at h
   obtain⟨z,hz,h0⟩:=Option.map_eq_some_iff.1 h.1
   exact⟨i,z,rfl,hz,h0,h.2.1,h.2.2⟩
set_option maxHeartbeats 2000000 in
set_option maxRecDepth 20000 in
theorem b1u (l:List WiP)(hl:l.length*32<=140737488355328)(v:Value)(w:World)(hs:b7M w v l):Calls Tryz.prog 39 #[v] w fun e w'=>∃ u,e=.returned u/\w'.ownsRow w.heap.size 60 4 u l.length (a1O (fun i=>wiL (l.getD i wi0)) l.length)/\Below w.heap.size w w':=by
 obtain⟨ad,cap,rfl,hle,hcap,hp⟩:=hs
 obtain⟨i0,z,hi,hz0,hzs,hz1,hz2⟩:=b3E
 have hcs:Hid (∀ i,(wiL (l.getD i wi0)).length=4):=fun i=>rfl
 obtain⟨cs,hcsd⟩:∃ cs:Nat->List Value,Hid (cs=fun i=>wiL (l.getD i wi0)):=⟨_,rfl⟩
 have hone:Hid (∀ u,u∈a1O cs l.length->u.oneCell'=true):=by
  show ∀ u,_
  intro u hu
  obtain⟨q,hq⟩:=List.mem_iff_getElem?.1 hu
  obtain⟨-,h2⟩:=a4G (k:=4) (by decide) (by rw[hcsd.out];exact hcs.out) _ _ _ hq
  rw[hcsd.out] at h2
  have h3:=List.mem_of_getElem? h2
  simp at h3
  rcases h3 with rfl | rfl | rfl | rfl<;>rfl
 have hcs':Hid (∀ i,(cs i).length=4):=by rw[hcsd.out];exact hcs
 simp only at hp
 rw[<-hcsd.out]
 have hp':l.length=0\/∃ b off,ad=some ⟨b,off,none⟩/\b<w.heap.size/\∀ i,i<l.length->∀ j x,(cs i)[j]? = some x->w.cell? ⟨b,off+i*4+j,none⟩=some x:=by rw[hcsd.out];exact hp
 clear hp hcs hcsd
 generalize l.length=N at *
 have hnil:=fun W:World=>run_eql_slice_nil (P:=Tryz.prog) W 25 60 ad N cap Tryz.underlying25
 cases ad with
 | none=>
   have hn0:N=0:=by
    rcases hp' with h | ⟨b,off,e,-⟩
    ·exact h
    ·cases e
   subst hn0
   go_enter Tryz.func39,Tryz.ntmps39
   go_wp2_with fail
   go_ret
   exact⟨.slice none 0 0,rfl,World.ownsRow_nil _ _ _ _,Below.refl _ _⟩
 | some a=>
   have HC:Hid (∀ W,Below w.heap.size w W->∀ j u,(a1O cs N)[j]? = some u->W.cell? (a.add j)=some u):=by
    show ∀ W,_
    intro W hW j u hu
    rcases hp' with h | ⟨b,off,e,hb,hx⟩
    ·subst h;simp[a1O] at hu
    ·cases e
     exact a5D (by decide) hcs'.out (fun i hi j x h=>a0d hW (hx i hi j x h)) j u hu
   have ba:=(Below.refl w.heap.size w).alloc (Nat.le_refl _) (.cells #[] 60)
   have BA:=a0a ba
   have hO:=a0a (World.ownsRow_lit (base:=w.heap.size) (e:=60) (size:=4) w #[] 0 (Nat.le_refl _) (by unfold maxLen;omega) rfl)
   clear hp' ba
   go_enter Tryz.func39,Tryz.ntmps39
   go_wp2_with (at_builtin;refine wpList_append_own_wide _ rfl _ _ 25 rfl w.heap.size 60 i0 z 4 32 Tryz.underlying25 hi hz0 hz1 hz2 hzs (by decide) _ 0 [] rfl hO.out a N cap (a1O cs N) rfl (by rw[a1U hcs'.out]) (HC.out _ BA.out) hone.out (by unfold maxLen;omega) (by omega) (by simp) ?_;intro v1 w1 ho1 hg1 _)
   have B1:=a2m BA.out hO.out hg1 (by simp)
   rw[Nat.zero_add,List.nil_append] at ho1
   go_wp2_with fail
   go_ret
   exact⟨_,rfl,ho1,B1⟩
theorem b5J:(Tryz.prog.info? 63).map (fun i=>(i.zero.map (fun z=>z.cells.size),i.size,i.bytes))=some (some 5,5,40):=by kernel_rfl
theorem b3F:∃ i z,Tryz.prog.info? 63=some i/\i.zero=some z/\z.cells.size=5/\i.size=5/\i.bytes=40:=by
 have h:=b5J
 cases hi:Tryz.prog.info? 63 with
 | none=>rw[hi] at h;cases h
 | some i=>
   rw[hi] at h
   simp only[Option.map_some,Option.some.injEq,Prod.mk.injEq] at h
   obtain⟨z,hz,h0⟩:=Option.map_eq_some_iff.1 h.1
   exact⟨i,z,rfl,hz,h0,h.2.1,h.2.2⟩
set_option maxHeartbeats 2000000 in
set_option maxRecDepth 20000 in
theorem b1v (l:List Cr)(hl:l.length*40<=140737488355328)(v:Value)(w:World)(hs:b6L w v l):Calls Tryz.prog 40 #[v] w fun e w'=>∃ u,e=.returned u/\w'.ownsRow w.heap.size 63 5 u l.length (a1O (fun i=>crL (l.getD i cr0)) l.length)/\Below w.heap.size w w':=by
 obtain⟨ad,cap,rfl,hle,hcap,hp⟩:=hs
 obtain⟨i0,z,hi,hz0,hzs,hz1,hz2⟩:=b3F
 have hcs:Hid (∀ i,(crL (l.getD i cr0)).length=5):=fun i=>rfl
 obtain⟨cs,hcsd⟩:∃ cs:Nat->List Value,Hid (cs=fun i=>crL (l.getD i cr0)):=⟨_,rfl⟩
 have hone:Hid (∀ u,u∈a1O cs l.length->u.oneCell'=true):=by
  show ∀ u,_
  intro u hu
  obtain⟨q,hq⟩:=List.mem_iff_getElem?.1 hu
  obtain⟨-,h2⟩:=a4G (k:=5) (by decide) (by rw[hcsd.out];exact hcs.out) _ _ _ hq
  rw[hcsd.out] at h2
  have h3:=List.mem_of_getElem? h2
  simp at h3
  rcases h3 with rfl | rfl | rfl | rfl | rfl<;>rfl
 have hcs':Hid (∀ i,(cs i).length=5):=by rw[hcsd.out];exact hcs
 simp only at hp
 rw[<-hcsd.out]
 have hp':l.length=0\/∃ b off,ad=some ⟨b,off,none⟩/\b<w.heap.size/\∀ i,i<l.length->∀ j x,(cs i)[j]? = some x->w.cell? ⟨b,off+i*5+j,none⟩=some x:=by rw[hcsd.out];exact hp
 clear hp hcs hcsd
 generalize l.length=N at *
 have hnil:=fun W:World=>run_eql_slice_nil (P:=Tryz.prog) W 26 63 ad N cap Tryz.underlying26
 cases ad with
 | none=>
   have hn0:N=0:=by
    rcases hp' with h | ⟨b,off,e,-⟩
    ·exact h
    ·cases e
   subst hn0
   go_enter Tryz.func40,Tryz.ntmps40
   go_wp2_with fail
   go_ret
   exact⟨.slice none 0 0,rfl,World.ownsRow_nil _ _ _ _,Below.refl _ _⟩
 | some a=>
   have HC:Hid (∀ W,Below w.heap.size w W->∀ j u,(a1O cs N)[j]? = some u->W.cell? (a.add j)=some u):=by
    show ∀ W,_
    intro W hW j u hu
    rcases hp' with h | ⟨b,off,e,hb,hx⟩
    ·subst h;simp[a1O] at hu
    ·cases e
     exact a5D (by decide) hcs'.out (fun i hi j x h=>a0d hW (hx i hi j x h)) j u hu
   have ba:=(Below.refl w.heap.size w).alloc (Nat.le_refl _) (.cells #[] 63)
   have BA:=a0a ba
   have hO:=a0a (World.ownsRow_lit (base:=w.heap.size) (e:=63) (size:=5) w #[] 0 (Nat.le_refl _) (by unfold maxLen;omega) rfl)
   clear hp' ba
   go_enter Tryz.func40,Tryz.ntmps40
   go_wp2_with (at_builtin;refine wpList_append_own_wide _ rfl _ _ 26 rfl w.heap.size 63 i0 z 5 40 Tryz.underlying26 hi hz0 hz1 hz2 hzs (by decide) _ 0 [] rfl hO.out a N cap (a1O cs N) rfl (by rw[a1U hcs'.out]) (HC.out _ BA.out) hone.out (by unfold maxLen;omega) (by omega) (by simp) ?_;intro v1 w1 ho1 hg1 _)
   have B1:=a2m BA.out hO.out hg1 (by simp)
   rw[Nat.zero_add,List.nil_append] at ho1
   go_wp2_with fail
   go_ret
   exact⟨_,rfl,ho1,B1⟩
theorem b3C:(Tryz.prog.info? 9).map (fun i=>(i.zero,i.size,i.bytes))=some (some (.string ⟨#[]⟩),1,16):=by kernel_rfl
theorem b0M:∃ i,Tryz.prog.info? 9=some i/\i.zero=some (.string ⟨#[]⟩)/\i.size=1/\i.bytes=16:=by
 have h:=b3C
 cases hi:Tryz.prog.info? 9 with
 | none=>rw[hi] at h;cases h
 | some i=>
   rw[hi] at h
   simp only[Option.map_some,Option.some.injEq,Prod.mk.injEq] at h
   exact⟨i,rfl,h.1,h.2.1,h.2.2⟩
theorem b0q {w w':World}{B:Nat}{e:TypeId}{size n:Nat}{v:Value}{xs:List Value}(h:w.ownsRow B e size v n xs)(hb:Below w.heap.size w w'):w'.ownsRow B e size v n xs:=by
 obtain⟨h1,h2 | ⟨g,cap,cur,h2,h3,h4,h5⟩⟩:=h
 ·exact⟨h1,.inl h2⟩
 ·exact⟨h1,.inr ⟨g,cap,cur,h2,h3,(hb.block g (by rcases Nat.lt_or_ge g w.heap.size with h | h;exact h;rw[Array.getElem?_eq_none h] at h4;cases h4)).trans h4,h5⟩⟩
theorem a6g {xs R:List Value}{k:Nat}{u:Value}(h:xs.take k=R.take k)(hk:k<xs.length)(hu:R[k]? = some u):(xs.set k u).take (k+1)=R.take (k+1):=by
 apply List.ext_getElem?
 intro i
 rcases Nat.lt_trichotomy i k with hi | hi | hi
 ·have:=congrArg (fun l=>l[i]?) h
  simp only[List.getElem?_take,hi,if_true] at this
  simp only[List.getElem?_take,show i<k+1 by omega,if_true]
  rw[List.getElem?_set_ne (by omega)]
  exact this
 ·subst hi
  simp only[List.getElem?_take,show i<i+1 by omega,if_true]
  rw[List.getElem?_set_self hk,hu]
 ·simp only[List.getElem?_take,show ¬ i<k+1 by omega,if_false]
set_option maxHeartbeats 4000000 in
set_option maxRecDepth 20000 in
theorem b6d (hcl:∀ (s:ByteArray) (W:World),s.size<=140737488355328->Calls Tryz.prog 38 #[.string s] W fun e w'=>e=.returned (.string s)/\Below W.heap.size W w')(ps:List ByteArray)(hl:ps.length*16<=140737488355328)(ih:∀ x,x∈ps->x.size<=140737488355328)(v:Value)(w:World)(hs:b4X w v ps):
 Calls Tryz.prog 37 #[v,.func (.func 38) #[] #[]] w fun e w'=>∃ u,e=.returned u/\w'.ownsRow w.heap.size 9 1 u ps.length (a1O (fun i=>[.string (ps.getD i default)]) ps.length)/\Below w.heap.size w w':=by
 have HCl:=a0a hcl
 clear hcl
 obtain⟨ad,cap,rfl,hle,hcap,hp⟩:=hs
 obtain⟨N,hN⟩:∃ N,Hid (N=ps.length):=⟨_,rfl⟩
 rw[<-hN.out] at hl hle hp ⊢
 have HP:=a0a hp
 obtain⟨R,hR⟩:∃ R,Hid (R=a1O (fun i=>[Value.string (ps.getD i default)]) N):=⟨_,rfl⟩
 have hRl:Hid (R.length=N):=by rw[hR.out];exact a0a ((a1U (k:=1) (fun i=>rfl) N).trans (by omega))
 rw[<-hR.out]
 obtain⟨i0,hi,hz0,hz1,hz2⟩:=b0M
 have hnil:=fun W:World=>run_eql_slice_nil (P:=Tryz.prog) W 22 9 ad N cap Tryz.underlying22
 cases ad with
 | none=>
   have hn0:N=0:=by
    rcases hp with h | ⟨b,off,e,-⟩
    ·exact h
    ·cases e
   subst hn0
   go_enter Tryz.func37,Tryz.ntmps37
   go_wp2_with fail
   go_ret
   have hR0:R=[]:=List.eq_nil_of_length_eq_zero hRl.out
   exact⟨.slice none 0 0,rfl,by rw[hR0];exact World.ownsRow_nil _ _ _ _,Below.refl _ _⟩
 | some a=>
   go_enter Tryz.func37,Tryz.ntmps37
   go_wp2_with (at_make;refine wpList_make_full _ rfl _ _ 22 rfl w.heap.size 9 i0 (.string ⟨#[]⟩) 1 Tryz.underlying22 hi hz0 hz1 _ _ _ _ N rfl rfl rfl rfl (by rw[hz2];omega) (by unfold maxLen;omega) (Nat.le_refl _) ?_;intro w3 hown hgrow;have hb3:Below w.heap.size w w3:=(Below.refl _ _).grown hgrow (Nat.le_refl _) (by simp);have HB3:=a0a hb3;have HO:=a0a hown;clear hb3 hown hgrow)
   obtain⟨g,hg⟩:∃ g,Hid (g=w.heap.size):=⟨_,rfl⟩
   have HO2:Hid (∃ xs:List Value,xs.length=N/\w3.ownsRow w.heap.size 9 1 (.slice (some ⟨g,0,none⟩) N N) N xs):=by
    rw[hg.out]
    exact a0a ⟨_,by have:=HO.out.1;omega,HO.out⟩
   obtain⟨xs0,hx0,ho0⟩:=HO2.out
   have HO0:=a0a ho0
   have HX0:=a0a hx0
   have HIh:=a0a ih
   rw[<-hg.out]
   clear HO HO2 ho0 hx0 hi hz0 hz1 hz2 ih hnil hp
   go_loopw [15] (fun i wr=>∃ (k:Nat) (xs:List Value),i=.int .i64 (k:Nat)/\k<=N/\Hid (xs.length=N)/\Hid (xs.take k=R.take k)/\Hid (wr.ownsRow w.heap.size 9 1 (.slice (some ⟨g,0,none⟩) N N) N xs)/\Hid (Below w.heap.size w wr)) (fun i _=>match i with | .int _ p=>((N:Int)-p).toNat | _=>0)
   case atStart=>exact⟨0,xs0,rfl,by omega,HX0,a0a rfl,HO0,HB3⟩
   case round=>
    obtain⟨k,xs,rfl,hk,HXl,HXs,HOw,HBr⟩:=hrel
    by_cases hlt:k<N
    ·have hlt':(k:Int)<(N:Int):=by omega
     have hl1:k<ps.length:=by rw[<-hN.out];exact hlt
     obtain⟨b,off,e,hbl,hx⟩:∃ b off,some a=some ⟨b,off,none⟩/\b<w.heap.size/\∀ i,i<N->∀ j x,([Value.string (ps.getD i default)])[j]? = some x->w.cell? ⟨b,off+i*1+j,none⟩=some x:=by
      rcases HP.out with h | h
      ·omega
      ·exact h
     cases e
     have y0:=a0d HBr.out (hx k hlt 0 _ rfl)
     rw[Nat.mul_one,Nat.add_zero] at y0
     have hRk:Hid (R[k]? = some (.string (ps.getD k default))):=by
      rw[hR.out]
      have:=a6l (k:=1) (cs:=fun i=>[Value.string (ps.getD i default)]) (fun i=>rfl) N k 0 _ hlt rfl
      rw[Nat.mul_one,Nat.add_zero] at this
      exact a0a this
     have hsz:Hid ((ps.getD k default).size<=140737488355328):=HIh.out _ (by simp[List.getD,hl1])
     have lbr:b<wr.heap.size:=World.block_lt_of_cell? wr _ y0
     generalize ps.getD k default=s at *
     clear hx
     go_wp2_with fail
     refine Calls.mono (HCl.out s _ hsz.out) ?_
     rintro e w4 ⟨rfl,b4⟩
     have O4:=a0a (b0q HOw.out b4)
     have B4:=kb HBr b4
     have f0:=O4.out.frozenAt k
     have c0:=O4.out.cellAt k (by omega)
     have hgl:=(O4.out.lt g rfl).2
     rw[List.getElem?_eq_getElem (by have:=HXl.out;omega)] at c0
     have St:=a0a (O4.out.stored k (.string s))
     have HT:=a0a (a6g HXs.out (by have:=HXl.out;omega) hRk.out)
     go_wp2_with fail
     go_roundw
     ·exact⟨k+1,xs.set k (.string s),by simp,by omega,a0a (by rw[List.length_set];exact HXl.out),HT,St.out.1,B4.out.setCell (by show w.heap.size<=g;have:=hg.out;omega) _⟩
     ·simp;omega
    ·have hkN:k=N:=by omega
     subst hkN
     have hE:Hid (xs=R):=by
      have h1:=HXs.out
      rw[List.take_of_length_le (by have:=HXl.out;omega),List.take_of_length_le (by have:=hRl.out;omega)] at h1
      exact a0a h1
     go_wp2_with fail
     go_ret
     exact⟨_,rfl,by rw[<-hE.out];exact HOw.out,HBr.out⟩
end Go.Proofs.YtdgjjnpdbdmdkaaGreatDoor
