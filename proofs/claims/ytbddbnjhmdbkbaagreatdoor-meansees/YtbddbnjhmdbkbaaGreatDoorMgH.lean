import Derived.KernelRfl
import Derived.Test.YtbddbnjhmdbkbaaGreatDoorChecked
import Derived.WalkKit
import Derived.WalkSpells
import Derived.Below
import Derived.BigQuiet
import Derived.Deep.RegionHeld3
import Derived.Laws.Bits64b
import Derived.Deep.OwnRows
import Derived.Deep.QuietTactic
section
namespace Go.Proofs.YtbddbnjhmdbkbaaGreatDoor
def val:List Int->Int
 | []=>0
 | d::r=>d+65536*val r
def Dgs (l:List Int):Prop:=∀ d∈l,0<=d/\d<65536
def b2w (l:List Int):Prop:=∀ k,l.length=k+1->l.getD k 0≠0
def pw (k:Nat):Int:=65536^k
theorem a2t (k:Nat):pw (k+1)=65536*pw k:=by unfold pw;rw[Int.pow_succ,Int.mul_comm]
theorem a8t (k:Nat):0<pw k:=Int.pow_pos (by decide)
theorem b9e:pw 0=1:=rfl
theorem a5m {a b:Nat}(h:a<=b):pw a<=pw b:=by
 induction h with
 | refl=>exact Int.le_refl _
 | @step m _ ih=>have:=a2t m;have:=a8t m;have e:pw (m+1)=pw (Nat.succ m):=rfl;omega
theorem pw4:pw 4=18446744073709551616:=by decide
theorem b8F:val []=0:=rfl
theorem b1o (a b:List Int):val (a++b)=val a+pw a.length*val b:=by
 induction a with
 | nil=>simp[val,pw]
 | cons d r ih=>
   show d+65536*val (r++b)=d+65536*val r+pw (r.length+1)*val b
   rw[ih,a2t,Int.mul_add,Int.mul_assoc,Int.add_assoc]
theorem a4Q (l:List Int)(d:Int):val (l++[d])=val l+pw l.length*d:=by
 rw[b1o];simp[val]
theorem a2x (l:List Int)(k:Nat)(h:k<l.length):l.getD k 0=l[k]:=by simp[List.getD,h]
theorem a1F (l:List Int)(k:Nat)(h:l.length<=k):l.getD k 0=0:=by simp[List.getD,h]
theorem b6O (l:List Int)(k:Nat)(h:k<l.length):l.getD k 0∈l:=by
 rw[a2x l k h];exact List.getElem_mem h
theorem a0S (l:List Int)(h:Dgs l)(k:Nat):0<=l.getD k 0/\l.getD k 0<65536:=by
 by_cases hk:k<l.length
 ·exact h _ (b6O l k hk)
 ·rw[a1F l k (by omega)];decide
theorem b2R (l:List Int)(k:Nat)(h:k<l.length):l.take (k+1)=l.take k++[l.getD k 0]:=by
 rw[List.take_succ_eq_append_getElem h,a2x l k h]
theorem a0x (l:List Int)(k:Nat):val (l.take (k+1))=val (l.take k)+pw k*l.getD k 0:=by
 by_cases hk:k<l.length
 ·rw[b2R l k hk,a4Q,List.length_take,Nat.min_eq_left (by omega)]
 ·rw[List.take_of_length_le (by omega),List.take_of_length_le (by omega),a1F l k (by omega),Int.mul_zero,Int.add_zero]
theorem a7H {l:List Int}{d:Int}(h:Dgs l)(d0:0<=d)(d1:d<65536):Dgs (l++[d]):=by
 intro x hx
 rcases List.mem_append.1 hx with hx | hx
 ·exact h x hx
 ·simp at hx;subst hx;exact⟨d0,d1⟩
theorem a3n {l:List Int}(h:Dgs l)(k:Nat):Dgs (l.take k):=fun d hd=>h d (List.mem_of_mem_take hd)
theorem a3x (l:List Int)(h:Dgs l):0<=val l/\val l<pw l.length:=by
 induction l with
 | nil=>exact⟨by decide,by decide⟩
 | cons d r ih=>
   obtain⟨i0,i1⟩:=ih (fun x hx=>h x (List.mem_cons_of_mem _ hx))
   obtain⟨d0,d1⟩:=h d (List.mem_cons_self ..)
   show 0<=d+65536*val r/\d+65536*val r<pw (r.length+1)
   rw[a2t]
   omega
theorem a3w (l:List Int)(m:Nat)(h:∀ j,m<=j->l.getD j 0=0):val (l.take m)=val l:=by
 have key:∀ k,val (l.take (m+k))=val (l.take m):=by
  intro k
  induction k with
  | zero=>rfl
  | succ k ih=>rw[<-Nat.add_assoc,a0x,h _ (by omega),ih,Int.mul_zero,Int.add_zero]
 rw[<-key l.length,List.take_of_length_le (by omega)]
theorem a6L (l:List Int)(h:Dgs l)(ht:b2w l)(k:Nat)(hk:l.length=k+1):pw k<=val l:=by
 have h1:=a0x l k
 rw[List.take_of_length_le (by omega)] at h1
 have h2:=(a3x _ (a3n h k)).1
 have h3:=ht k hk
 have h4:=(a0S l h k).1
 have h5:pw k*1<=pw k*l.getD k 0:=Int.mul_le_mul_of_nonneg_left (by omega) (Int.le_of_lt (a8t k))
 omega
theorem b7Z (l:List Int)(h:Dgs l)(ht:b2w l)(k:Nat)(hv:val l<pw k):l.length<=k:=by
 by_cases hl:l.length=0
 ·omega
 ·have h1:=a6L l h ht (l.length-1) (by omega)
  by_cases hk:l.length<=k
  ·exact hk
  ·have:=a5m (show k<=l.length-1 by omega)
   omega
theorem b5D:b2w []:=fun k hk=>by simp at hk
theorem a9X:Dgs []:=fun d hd=>by simp at hd
theorem a8a {l:List Int}{m:Nat}(h:m=0\/l.getD (m-1) 0≠0)(hm:m<=l.length):b2w (l.take m):=by
 intro k hk
 rw[List.length_take,Nat.min_eq_left hm] at hk
 rcases h with h | h
 ·omega
 ·subst hk
  rw[List.getD_eq_getElem?_getD,List.getElem?_take,if_pos (by omega),<-List.getD_eq_getElem?_getD]
  simpa using h
end Go.Proofs.YtbddbnjhmdbkbaaGreatDoor
end
section
namespace Go.Proofs.YtbddbnjhmdbkbaaGreatDoor
open Go.RowKit
def IsD (w:World)(v:Value)(l:List Int):Prop:=
 ∃ a c,v=.slice a l.length c/\l.length<=1000/\l.length<=c/\c<=maxLen/\(l=[]\/∃ b off,a=some ⟨b,off,none⟩/\b<w.heap.size/\∀ i,i<l.length->w.cell? ⟨b,off+i,none⟩=some (.int .i64 (l.getD i 0)))
theorem IsD.later {w w':World}{v:Value}{l:List Int}(h:IsD w v l)(hb:Below w.heap.size w w'):IsD w' v l:=by
 obtain⟨a,c,e,h1,h2,hc,h3⟩:=h
 refine⟨a,c,e,h1,h2,hc,?_⟩
 rcases h3 with h3 | ⟨b,off,h4,h5,h6⟩
 ·exact .inl h3
 ·exact .inr ⟨b,off,h4,Nat.lt_of_lt_of_le h5 hb.size,fun i hi=>(hb.cell (p:=⟨b,off+i,none⟩) h5).trans (h6 i hi)⟩
theorem b3S (w:World):IsD w (.slice none 0 0) []:=⟨none,0,rfl,by simp,by simp,by unfold maxLen;omega,.inl rfl⟩
theorem a1w {w:World}{base:Nat}{v:Value}{l:List Int}(hl:l.length<=1000)(h:w.ownsRow base 3 1 v l.length (l.map (Value.int .i64))):IsD w v l:=by
 have H:=h
 obtain⟨_,h | ⟨g,cap,cur,e,hg,hh,h1,h2,h3,h4⟩⟩:=h
 ·obtain⟨e,h0⟩:=h
  have:l=[]:=List.length_eq_zero_iff.1 h0
  subst this;subst e
  exact b3S w
 ·subst e
  refine⟨_,cap,rfl,hl,h1,h2,.inr ⟨g,0,rfl,(H.lt g rfl).2,fun i hi=>?_⟩⟩
  rw[Nat.zero_add,H.cellAt i (by omega),List.getElem?_map,List.getElem?_eq_getElem hi,a2x l i hi]
  rfl
theorem IsD.take {w:World}{a:Option Addr}{c:Nat}{l:List Int}(h:IsD w (.slice a l.length c) l)(m:Nat)(hm:m<=l.length):IsD w (.slice a m c) (l.take m):=by
 obtain⟨a',c',e,h1,h2,hc,h3⟩:=h
 cases e
 have hl:(l.take m).length=m:=by rw[List.length_take];omega
 refine⟨a,c,by rw[hl],by omega,by omega,hc,?_⟩
 rcases h3 with h3 | ⟨b,off,h4,h5,h6⟩
 ·exact .inl (by rw[h3];simp)
 ·refine .inr ⟨b,off,h4,h5,fun i hi=>?_⟩
  rw[hl] at hi
  rw[h6 i (by omega)]
  congr 2
  rw[a2x l i (by omega),a2x _ i (by rw[hl];exact hi),List.getElem_take]
set_option maxHeartbeats 400000 in
theorem c1U (v:Value)(l:List Int)(i:Int)(i0:0<=i)(i1:i<=100000)(w:World)(h:IsD w v l):
 Calls Tryz.prog 281 #[v,.int .i64 i] w fun e w'=>e=.returned (.int .i64 (l.getD i.toNat 0))/\w'=w:=by
 obtain⟨a,c,rfl,h1,h2,hc,h3⟩:=h
 obtain⟨k,rfl⟩:=Int.eq_ofNat_of_zero_le i0
 rw[Int.toNat_natCast]
 by_cases hk:k<l.length
 ·rcases h3 with h3 | ⟨b,off,rfl,h5,h6⟩
  ·subst h3;simp at hk
  ·have hcell:=h6 k hk
   have hk':(k:Int)<(l.length:Int):=by omega
   generalize l.getD k 0=x at *
   generalize l.length=n at *
   clear h6
   go_enter Tryz.func281,Tryz.ntmps281
   go_wp2_with fail
   go_ret
   exact⟨rfl,rfl⟩
 ·rw[a1F l k (by omega)]
  have hk':¬(k:Int)<(l.length:Int):=by omega
  generalize l.length=n at *
  clear h3
  go_enter Tryz.func281,Tryz.ntmps281
  go_wp2_with fail
  go_ret
  exact⟨rfl,rfl⟩
set_option maxHeartbeats 400000 in
theorem a4R (v:Value)(l:List Int)(w:World)(h:IsD w v l)(hd:Dgs l):
 Calls Tryz.prog 255 #[v] w fun e w'=>∃ v' l',e=.returned v'/\IsD w v' l'/\Dgs l'/\b2w l'/\val l'=val l/\w'=w:=by
 have H:=h
 obtain⟨a,c,rfl,h1,h2,hc,h3⟩:=h
 unfold maxLen at hc
 go_enter Tryz.func255,Tryz.ntmps255
 go_wp2_with fail
 go_loop [3] (fun n=>∃ m:Nat,n=.int .i64 m/\m<=l.length/\∀ j,m<=j->l.getD j 0=0) (fun n=>(intOf n).toNat)
 case atStart=>exact⟨l.length,rfl,Nat.le_refl _,fun j hj=>a1F l j hj⟩
 case round=>
  obtain⟨m,rfl,hm,hz⟩:=hrel
  by_cases hm0:m=0
  ·subst hm0
   go_wp2_with fail
   go_ret
   exact⟨_,rfl,_,IsD.take H 0 (Nat.zero_le _),a3n hd 0,a8a (.inl rfl) (Nat.zero_le _),a3w l 0 hz,rfl⟩
  ·rcases h3 with h3 | ⟨b,off,rfl,h5,h6⟩
   ·subst h3;simp at hm;omega
   ·obtain⟨k,rfl⟩:∃ k,m=k+1:=⟨m-1,by omega⟩
    have hcell:=h6 k (by omega)
    have HH:Hid _:=h6
    have HZ:Hid _:=hz
    clear h6 hz
    by_cases hx:l.getD k 0=0
    ·rw[hx] at hcell
     have hk:(k:Int)<(l.length:Int):=by omega
     go_wp2_with fail
     go_round
     case rel=>
      refine⟨k,by go_num,by omega,fun j hj=>?_⟩
      by_cases e:j=k
      ·subst e;exact hx
      ·exact HZ.out j (by omega)
     case measure=>simp[intOf]
    ·have hx':(l.getD k 0==0)=false:=beq_eq_false_iff_ne.2 hx
     have hk:(k:Int)<(l.length:Int):=by omega
     have hkc:(k:Int)+1<=(c:Int):=by omega
     have T:=IsD.take H (k+1) hm
     have T2:b2w (l.take (k+1)):=a8a (.inr hx) hm
     have T3:=a3w l (k+1) HZ.out
     generalize l.getD k 0=x at *
     go_wp2_with fail
     go_ret
     exact⟨_,rfl,_,T,a3n hd _,T2,T3,rfl⟩
theorem a3V:(Tryz.prog.info? 3).map (fun i=>(i.zero,i.size,i.bytes))=some (some (.int .i64 0),1,8):=by kernel_rfl
theorem a2m {w:World}{B:Nat}{v:Value}{ds:List Int}{d:Int}(h:w.ownsRow B 3 1 v (ds.length+1) (ds.map (Value.int .i64)++[.int .i64 d])):w.ownsRow B 3 1 v (ds++[d]).length ((ds++[d]).map (Value.int .i64)):=by
 simpa using h
theorem a0W {B:Nat}{W wr w':World}{v:Value}{n:Nat}{xs:List Value}(hbl:Below B W wr)(hs:B<=wr.heap.size)(o:Obj)(hown:wr.ownsRow B 3 1 v n xs)(hg:(wr.alloc o).grownBy w' v.ownBlock):Below B W w':=
 (hbl.alloc hs o).grown hg (by simp;omega) (fun k hk=>(hown.lt k hk).1)
structure a5V (U x:Int)(ds:List Int):Prop where
 eq:val ds+pw ds.length*x=U
 dg:Dgs ds
 x0:0<=x
 bd:(ds.length=0/\x<18446744073709551616)\/(ds.length=1/\x<281474976710656)\/(ds.length=2/\x<4294967296)\/(ds.length=3/\x<65536)\/(ds.length=4/\x=0)
 tr:x=0->b2w ds
theorem a5V.step {U x:Int}{ds:List Int}(h:a5V U x ds)(hx:0<x):a5V U (x/65536) (ds++[x%65536]):=by
 obtain⟨h1,h2,h3,h4,h5⟩:=h
 refine⟨?_,a7H h2 (by omega) (by omega),by omega,?_,?_⟩
 ·rw[a4Q,List.length_append,List.length_singleton,a2t,Int.mul_comm 65536,Int.mul_assoc,Int.add_assoc,<-Int.mul_add]
  rw[show x%65536+65536*(x/65536)=x by omega]
  exact h1
 ·rw[List.length_append,List.length_singleton];omega
 ·intro hz k hk
  rw[List.length_append,List.length_singleton] at hk
  have e:k=ds.length:=by omega
  subst e
  rw[a2x _ _ (by simp),List.getElem_append_right (Nat.le_refl _)]
  simp
  omega
theorem a5V.len {U x:Int}{ds:List Int}(h:a5V U x ds):ds.length<=4:=by have:=h.bd;omega
theorem a5V.lt {U x:Int}{ds:List Int}(h:a5V U x ds):x<18446744073709551616:=by have:=h.bd;omega
def sg:Bool->Int->Int
 | true,x=>-x
 | false,x=>x
structure a7T (w:World)(neg:Bool)(s:Value)(l:List Int)(n:Int):Prop where
 isD:IsD w s l
 dg:Dgs l
 tr:b2w l
 num:n=sg neg (val l)
theorem a7T.later {w w':World}{neg:Bool}{s:Value}{l:List Int}{n:Int}(h:a7T w neg s l n)(hb:Below w.heap.size w w'):a7T w' neg s l n:=⟨h.isD.later hb,h.dg,h.tr,h.num⟩
def a5c (w:World)(n:Int)(e:Ending)(w':World):Prop:=∃ neg s l,e=.returned (.agg #[.bool neg,s])/\a7T w' neg s l n/\Below w.heap.size w w'
set_option maxHeartbeats 1000000 in
theorem c2a (v:Int)(v0 : -9223372036854775808<=v)(v1:v<9223372036854775808)(w:World):
 Calls Tryz.prog 192 #[.int .i64 v] w (a5c w v):=by
 have hu:∃ U:Int,U=v.natAbs:=⟨_,rfl⟩
 obtain⟨U,hU⟩:=hu
 have U0:0<=U:=by omega
 have U1:U<18446744073709551616:=by omega
 have sI:a5V U U []:=⟨by rw[b8F];show 0+pw 0*U=U;rw[b9e];omega,a9X,U0,.inl ⟨rfl,U1⟩,fun _=>b5D⟩
 obtain⟨i0,hi,hz0,hz1,hz2⟩:=info_parts a3V
 by_cases hn:v<0
 ·have EV:Hid (v = -U):=(by omega:v = -U)
  have e1:IntKind.u64.wrap (-IntKind.u64.wrap v)=U:=by rw[IntKind.wrap_u64,IntKind.wrap_u64];omega
  have E1:Hid _:=e1
  clear e1 hU
  go_enter Tryz.func192,Tryz.ntmps192
  go_wp2_with fail
  rw[E1.out]
  go_loopw [4,5] (fun u s wr=>∃ (x:Int) (ds:List Int),u=.int .u64 x/\wr.ownsRow (w.heap.size+1) 3 1 s ds.length (ds.map (Value.int .i64))/\Below (w.heap.size+1) (w.alloc (.cells #[.bool false,.slice none 0 0] 164)) wr/\a5V U x ds) (fun u _ _=>(intOf u).toNat)
  case atStart=>exact⟨U,[],rfl,World.ownsRow_nil _ _ _ _,Below.refl _ _,sI⟩
  case round=>
   obtain⟨x,ds,rfl,hown,hbl,inv⟩:=hrel
   have x0:=inv.x0
   have x1:=inv.lt
   have hln:=inv.len
   have hsz:w.heap.size+1<=wr.heap.size:=by have:=hbl.size;simpa using this
   by_cases hx:0<x
   ·have nx:=inv.step hx
    go_wp2_with (first
     | (at_builtin;refine wpList_append_own _ rfl _ _ 162 rfl (w.heap.size+1) 3 i0 (.int .i64 0) 1 8 Tryz.underlying162 hi hz0 hz1 hz2 rfl (by decide) _ _ _ rfl (hown.alloc _) ⟨wr.heap.size,0,none⟩ 1 1 [.int .i64 (x%65536)] rfl rfl ?c1 ?c2 ?c3 ?c4 ?c5 ?_))
    case c1=>exact cell_one_new _ _ _
    case c2=>intro u hu;simp at hu;subst hu;rfl
    case c3=>unfold maxLen;omega
    case c4=>omega
    case c5=>simp;omega
    intro v' w1 hown' hgrow _
    have hown2:=a2m hown'
    have hbl2:=a0W hbl hsz _ hown hgrow
    clear hown' hgrow
    go_wp2_with fail
    go_roundw
    case rel=>exact⟨x/65536,ds++[x%65536],rfl,hown2,hbl2,nx⟩
    case measure=>simp[intOf];omega
   ·have hx':x=0:=by omega
    subst hx'
    have eU:=inv.eq
    rw[Int.mul_zero,Int.add_zero] at eU
    have EU:Hid _:=eU
    have dR0:=hbl.cell (p:=⟨w.heap.size,0,none⟩) (by simp)
    have dR1:=hbl.cell (p:=⟨w.heap.size,1,none⟩) (by simp)
    have gR0:=hbl.frozen (p:=⟨w.heap.size,0,none⟩) (by simp)
    have gR1:=hbl.frozen (p:=⟨w.heap.size,1,none⟩) (by simp)
    simp[go_sem] at dR0 dR1 gR0 gR1
    clear eU
    obtain⟨sa,sc,rfl,_⟩:=a1w (by omega) hown
    go_wp2_with fail
    refine bodyPost_ret (v:=.agg #[.bool true,.slice sa ds.length sc]) (by simp[results,Tryz.results192,go_sem,dR0,dR1]) rfl ⟨_,_,ds,rfl,⟨?_,inv.dg,inv.tr rfl,by rw[EV.out,<-EU.out];rfl⟩,?_⟩
    ·refine a1w (by omega) (base:=w.heap.size+1) ?_
     exact ownsRow_setCell_below (ownsRow_setCell_below hown (by simp) _) (by simp) _
    ·exact((((Below.refl _ _).alloc (Nat.le_refl _) _).trans (hbl.mono (by omega))).setCell (by simp) _).setCell (by simp) _
 ·skip
  have e1:v=U:=by omega
  subst e1
  clear hU
  go_enter Tryz.func192,Tryz.ntmps192
  go_wp2_with fail
  go_loopw [4,5] (fun u s wr=>∃ (x:Int) (ds:List Int),u=.int .u64 x/\wr.ownsRow (w.heap.size+1) 3 1 s ds.length (ds.map (Value.int .i64))/\Below (w.heap.size+1) (w.alloc (.cells #[.bool false,.slice none 0 0] 164)) wr/\a5V v x ds) (fun u _ _=>(intOf u).toNat)
  case atStart=>exact⟨v,[],rfl,World.ownsRow_nil _ _ _ _,Below.refl _ _,sI⟩
  case round=>
   obtain⟨x,ds,rfl,hown,hbl,inv⟩:=hrel
   have x0:=inv.x0
   have x1:=inv.lt
   have hln:=inv.len
   have hsz:w.heap.size+1<=wr.heap.size:=by have:=hbl.size;simpa using this
   by_cases hx:0<x
   ·have nx:=inv.step hx
    go_wp2_with (first
     | (at_builtin;refine wpList_append_own _ rfl _ _ 162 rfl (w.heap.size+1) 3 i0 (.int .i64 0) 1 8 Tryz.underlying162 hi hz0 hz1 hz2 rfl (by decide) _ _ _ rfl (hown.alloc _) ⟨wr.heap.size,0,none⟩ 1 1 [.int .i64 (x%65536)] rfl rfl ?c1 ?c2 ?c3 ?c4 ?c5 ?_))
    case c1=>exact cell_one_new _ _ _
    case c2=>intro u hu;simp at hu;subst hu;rfl
    case c3=>unfold maxLen;omega
    case c4=>omega
    case c5=>simp;omega
    intro v' w1 hown' hgrow _
    have hown2:=a2m hown'
    have hbl2:=a0W hbl hsz _ hown hgrow
    clear hown' hgrow
    go_wp2_with fail
    go_roundw
    case rel=>exact⟨x/65536,ds++[x%65536],rfl,hown2,hbl2,nx⟩
    case measure=>simp[intOf];omega
   ·have hx':x=0:=by omega
    subst hx'
    have eU:=inv.eq
    rw[Int.mul_zero,Int.add_zero] at eU
    have EU:Hid _:=eU
    have dR0:=hbl.cell (p:=⟨w.heap.size,0,none⟩) (by simp)
    have dR1:=hbl.cell (p:=⟨w.heap.size,1,none⟩) (by simp)
    have gR0:=hbl.frozen (p:=⟨w.heap.size,0,none⟩) (by simp)
    have gR1:=hbl.frozen (p:=⟨w.heap.size,1,none⟩) (by simp)
    simp[go_sem] at dR0 dR1 gR0 gR1
    clear eU
    obtain⟨sa,sc,rfl,_⟩:=a1w (by omega) hown
    go_wp2_with fail
    refine bodyPost_ret (v:=.agg #[.bool false,.slice sa ds.length sc]) (by simp[results,Tryz.results192,go_sem,dR0,dR1]) rfl ⟨_,_,ds,rfl,⟨?_,inv.dg,inv.tr rfl,EU.out.symm⟩,?_⟩
    ·refine a1w (by omega) (base:=w.heap.size+1) ?_
     exact ownsRow_setCell_below (ownsRow_setCell_below hown (by simp) _) (by simp) _
    ·exact((((Below.refl _ _).alloc (Nat.le_refl _) _).trans (hbl.mono (by omega))).setCell (by simp) _).setCell (by simp) _
theorem a4j (v:Value)(l:List Int)(k:Nat)(hk:k<=100000)(w:World)(h:IsD w v l):
 Calls Tryz.prog 281 #[v,.int .i64 k] w fun e w'=>e=.returned (.int .i64 (l.getD k 0))/\w=w':=by
 have h1:=c1U v l k (by omega) (by omega) w h
 rw[Int.toNat_natCast] at h1
 exact h1.mono fun e w' h2=>⟨h2.1,h2.2.symm⟩
structure a6E (la lb:List Int)(k:Nat)(cy:Int)(ds:List Int):Prop where
 len:ds.length=k
 dg:Dgs ds
 c0:0<=cy
 c1:cy<=1
 bd:k<=max la.length lb.length\/(k=max la.length lb.length+1/\cy=0)
 eq:val ds+pw k*cy=val (la.take k)+val (lb.take k)
theorem a6E.step {la lb:List Int}{k:Nat}{cy:Int}{ds:List Int}(h:a6E la lb k cy ds)(ha:Dgs la)(hb:Dgs lb)(hc:k<max la.length lb.length\/0<cy):
 a6E la lb (k+1) ((la.getD k 0+lb.getD k 0+cy)/65536) (ds++[(la.getD k 0+lb.getD k 0+cy)%65536]):=by
 obtain⟨h1,h2,h3,h4,h5,h6⟩:=h
 have a0:=a0S la ha k
 have b0:=a0S lb hb k
 refine⟨by rw[List.length_append,List.length_singleton,h1],a7H h2 (by omega) (by omega),by omega,by omega,?_,?_⟩
 ·by_cases hk:k<max la.length lb.length
  ·exact .inl hk
  ·have e:k=max la.length lb.length:=by omega
   have ea:=a1F la k (by omega)
   have eb:=a1F lb k (by omega)
   rw[ea,eb]
   exact .inr ⟨by omega,by omega⟩
 ·rw[a4Q,h1,a0x,a0x,a2t]
  generalize la.getD k 0=x at *
  generalize lb.getD k 0=y at *
  have e1:pw k*((x+y+cy)%65536)+65536*pw k*((x+y+cy)/65536)=pw k*(x+y+cy):=by
   rw[Int.mul_comm 65536,Int.mul_assoc,<-Int.mul_add,show (x+y+cy)%65536+65536*((x+y+cy)/65536)=x+y+cy by omega]
  rw[Int.mul_add,Int.mul_add] at e1
  omega
theorem a6E.done {la lb:List Int}{k:Nat}{ds:List Int}(h:a6E la lb k 0 ds)(hk:max la.length lb.length<=k):val ds=val la+val lb:=by
 have e:=h.eq
 rw[List.take_of_length_le (by omega),List.take_of_length_le (by omega),Int.mul_zero,Int.add_zero] at e
 exact e
def b8s (w:World)(n:Int)(e:Ending)(w':World):Prop:=∃ s l,e=.returned s/\IsD w' s l/\Dgs l/\b2w l/\val l=n/\Below w.heap.size w w'
set_option maxHeartbeats 1000000 in
theorem b2T (va vb:Value)(la lb:List Int)(w:World)(ha:IsD w va la)(hb:IsD w vb lb)(da:Dgs la)(db:Dgs lb)(na:la.length<=500)(nb:lb.length<=500):
 Calls Tryz.prog 252 #[va,vb] w (b8s w (val la+val lb)):=by
 obtain⟨i0,hi,hz0,hz1,hz2⟩:=info_parts a3V
 have Ha:=ha
 have Hb:=hb
 obtain⟨aa,ca,rfl,_⟩:=ha
 obtain⟨ab,cb,rfl,_⟩:=hb
 go_enter Tryz.func252,Tryz.ntmps252
 go_wp2_with fail
 go_loopw [5,6,7] (fun d c i wr=>∃ (k:Nat) (cy:Int) (ds:List Int),c=.int .i64 cy/\i=.int .i64 k/\wr.ownsRow w.heap.size 3 1 d ds.length (ds.map (Value.int .i64))/\Below w.heap.size w wr/\a6E la lb k cy ds) (fun _ _ i _=>2000-(intOf i).toNat)
 case atStart=>exact⟨0,0,[],rfl,rfl,World.ownsRow_nil _ _ _ _,Below.refl _ _,⟨rfl,a9X,by decide,by decide,.inl (Nat.zero_le _),rfl⟩⟩
 case round=>
  obtain⟨k,cy,ds,rfl,rfl,hown,hbl,inv⟩:=hrel
  have c0:=inv.c0
  have c1:=inv.c1
  have hk:=inv.bd
  have hk5:k<=501:=by omega
  have hln:ds.length<=501:=by have:=inv.len;omega
  by_cases hab:la.length<lb.length
  ·skip
   by_cases hm:k<lb.length
   ·have HC:k<max la.length lb.length\/0<cy:=.inl (by omega)
    have nx:=inv.step da db HC
    have hIa:=Ha.later hbl
    have hsz:=hbl.size
    have hIb:=Hb.later hbl
    have ga:=a0S la da k
    have gb:=a0S lb db k
    have hka:k<=100000:=by omega
    go_wp2_with fail
    refine(a4j _ la k hka _ hIa).mono ?_
    rintro e w1 ⟨rfl,rfl⟩
    generalize la.getD k 0=x at *
    go_wp2_with fail
    refine(a4j _ lb k hka _ hIb).mono ?_
    rintro e w1 ⟨rfl,rfl⟩
    generalize lb.getD k 0=y at *
    go_wp2_with (first
     | (at_builtin;refine wpList_append_own _ rfl _ _ 162 rfl w.heap.size 3 i0 (.int .i64 0) 1 8 Tryz.underlying162 hi hz0 hz1 hz2 rfl (by decide) _ _ _ rfl (hown.alloc _) ⟨wr.heap.size,0,none⟩ 1 1 [.int .i64 ((x+y+cy)%65536)] rfl rfl ?c1 ?c2 ?c3 ?c4 ?c5 ?_))
    case c1=>exact cell_one_new _ _ _
    case c2=>intro u hu;simp at hu;subst hu;rfl
    case c3=>unfold maxLen;omega
    case c4=>omega
    case c5=>simp;omega
    intro v' w1 hown' hgrow _
    have hown2:=a2m hown'
    have hbl2:=a0W hbl hbl.size _ hown hgrow
    clear hown' hgrow
    go_wp2_with fail
    go_roundw
    case rel=>exact⟨k+1,_,_,rfl,by go_num,hown2,hbl2,nx⟩
    case measure=>simp[intOf];omega
   ·by_cases hc:0<cy
    ·have HC:k<max la.length lb.length\/0<cy:=.inr hc
     have nx:=inv.step da db HC
     have hIa:=Ha.later hbl
     have hsz:=hbl.size
     have hIb:=Hb.later hbl
     have ga:=a0S la da k
     have gb:=a0S lb db k
     have hka:k<=100000:=by omega
     go_wp2_with fail
     refine(a4j _ la k hka _ hIa).mono ?_
     rintro e w1 ⟨rfl,rfl⟩
     generalize la.getD k 0=x at *
     go_wp2_with fail
     refine(a4j _ lb k hka _ hIb).mono ?_
     rintro e w1 ⟨rfl,rfl⟩
     generalize lb.getD k 0=y at *
     go_wp2_with (first
      | (at_builtin;refine wpList_append_own _ rfl _ _ 162 rfl w.heap.size 3 i0 (.int .i64 0) 1 8 Tryz.underlying162 hi hz0 hz1 hz2 rfl (by decide) _ _ _ rfl (hown.alloc _) ⟨wr.heap.size,0,none⟩ 1 1 [.int .i64 ((x+y+cy)%65536)] rfl rfl ?c1 ?c2 ?c3 ?c4 ?c5 ?_))
     case c1=>exact cell_one_new _ _ _
     case c2=>intro u hu;simp at hu;subst hu;rfl
     case c3=>unfold maxLen;omega
     case c4=>omega
     case c5=>simp;omega
     intro v' w1 hown' hgrow _
     have hown2:=a2m hown'
     have hbl2:=a0W hbl hbl.size _ hown hgrow
     clear hown' hgrow
     go_wp2_with fail
     go_roundw
     case rel=>exact⟨k+1,_,_,rfl,by go_num,hown2,hbl2,nx⟩
     case measure=>simp[intOf];omega
    ·skip
     have hcz:cy=0:=by omega
     subst hcz
     have hv:=inv.done (by omega)
     have hI:=a1w (by omega) hown
     have HV:Hid _:=hv
     clear hv
     go_wp2_with fail
     refine(a4R _ ds _ hI inv.dg).mono ?_
     rintro e w1 ⟨v',l',rfl,h1,h2,h3,h4,rfl⟩
     go_wp2_with fail
     go_ret
     exact⟨_,l',rfl,h1,h2,h3,h4.trans HV.out,hbl⟩
  ·skip
   by_cases hm:k<la.length
   ·have HC:k<max la.length lb.length\/0<cy:=.inl (by omega)
    have nx:=inv.step da db HC
    have hIa:=Ha.later hbl
    have hsz:=hbl.size
    have hIb:=Hb.later hbl
    have ga:=a0S la da k
    have gb:=a0S lb db k
    have hka:k<=100000:=by omega
    go_wp2_with fail
    refine(a4j _ la k hka _ hIa).mono ?_
    rintro e w1 ⟨rfl,rfl⟩
    generalize la.getD k 0=x at *
    go_wp2_with fail
    refine(a4j _ lb k hka _ hIb).mono ?_
    rintro e w1 ⟨rfl,rfl⟩
    generalize lb.getD k 0=y at *
    go_wp2_with (first
     | (at_builtin;refine wpList_append_own _ rfl _ _ 162 rfl w.heap.size 3 i0 (.int .i64 0) 1 8 Tryz.underlying162 hi hz0 hz1 hz2 rfl (by decide) _ _ _ rfl (hown.alloc _) ⟨wr.heap.size,0,none⟩ 1 1 [.int .i64 ((x+y+cy)%65536)] rfl rfl ?c1 ?c2 ?c3 ?c4 ?c5 ?_))
    case c1=>exact cell_one_new _ _ _
    case c2=>intro u hu;simp at hu;subst hu;rfl
    case c3=>unfold maxLen;omega
    case c4=>omega
    case c5=>simp;omega
    intro v' w1 hown' hgrow _
    have hown2:=a2m hown'
    have hbl2:=a0W hbl hbl.size _ hown hgrow
    clear hown' hgrow
    go_wp2_with fail
    go_roundw
    case rel=>exact⟨k+1,_,_,rfl,by go_num,hown2,hbl2,nx⟩
    case measure=>simp[intOf];omega
   ·by_cases hc:0<cy
    ·have HC:k<max la.length lb.length\/0<cy:=.inr hc
     have nx:=inv.step da db HC
     have hIa:=Ha.later hbl
     have hsz:=hbl.size
     have hIb:=Hb.later hbl
     have ga:=a0S la da k
     have gb:=a0S lb db k
     have hka:k<=100000:=by omega
     go_wp2_with fail
     refine(a4j _ la k hka _ hIa).mono ?_
     rintro e w1 ⟨rfl,rfl⟩
     generalize la.getD k 0=x at *
     go_wp2_with fail
     refine(a4j _ lb k hka _ hIb).mono ?_
     rintro e w1 ⟨rfl,rfl⟩
     generalize lb.getD k 0=y at *
     go_wp2_with (first
      | (at_builtin;refine wpList_append_own _ rfl _ _ 162 rfl w.heap.size 3 i0 (.int .i64 0) 1 8 Tryz.underlying162 hi hz0 hz1 hz2 rfl (by decide) _ _ _ rfl (hown.alloc _) ⟨wr.heap.size,0,none⟩ 1 1 [.int .i64 ((x+y+cy)%65536)] rfl rfl ?c1 ?c2 ?c3 ?c4 ?c5 ?_))
     case c1=>exact cell_one_new _ _ _
     case c2=>intro u hu;simp at hu;subst hu;rfl
     case c3=>unfold maxLen;omega
     case c4=>omega
     case c5=>simp;omega
     intro v' w1 hown' hgrow _
     have hown2:=a2m hown'
     have hbl2:=a0W hbl hbl.size _ hown hgrow
     clear hown' hgrow
     go_wp2_with fail
     go_roundw
     case rel=>exact⟨k+1,_,_,rfl,by go_num,hown2,hbl2,nx⟩
     case measure=>simp[intOf];omega
    ·skip
     have hcz:cy=0:=by omega
     subst hcz
     have hv:=inv.done (by omega)
     have hI:=a1w (by omega) hown
     have HV:Hid _:=hv
     clear hv
     go_wp2_with fail
     refine(a4R _ ds _ hI inv.dg).mono ?_
     rintro e w1 ⟨v',l',rfl,h1,h2,h3,h4,rfl⟩
     go_wp2_with fail
     go_ret
     exact⟨_,l',rfl,h1,h2,h3,h4.trans HV.out,hbl⟩
structure a4z (la lb:List Int)(k:Nat)(cy:Int)(ds:List Int):Prop where
 len:ds.length=k
 dg:Dgs ds
 c0:0<=cy
 c1:cy<=1
 bd:k<=la.length
 eq:val ds-pw k*cy=val (la.take k)-val (lb.take k)
theorem a4z.next {la lb:List Int}{k:Nat}{cy:Int}{ds:List Int}(h:a4z la lb k cy ds)(hk:k<la.length)(d c:Int)(d0:0<=d)(d1:d<65536)(c0:0<=c)(c1:c<=1)(hd:la.getD k 0-lb.getD k 0-cy=d-65536*c):
 a4z la lb (k+1) c (ds++[d]):=by
 obtain⟨h1,h2,h3,h4,h5,h6⟩:=h
 refine⟨by rw[List.length_append,List.length_singleton,h1],a7H h2 d0 d1,c0,c1,hk,?_⟩
 rw[a4Q,h1,a0x,a0x,a2t]
 generalize la.getD k 0=x at *
 generalize lb.getD k 0=y at *
 have e1:pw k*(x-y-cy)=pw k*d-65536*pw k*c:=by
  rw[hd,Int.mul_sub,Int.mul_comm 65536 (pw k),Int.mul_assoc]
 rw[Int.mul_sub,Int.mul_sub] at e1
 omega
theorem a4z.done {la lb:List Int}{cy:Int}{ds:List Int}(h:a4z la lb la.length cy ds)(hl:lb.length<=la.length)(hv:val lb<=val la):val ds=val la-val lb:=by
 have e:=h.eq
 rw[List.take_of_length_le (Nat.le_refl _),List.take_of_length_le hl] at e
 have b:=(a3x ds h.dg).2
 rw[h.len] at b
 have c0:=h.c0
 have c1:=h.c1
 have hc:cy=0:=by
  by_cases e1:cy=1
  ·subst e1;omega
  ·omega
 subst hc
 omega
set_option maxHeartbeats 1000000 in
theorem b0D (va vb:Value)(la lb:List Int)(w:World)(ha:IsD w va la)(hb:IsD w vb lb)(da:Dgs la)(db:Dgs lb)(na:la.length<=500)(hl:lb.length<=la.length)(hv:val lb<=val la):
 Calls Tryz.prog 254 #[va,vb] w (b8s w (val la-val lb)):=by
 obtain⟨i0,hi,hz0,hz1,hz2⟩:=info_parts a3V
 have Ha:=ha
 have Hb:=hb
 obtain⟨aa,ca,rfl,_⟩:=ha
 obtain⟨ab,cb,rfl,_⟩:=hb
 go_enter Tryz.func254,Tryz.ntmps254
 go_wp2_with fail
 go_loopw [5,6,7] (fun d c i wr=>∃ (k:Nat) (cy:Int) (ds:List Int),c=.int .i64 cy/\i=.int .i64 k/\wr.ownsRow w.heap.size 3 1 d ds.length (ds.map (Value.int .i64))/\Below w.heap.size w wr/\a4z la lb k cy ds) (fun _ _ i _=>la.length-(intOf i).toNat)
 case atStart=>exact⟨0,0,[],rfl,rfl,World.ownsRow_nil _ _ _ _,Below.refl _ _,⟨rfl,a9X,by decide,by decide,Nat.zero_le _,rfl⟩⟩
 case round=>
  obtain⟨k,cy,ds,rfl,rfl,hown,hbl,inv⟩:=hrel
  have c0:=inv.c0
  have c1:=inv.c1
  have hk:=inv.bd
  have hln:ds.length<=500:=by have:=inv.len;omega
  have hsz:=hbl.size
  by_cases hm:k<la.length
  ·have hIb:=Hb.later hbl
   have hIa:=Ha.later hbl
   have ga:=a0S la da k
   have gb:=a0S lb db k
   have hka:k<=100000:=by omega
   have hm':(k:Int)<(la.length:Int):=by omega
   obtain⟨_,_,ea,_,_,_,hA | ⟨b,off,rfl,h5,h6⟩⟩:=hIa
   ·subst hA;simp at hm
   cases ea
   have hcell:=h6 k hm
   have nxx:=inv.next hm
   have hat:∀ n,Calls Tryz.prog 281 #[.slice ab lb.length cb,.int .i64 k] (wr.drewN n) fun e w'=>e=.returned (.int .i64 (lb.getD k 0))/\w'=wr.drewN n:=fun n=>
    (a4j _ lb k hka (wr.drewN n) (hIb.later (w':=wr.drewN n) ⟨rfl,rfl,rfl,Nat.le_refl _,fun _ _=>rfl⟩)).mono fun e w' h=>⟨h.1,h.2.symm⟩
   have HAT:Hid _:=hat
   clear h6 hat
   generalize la.getD k 0=x at *
   generalize lb.getD k 0=y at *
   go_wp2_with fail
   go_quiet ((go_at_call 281;exact Calls.quiet_of_same (HAT.out _)))
   have hownq:(wr.drewN nq).ownsRow w.heap.size 3 1 u5 ds.length (ds.map (Value.int .i64)):=hown
   have hblq:Below w.heap.size w (wr.drewN nq):=hbl.trans ⟨rfl,rfl,rfl,Nat.le_refl _,fun _ _=>rfl⟩
   have hszq:=hblq.size
   generalize wr.drewN nq=wq at *
   by_cases hs:x-y-cy<0
   ·have nx:=nxx (x-y-cy+65536) 1 (by omega) (by omega) (by decide) (by decide) (by omega)
    go_wp2_with (first
     | (at_builtin;refine wpList_append_own _ rfl _ _ 162 rfl w.heap.size 3 i0 (.int .i64 0) 1 8 Tryz.underlying162 hi hz0 hz1 hz2 rfl (by decide) _ _ _ rfl (hownq.alloc _) ⟨wq.heap.size,0,none⟩ 1 1 [.int .i64 (x-y-cy+65536)] rfl rfl ?c1 ?c2 ?c3 ?c4 ?c5 ?_))
    case c1=>exact cell_one_new _ _ _
    case c2=>first | rfl|(intro u hu;simp at hu;subst hu;rfl)
    case c3=>unfold maxLen;omega
    case c4=>omega
    case c5=>first | omega|(simp;omega)
    intro v' w1 hown' hgrow _
    have hown2:=a2m hown'
    have hbl2:=a0W hblq hblq.size _ hownq hgrow
    clear hown' hgrow
    go_wp2_with fail
    go_roundw
    case rel=>exact⟨k+1,_,_,rfl,by go_num,hown2,hbl2,nx⟩
    case measure=>simp[intOf];omega
   ·have nx:=nxx (x-y-cy) 0 (by omega) (by omega) (by decide) (by decide) (by omega)
    go_wp2_with (first
     | (at_builtin;refine wpList_append_own _ rfl _ _ 162 rfl w.heap.size 3 i0 (.int .i64 0) 1 8 Tryz.underlying162 hi hz0 hz1 hz2 rfl (by decide) _ _ _ rfl (hownq.alloc _) ⟨wq.heap.size,0,none⟩ 1 1 [.int .i64 (x-y-cy)] rfl rfl ?c1 ?c2 ?c3 ?c4 ?c5 ?_))
    case c2=>first | rfl|(intro u hu;simp at hu;subst hu;rfl)
    case c3=>unfold maxLen;omega
    case c4=>omega
    case c5=>first | omega|(simp;omega)
    intro v' w1 hown' hgrow _
    have hown2:=a2m hown'
    have hbl2:=a0W hblq hblq.size _ hownq hgrow
    clear hown' hgrow
    go_wp2_with fail
    go_roundw
    case rel=>exact⟨k+1,_,_,rfl,by go_num,hown2,hbl2,nx⟩
    case measure=>simp[intOf];omega
  ·have hkl:k=la.length:=by omega
   have INV:=inv
   rw[hkl] at INV
   have hv2:=INV.done hl hv
   have hI:=a1w (by omega) hown
   have HV:Hid _:=hv2
   clear hv2 hkl INV
   go_wp2_with fail
   refine(a4R _ ds _ hI inv.dg).mono ?_
   rintro e w1 ⟨v',l',rfl,h1,h2,h3,h4,rfl⟩
   go_wp2_with fail
   go_ret
   exact⟨_,l',rfl,h1,h2,h3,h4.trans HV.out,hbl⟩
def b5q (la lb:List Int)(m:Nat):Prop:=val la-val (la.take m)=val lb-val (lb.take m)
theorem b2Y {la lb:List Int}{m:Nat}(h:b5q la lb (m+1))(e:la.getD m 0=lb.getD m 0):b5q la lb m:=by
 unfold b5q at *
 rw[a0x,a0x,e] at h
 omega
theorem b2X {la lb:List Int}{m:Nat}(ha:Dgs la)(hb:Dgs lb)(hl:m<la.length)(h:b5q la lb (m+1))(e:la.getD m 0<lb.getD m 0):val la<val lb:=by
 unfold b5q at h
 rw[a0x,a0x] at h
 have b1:=(a3x _ (a3n ha m)).2
 rw[List.length_take,Nat.min_eq_left (by omega)] at b1
 have b2:=(a3x _ (a3n hb m)).1
 have e1:=Int.mul_le_mul_of_nonneg_left (show la.getD m 0+1<=lb.getD m 0 by omega) (Int.le_of_lt (a8t m))
 rw[Int.mul_add,Int.mul_one] at e1
 omega
theorem longer {la lb:List Int}(ha:Dgs la)(hb:Dgs lb)(tb:b2w lb)(h:la.length<lb.length):val la<val lb:=by
 have b1:=(a3x la ha).2
 have b2:=a6L lb hb tb (lb.length-1) (by omega)
 have b3:=a5m (show la.length<=lb.length-1 by omega)
 omega
set_option maxHeartbeats 1000000 in
theorem b3v (va vb:Value)(la lb:List Int)(w:World)(ha:IsD w va la)(hb:IsD w vb lb)(da:Dgs la)(db:Dgs lb)(ta:b2w la)(tb:b2w lb):
 Calls Tryz.prog 253 #[va,vb] w fun e w'=>∃ c:Int,e=.returned (.int .i64 c)/\(0<=c↔val lb<=val la)/\Below w.heap.size w w':=by
 have Ha:=ha
 have Hb:=hb
 obtain⟨aa,ca,rfl,na,_,_,hA⟩:=ha
 obtain⟨ab,cb,rfl,nb,_,_,hB⟩:=hb
 by_cases hne:la.length=lb.length
 ·have hne':((la.length:Int) != (lb.length:Int))=false:=by simp;omega
  have HN:Hid _:=hne
  have hne1:la.length<=lb.length:=by omega
  have hne2:lb.length<=la.length:=by omega
  clear hne
  go_enter Tryz.func253,Tryz.ntmps253
  go_wp2_with fail
  go_loopw [5] (fun i wr=>∃ m:Nat,i=.int .i64 ((m:Int)-1)/\m<=la.length/\b5q la lb m/\Below w.heap.size w wr) (fun i _=>(intOf i+1).toNat)
  case atStart=>
   refine⟨la.length,rfl,Nat.le_refl _,?_,Below.refl _ _⟩
   unfold b5q
   rw[List.take_of_length_le (Nat.le_refl _),List.take_of_length_le (by omega)]
   omega
  case round=>
   obtain⟨m,rfl,hm,hsame,hbl⟩:=hrel
   by_cases hm0:m=0
   ·subst hm0
    have hv:val la=val lb:=by unfold b5q at hsame;simp[val] at hsame;omega
    have HV:Hid _:=hv
    clear hv hA hB
    go_wp2_with fail
    go_ret
    exact⟨0,rfl,by have:=HV.out;omega,hbl⟩
   ·obtain⟨k,rfl⟩:∃ k,m=k+1:=⟨m-1,by omega⟩
    rcases hA with hA | ⟨b,off,rfl,h5,h6⟩
    ·subst hA;simp at hm
    rcases hB with hB | ⟨b',off',rfl,h5',h6'⟩
    ·subst hB;simp at hne1;subst hne1;simp at hm
    have hcell:wr.cell? ⟨b,off+k,none⟩=some (.int .i64 (la.getD k 0)):=(hbl.cell (p:=⟨b,off+k,none⟩) h5).trans (h6 k (by omega))
    have hcell':wr.cell? ⟨b',off'+k,none⟩=some (.int .i64 (lb.getD k 0)):=(hbl.cell (p:=⟨b',off'+k,none⟩) h5').trans (h6' k (by omega))
    have HH:Hid _:=h6
    have HH':Hid _:=h6'
    clear h6 h6'
    have ek:(((k+1:Nat):Int)-1)=(k:Int):=by omega
    rw[ek]
    have k1:(k:Int)<(la.length:Int):=by omega
    have k2:(k:Int)<(lb.length:Int):=by omega
    by_cases hlt:la.getD k 0<lb.getD k 0
    ·have hv:=b2X da db (by omega) hsame hlt
     generalize la.getD k 0=x at *
     generalize lb.getD k 0=y at *
     go_wp2_with fail
     go_quiet (fail)
     have hblq:Below w.heap.size w (wr.drewN nq):=hbl.trans ⟨rfl,rfl,rfl,Nat.le_refl _,fun _ _=>rfl⟩
     go_wp2_with fail
     go_ret
     exact⟨-1,rfl,by omega,hblq⟩
    ·by_cases hgt:lb.getD k 0<la.getD k 0
     ·have hsame':b5q lb la (k+1):=by unfold b5q at *;omega
      have hv:=b2X db da (by omega) hsame' hgt
      generalize la.getD k 0=x at *
      generalize lb.getD k 0=y at *
      go_wp2_with fail
      go_quiet (fail)
      have hblq:Below w.heap.size w (wr.drewN nq):=hbl.trans ⟨rfl,rfl,rfl,Nat.le_refl _,fun _ _=>rfl⟩
      have hc1:(wr.drewN nq).cell? ⟨b,off+k,none⟩=some (.int .i64 x):=hcell
      have hc2:(wr.drewN nq).cell? ⟨b',off'+k,none⟩=some (.int .i64 y):=hcell'
      generalize wr.drewN nq=wq at *
      go_wp2_with fail
      go_quiet (fail)
      have hblq2:Below w.heap.size w (wq.drewN nq):=hblq.trans ⟨rfl,rfl,rfl,Nat.le_refl _,fun _ _=>rfl⟩
      go_wp2_with fail
      go_ret
      exact⟨1,rfl,by omega,hblq2⟩
     ·have hs2:=b2Y hsame (by omega)
      have hxy:la.getD k 0=lb.getD k 0:=by omega
      rw[<-hxy] at hcell'
      clear hxy hgt hlt
      generalize la.getD k 0=x at *
      go_wp2_with fail
      go_quiet (fail)
      have hblq:Below w.heap.size w (wr.drewN nq):=hbl.trans ⟨rfl,rfl,rfl,Nat.le_refl _,fun _ _=>rfl⟩
      have hc1:(wr.drewN nq).cell? ⟨b,off+k,none⟩=some (.int .i64 x):=hcell
      have hc2:(wr.drewN nq).cell? ⟨b',off'+k,none⟩=some (.int .i64 x):=hcell'
      generalize wr.drewN nq=wq at *
      go_wp2_with fail
      go_quiet (fail)
      have hblq2:Below w.heap.size w (wq.drewN nq):=hblq.trans ⟨rfl,rfl,rfl,Nat.le_refl _,fun _ _=>rfl⟩
      go_wp2_with fail
      go_roundw
      case rel=>exact⟨k,rfl,by omega,hs2,hblq2⟩
      case measure=>simp[intOf]
 ·have hne':((la.length:Int) != (lb.length:Int))=true:=by simp;omega
  by_cases hlt:la.length<lb.length
  ·have hv:=longer da db tb hlt
   clear hA hB
   go_enter Tryz.func253,Tryz.ntmps253
   go_wp2_with fail
   go_ret
   exact⟨-1,rfl,by omega,Below.refl _ _⟩
  ·have hv:=longer db da ta (by omega)
   clear hA hB
   go_enter Tryz.func253,Tryz.ntmps253
   go_wp2_with fail
   go_ret
   exact⟨1,rfl,by omega,Below.refl _ _⟩
theorem b7v (u:Int)(u0:0<=u)(u1:u<18446744073709551616):bits .and .u64 u 9223372036854775807=u%9223372036854775808:=by
 obtain⟨a,rfl⟩:=Int.eq_ofNat_of_zero_le u0
 have h:=bits_and_u64_nat a 9223372036854775807 (by omega) (by omega)
 have e:a&&&9223372036854775807=a%9223372036854775808:=Nat.and_two_pow_sub_one_eq_mod a 63
 rw[e] at h
 exact h
theorem c1R {W w1:World}(hb:Below W.heap.size W w1):(∀ b o,b<W.heap.size->w1.cell? ⟨b,o,none⟩=W.cell? ⟨b,o,none⟩)/\(∀ b o,b<W.heap.size->w1.frozen? ⟨b,o,none⟩=W.frozen? ⟨b,o,none⟩):=
 ⟨fun b o h=>hb.cell (p:=⟨b,o,none⟩) h,fun b o h=>hb.frozen (p:=⟨b,o,none⟩) h⟩
structure a6G (l:List Int)(m:Nat)(U:Int):Prop where
 eq:val l=val (l.take m)+pw m*U
 u0:0<=U
theorem a6G.step {l:List Int}{k:Nat}{U:Int}(h:a6G l (k+1) U)(hd:Dgs l):a6G l k (U*65536+l.getD k 0):=by
 obtain⟨h1,h2⟩:=h
 have g:=a0S l hd k
 refine⟨?_,by omega⟩
 rw[h1,a0x,a2t]
 generalize l.getD k 0=x at *
 have e:pw k*(U*65536+x)=65536*pw k*U+pw k*x:=by rw[Int.mul_add];congr 1;rw[Int.mul_comm U,<-Int.mul_assoc,Int.mul_comm (pw k)]
 omega
theorem a6G.lt {l:List Int}{m:Nat}{U:Int}(h:a6G l m U)(hd:Dgs l):U<=val l:=by
 obtain⟨h1,h2⟩:=h
 have b:=(a3x _ (a3n hd m)).1
 have e:=Int.mul_le_mul_of_nonneg_right (show 1<=pw m by have:=a8t m;omega) h2
 omega
def a9f (n:Int):Prop:=-9223372036854775808<=n/\n<9223372036854775808
def b5l (w:World)(n:Int)(e:Ending)(w':World):Prop:=∃ x b,e=.returned (.tuple #[.int .i64 x,.bool b])/\(b=true↔a9f n)/\(b=true->x=n)/\Below w.heap.size w w'
set_option maxHeartbeats 1000000 in
theorem b6f (neg:Bool)(s:Value)(l:List Int)(n:Int)(w:World)(h:a7T w neg s l n)(h4:l.length<=4)(h0:l≠[]):
 Calls Tryz.prog 104 #[.agg #[.bool neg,s]] w (b5l w n):=by
 obtain⟨hI,dg,tr,hn⟩:=h
 obtain⟨a,c,rfl,_,_,_,hA⟩:=hI
 rcases hA with hA | ⟨b,off,rfl,h5,h6⟩
 ·exact absurd hA h0
 have hl0:l.length≠0:=fun e=>h0 (List.length_eq_zero_iff.1 e)
 have k0:((l.length:Int)==0)=false:=beq_eq_false_iff_ne.2 (by omega)
 have vb:=a3x l dg
 have vm:val l<18446744073709551616:=by have:=a5m h4;rw[pw4] at this;omega
 have vlow:=a6L l dg tr (l.length-1) (by omega)
 have vpos:0<val l:=by have:=a8t (l.length-1);omega
 have HL:Hid _:=vlow
 have HB:Hid _:=vb
 have H0:Hid _:=hl0
 have HN:Hid _:=hn
 have H6:Hid _:=h6
 clear vlow vb hl0 hn h6 h0
 go_enter Tryz.func104,Tryz.ntmps104
 go_wp2_with fail
 go_loop [4,5] (fun u i=>∃ (m:Nat) (U:Int),u=.int .u64 U/\i=.int .i64 ((m:Int)-1)/\m<=l.length/\a6G l m U) (fun _ i=>(intOf i+1).toNat)
 case atStart=>exact⟨l.length,0,rfl,rfl,Nat.le_refl _,⟨by rw[List.take_of_length_le (Nat.le_refl _)];omega,by decide⟩⟩
 case round=>
  obtain⟨m,U,rfl,rfl,hm,inv⟩:=hrel
  have u0:=inv.u0
  by_cases hm0:m=0
  ·subst hm0
   have eU:U=val l:=by have:=inv.eq;simp[val,pw] at this;omega
   have EU:Hid _:=eU
   have uv:U<18446744073709551616:=by omega
   have up:0<U:=by omega
   clear eU
   cases neg
   ·have nE:Hid (n=U):=(by rw[HN.out,EU.out];rfl:n=U)
    by_cases hU:U<=9223372036854775807
    ·have am:Hid (wrap64 (bits .and .u64 U 9223372036854775807)=U):=(by rw[b7v U u0 uv];unfold wrap64;omega:wrap64 (bits .and .u64 U 9223372036854775807)=U)
     go_wp2_with fail
     go_ret2
     exact⟨wrap64 (bits .and .u64 U 9223372036854775807),true,rfl,by have:=nE.out;simp[a9f];omega,fun _=>am.out.trans nE.out.symm,(Below.refl _ _).alloc (Nat.le_refl _) _⟩
    ·go_wp2_with fail
     go_ret2
     exact⟨wrap64 (bits .and .u64 U 9223372036854775807),false,rfl,by have:=nE.out;simp[a9f];omega,fun h=>by simp at h,(Below.refl _ _).alloc (Nat.le_refl _) _⟩
   ·have nE:Hid (n = -U):=(by rw[HN.out,EU.out];rfl:n = -U)
    by_cases hU:U<=9223372036854775808
    ·go_wp2_with fail
     go_ret2
     refine⟨_,true,rfl,by have:=nE.out;simp[a9f];omega,fun _=>?_,(Below.refl _ _).alloc (Nat.le_refl _) _⟩
     have:=nE.out
     omega
    ·go_wp2_with fail
     go_ret2
     exact⟨0,false,rfl,by have:=nE.out;simp[a9f];omega,fun h=>by simp at h,(Below.refl _ _).alloc (Nat.le_refl _) _⟩
  ·obtain⟨k,rfl⟩:∃ k,m=k+1:=⟨m-1,by omega⟩
   have hcell:=H6.out k (by omega)
   have hcell2:(w.alloc (.cells #[.bool neg,.slice (some ⟨b,off,none⟩) l.length c] 164)).cell? ⟨b,off+k,none⟩=some (.int .i64 (l.getD k 0)):=by rw[World.cell?_alloc_past _ _ _ h5];exact hcell
   have ek:(((k+1:Nat):Int)-1)=(k:Int):=by omega
   rw[ek]
   have k1:(k:Int)<(l.length:Int):=by omega
   have nx:=inv.step dg
   have nl:=nx.lt dg
   have g:=a0S l dg k
   clear hcell
   generalize l.getD k 0=x at *
   go_wp2_with fail
   go_round
   case rel=>exact⟨k,_,rfl,rfl,by omega,nx⟩
   case measure=>simp[intOf]
set_option maxHeartbeats 400000 in
theorem b0v (neg:Bool)(s:Value)(l:List Int)(n:Int)(w:World)(h:a7T w neg s l n):
 Calls Tryz.prog 104 #[.agg #[.bool neg,s]] w (b5l w n):=by
 by_cases h0:l=[]
 ·subst h0
  have hn:n=0:=by rw[h.num];cases neg<;>rfl
  obtain⟨⟨a,c,rfl,_⟩,_,_,hnum⟩:=h
  clear hnum
  subst hn
  go_enter Tryz.func104,Tryz.ntmps104
  go_wp2_with fail
  go_ret2
  exact⟨0,true,rfl,by simp[a9f],fun _=>rfl,(Below.refl _ _).alloc (Nat.le_refl _) _⟩
 by_cases h4:l.length<=4
 ·exact b6f neg s l n w h h4 h0
 ·have hv:pw 4<=val l:=by
   have h1:=a6L l h.dg h.tr (l.length-1) (by omega)
   have h2:=a5m (show 4<=l.length-1 by omega)
   omega
  rw[pw4] at hv
  have hn:¬ a9f n:=by
   rw[h.num];unfold a9f
   cases neg
   ·show ¬(_<=val l/\val l<_);omega
   ·show ¬(_ <= -val l /\ -val l<_);omega
  obtain⟨⟨a,c,rfl,_⟩,_,_,hnum⟩:=h
  clear hnum
  have k0:((l.length:Int)==0)=false:=beq_eq_false_iff_ne.2 (by omega)
  have k4:(4:Int)<(l.length:Int):=by omega
  have HN:Hid _:=hn
  clear hn hv h0
  go_enter Tryz.func104,Tryz.ntmps104
  go_wp2_with fail
  go_ret2
  exact⟨0,false,rfl,⟨fun h=>by simp at h,fun h=>absurd h HN.out⟩,fun h=>by simp at h,(Below.refl _ _).alloc (Nat.le_refl _) _⟩
theorem a1g (w:World)(o1 o2 o3:Obj):Below w.heap.size w (((w.alloc o1).alloc o2).alloc o3):=(((Below.refl _ _).alloc (Nat.le_refl _) _).alloc (by simp) _).alloc (by simp;omega) _
theorem IsD.setCell {w:World}{v:Value}{l:List Int}(h:IsD w v l){p:Addr}(u:Value)(hp:∀ x,w.cell? p≠some (.int .i64 x)):IsD (w.setCell p u) v l:=by
 obtain⟨a,c,e,h1,h2,hc,h3⟩:=h
 refine⟨a,c,e,h1,h2,hc,?_⟩
 rcases h3 with h3 | ⟨b,off,h4,h5,h6⟩
 ·exact .inl h3
 ·refine .inr ⟨b,off,h4,by simpa[World.setCell] using h5,fun i hi=>?_⟩
  rw[World.cell?_setCell_other _ _ _ _ (by intro e;subst e;exact hp _ (h6 i hi))]
  exact h6 i hi
theorem a4u {w:World}{v:Value}{l:List Int}(h:IsD w v l)(g:Nat){b0:Bool}{a0:Option Addr}{n0 c0:Nat}(h0:w.cell? ⟨g,0,none⟩=some (.bool b0))(h1:w.cell? ⟨g,1,none⟩=some (.slice a0 n0 c0))(b1:Bool)(u:Value):
 IsD ((w.setCell ⟨g,0,none⟩ (.bool b1)).setCell ⟨g,1,none⟩ u) v l:=by
 refine(h.setCell _ (fun x e=>?_)).setCell _ (fun x e=>?_)
 ·rw[h0] at e;cases e
 ·rw[World.cell?_setCell_other _ _ _ _ (by simp),h1] at e;cases e
set_option maxHeartbeats 1000000 in
theorem b7C (na nb:Bool)(sa sb:Value)(la lb:List Int)(a b:Int)(w:World)(ha:a7T w na sa la a)(hb:a7T w nb sb lb b)(ka:la.length<=500)(kb:lb.length<=500):
 Calls Tryz.prog 191 #[.agg #[.bool na,sa],.agg #[.bool nb,sb]] w (a5c w (a+b)):=by
 obtain⟨Ia,da,ta,ea⟩:=ha
 obtain⟨Ib,db,tb,eb⟩:=hb
 have EA:Hid _:=ea
 have EB:Hid _:=eb
 clear ea eb
 have IA:=Ia
 have IB:=Ib
 obtain⟨aa,ca,rfl,_⟩:=Ia
 obtain⟨ab,cb,rfl,_⟩:=Ib
 by_cases hs:na=nb
 ·subst hs
  have en:a+b=sg na (val la+val lb):=by rw[EA.out,EB.out];cases na<;>simp[sg];omega
  have EN:Hid _:=en
  clear en
  go_enter Tryz.func191,Tryz.ntmps191
  go_wp2_with fail
  go_region_held3 (fun w'=>w'.cell? ⟨w.heap.size,0,none⟩=some (.bool na)/\w'.cell? ⟨w.heap.size,1,none⟩=some (.slice aa la.length ca)/\w'.cell? ⟨w.heap.size+1,0,none⟩=some (.bool na)/\w'.cell? ⟨w.heap.size+1,1,none⟩=some (.slice ab lb.length cb)/\w'.frozen? ⟨w.heap.size+2,0,none⟩=false/\w'.frozen? ⟨w.heap.size+2,1,none⟩=false) (simp[go_sem, *])
   (first|(go_at_call 252;refine(b2T _ _ la lb _ (IA.later (by exact(a1g _ _ _ _).drew)) (IB.later (by exact(a1g _ _ _ _).drew)) da db ka kb).mono ?_;rintro e w' ⟨s',l',rfl,I',d',t',v',hb'⟩;obtain⟨hc,hf⟩:=c1R hb';have I2:=I';obtain⟨a',c',rfl,_⟩:=I'))
  have cR0:=hb'.cell (p:=⟨w.heap.size+1+1,0,none⟩) (by simp)
  have cR1:=hb'.cell (p:=⟨w.heap.size+1+1,1,none⟩) (by simp)
  simp[go_sem] at cR0
  simp[go_sem] at cR1
  go_wp2_with fail
  refine bodyPost_ret (v:=.agg #[.bool na,.slice a' l'.length c']) (by simp[results,Tryz.results191,go_sem,cR0,cR1]) rfl ⟨_,_,l',rfl,⟨?_,d',t',by rw[EN.out,<-v']⟩,?_⟩
  ·exact a4u I2 _ cR0 cR1 _ _
  ·exact(((a1g _ _ _ _).drew.trans (hb'.mono (by simp;omega))).setCell (by simp;omega) _).setCell (by simp;omega) _
 ·have hs':(na==nb)=false:=by simpa using hs
  have HS:Hid _:=hs
  clear hs
  go_enter Tryz.func191,Tryz.ntmps191
  go_wp2_with fail
  refine(b3v _ _ la lb _ (IA.later (by exact a1g _ _ _ _)) (IB.later (by exact a1g _ _ _ _)) da db ta tb).mono ?_
  rintro e w1 ⟨cc,rfl,hcc,hb1⟩
  have hW:Below w.heap.size w w1:=(a1g _ _ _ _).trans (hb1.mono (by simp;omega))
  have q0:=hb1.cell (p:=⟨w.heap.size,0,none⟩) (by simp<;>omega)
  have q1:=hb1.cell (p:=⟨w.heap.size,1,none⟩) (by simp<;>omega)
  have q2:=hb1.cell (p:=⟨w.heap.size+1,0,none⟩) (by simp<;>omega)
  have q3:=hb1.cell (p:=⟨w.heap.size+1,1,none⟩) (by simp<;>omega)
  have q4:=hb1.cell (p:=⟨w.heap.size+2,0,none⟩) (by simp<;>omega)
  have q5:=hb1.cell (p:=⟨w.heap.size+2,1,none⟩) (by simp<;>omega)
  have q6:=hb1.frozen (p:=⟨w.heap.size+2,0,none⟩) (by simp<;>omega)
  have q7:=hb1.frozen (p:=⟨w.heap.size+2,1,none⟩) (by simp<;>omega)
  simp[go_sem] at q0 q1 q2 q3 q4 q5 q6 q7
  have hz:w.heap.size+2<w1.heap.size:=by have:=hb1.size;simp at this;omega
  have hz0:w.heap.size<w1.heap.size:=by omega
  have hz1:w.heap.size+1<w1.heap.size:=by omega
  have hz2:w.heap.size+1+1<w1.heap.size:=by omega
  have HB1:Hid _:=hb1
  clear hb1
  by_cases hcmp:val lb<=val la
  ·have hcp:0<=cc:=hcc.2 hcmp
   have hll:lb.length<=la.length:=by
    by_cases h:lb.length<=la.length
    ·exact h
    ·have:=longer da db tb (by omega);omega
   have en:a+b=sg na (val la-val lb):=by
    have:=HS.out
    rw[EA.out,EB.out];cases na<;>cases nb<;>simp[sg] at *<;>omega
   have EN:Hid _:=en
   clear en hcc
   go_wp2_with fail
   go_region_held3 (fun w'=>w'.cell? ⟨w.heap.size,0,none⟩=some (.bool na)/\w'.cell? ⟨w.heap.size,1,none⟩=some (.slice aa la.length ca)/\w'.cell? ⟨w.heap.size+1,0,none⟩=some (.bool nb)/\w'.cell? ⟨w.heap.size+1,1,none⟩=some (.slice ab lb.length cb)/\w'.frozen? ⟨w.heap.size+2,0,none⟩=false/\w'.frozen? ⟨w.heap.size+2,1,none⟩=false) (simp[go_sem, *])
    (first|(go_at_call 254;refine(b0D _ _ la lb _ (IA.later (by exact hW.drew)) (IB.later (by exact hW.drew)) da db ka hll hcmp).mono ?_;rintro e w' ⟨s',l',rfl,I',d',t',v',hb'⟩;have f0:=(hb'.cell (p:=⟨w.heap.size,0,none⟩) hz0).trans q0;have f1:=(hb'.cell (p:=⟨w.heap.size,1,none⟩) hz0).trans q1;have f2:=(hb'.cell (p:=⟨w.heap.size+1,0,none⟩) hz1).trans q2;have f3:=(hb'.cell (p:=⟨w.heap.size+1,1,none⟩) hz1).trans q3;have f4:=(hb'.cell (p:=⟨w.heap.size+2,0,none⟩) hz).trans q4;have f5:=(hb'.cell (p:=⟨w.heap.size+2,1,none⟩) hz).trans q5;have f6:=(hb'.frozen (p:=⟨w.heap.size+2,0,none⟩) hz).trans q6;have f7:=(hb'.frozen (p:=⟨w.heap.size+2,1,none⟩) hz).trans q7;have I2:=I';obtain⟨a',c',rfl,_⟩:=I'))
   have cR0:=hb'.cell (p:=⟨w.heap.size+1+1,0,none⟩) (by simp;omega)
   have cR1:=hb'.cell (p:=⟨w.heap.size+1+1,1,none⟩) (by simp;omega)
   simp[go_sem,q4] at cR0
   simp[go_sem,q5] at cR1
   go_wp2_with fail
   refine bodyPost_ret (v:=.agg #[.bool na,.slice a' l'.length c']) (by simp[results,Tryz.results191,go_sem,cR0,cR1]) rfl ⟨_,_,l',rfl,⟨?_,d',t',by rw[EN.out,<-v']⟩,?_⟩
   ·exact a4u I2 _ cR0 cR1 _ _
   ·exact((hW.drew.trans (hb'.mono (by simp;omega))).setCell (by simp;omega) _).setCell (by simp;omega) _
  ·have hcp:¬ 0<=cc:=fun h=>hcmp (hcc.1 h)
   have hll:la.length<=lb.length:=by
    by_cases h:la.length<=lb.length
    ·exact h
    ·have:=longer db da ta (by omega);omega
   have en:a+b=sg nb (val lb-val la):=by
    have:=HS.out
    rw[EA.out,EB.out];cases na<;>cases nb<;>simp[sg] at *<;>omega
   have EN:Hid _:=en
   clear en hcc
   go_wp2_with fail
   go_region_held3 (fun w'=>w'.cell? ⟨w.heap.size,0,none⟩=some (.bool na)/\w'.cell? ⟨w.heap.size,1,none⟩=some (.slice aa la.length ca)/\w'.cell? ⟨w.heap.size+1,0,none⟩=some (.bool nb)/\w'.cell? ⟨w.heap.size+1,1,none⟩=some (.slice ab lb.length cb)/\w'.frozen? ⟨w.heap.size+2,0,none⟩=false/\w'.frozen? ⟨w.heap.size+2,1,none⟩=false) (simp[go_sem, *])
    (first|(go_at_call 254;refine(b0D _ _ lb la _ (IB.later (by exact hW.drew)) (IA.later (by exact hW.drew)) db da kb hll (by omega)).mono ?_;rintro e w' ⟨s',l',rfl,I',d',t',v',hb'⟩;have f0:=(hb'.cell (p:=⟨w.heap.size,0,none⟩) hz0).trans q0;have f1:=(hb'.cell (p:=⟨w.heap.size,1,none⟩) hz0).trans q1;have f2:=(hb'.cell (p:=⟨w.heap.size+1,0,none⟩) hz1).trans q2;have f3:=(hb'.cell (p:=⟨w.heap.size+1,1,none⟩) hz1).trans q3;have f4:=(hb'.cell (p:=⟨w.heap.size+2,0,none⟩) hz).trans q4;have f5:=(hb'.cell (p:=⟨w.heap.size+2,1,none⟩) hz).trans q5;have f6:=(hb'.frozen (p:=⟨w.heap.size+2,0,none⟩) hz).trans q6;have f7:=(hb'.frozen (p:=⟨w.heap.size+2,1,none⟩) hz).trans q7;have I2:=I';obtain⟨a',c',rfl,_⟩:=I'))
   have cR0:=hb'.cell (p:=⟨w.heap.size+1+1,0,none⟩) (by simp;omega)
   have cR1:=hb'.cell (p:=⟨w.heap.size+1+1,1,none⟩) (by simp;omega)
   simp[go_sem,q4] at cR0
   simp[go_sem,q5] at cR1
   go_wp2_with fail
   refine bodyPost_ret (v:=.agg #[.bool nb,.slice a' l'.length c']) (by simp[results,Tryz.results191,go_sem,cR0,cR1]) rfl ⟨_,_,l',rfl,⟨?_,d',t',by rw[EN.out,<-v']⟩,?_⟩
   ·exact a4u I2 _ cR0 cR1 _ _
   ·exact((hW.drew.trans (hb'.mono (by simp;omega))).setCell (by simp;omega) _).setCell (by simp;omega) _
theorem b7u {w w1 w2:World}(h:Below w.heap.size w w1)(k:Below w1.heap.size w1 w2):Below w.heap.size w w2:=h.trans (k.mono h.size)
theorem c1b {neg:Bool}{l:List Int}{n:Int}(h:n=sg neg (val l))(hd:Dgs l):val l=n.natAbs:=by
 have:=(a3x l hd).1
 cases neg
 ·have h':n=val l:=h;omega
 ·have h':n = -val l:=h;omega
theorem a7T.len {w:World}{neg:Bool}{s:Value}{l:List Int}{n:Int}(h:a7T w neg s l n)(k:Nat)(hn:(n.natAbs:Int)<pw k):l.length<=k:=b7Z l h.dg h.tr k (by rw[c1b h.num h.dg];exact hn)
end Go.Proofs.YtbddbnjhmdbkbaaGreatDoor
end
section
namespace Go.Proofs.YtbddbnjhmdbkbaaGreatDoor
theorem a7v (l:List Int)(k j:Nat)(x:Int)(hk:k<l.length):(l.set k x).getD j 0=if j=k then x else l.getD j 0:=by
 by_cases hj:j<l.length
 ·rw[a2x _ j (by simpa using hj),a2x l j hj,List.getElem_set]
  by_cases e:k=j
  ·rw[if_pos e,if_pos e.symm]
  ·rw[if_neg e,if_neg (fun h=>e h.symm)]
 ·rw[a1F _ j (by simp;omega),a1F l j (by omega),if_neg (by omega)]
theorem b8E (l:List Int)(k:Nat)(x:Int)(hk:k<l.length):val (l.set k x)=val l+pw k*(x-l.getD k 0):=by
 induction l generalizing k with
 | nil=>simp at hk
 | cons d r ih=>
   cases k with
   | zero=>simp[val,pw];omega
   | succ k=>
     have h:=ih k (by simpa using hk)
     show d+65536*val (r.set k x)=d+65536*val r+pw (k+1)*(x-r.getD k 0)
     rw[h,a2t,Int.mul_add,Int.mul_assoc,Int.add_assoc]
theorem c0e {l:List Int}(h:Dgs l)(k:Nat)(x:Int)(x0:0<=x)(x1:x<65536):Dgs (l.set k x):=by
 intro d hd
 rcases List.mem_or_eq_of_mem_set hd with h1 | h1
 ·exact h d h1
 ·subst h1;exact⟨x0,x1⟩
theorem b2E (n:Nat):val (List.replicate n (0:Int))=0:=by
 induction n with
 | zero=>rfl
 | succ n ih=>show 0+65536*val (List.replicate n (0:Int))=0;rw[ih];rfl
theorem a7X (n k:Nat):(List.replicate n (0:Int)).getD k 0=0:=by
 by_cases h:k<n
 ·rw[a2x _ k (by simpa using h)];simp
 ·rw[a1F _ k (by simp;omega)]
theorem b2F (n:Nat):Dgs (List.replicate n (0:Int)):=by
 intro d hd;rw[(List.mem_replicate.1 hd).2];decide
structure b7x (l:List Int)(D:Int)(m:Nat)(q:List Int)(R:Int):Prop where
 len:q.length=l.length
 dg:Dgs q
 r0:0<=R
 r1:R<D
 bd:m<=l.length
 zs:∀ k,k<m->q.getD k 0=0
 eq:∃ H QH,val l=val (l.take m)+pw m*H/\val q=pw m*QH/\H=QH*D+R
def p2 (t:Nat):Int:=2^t
theorem a7c (t:Nat):p2 (t+1)=2*p2 t:=by unfold p2;rw[Int.pow_succ,Int.mul_comm]
theorem b7W (t:Nat):0<p2 t:=Int.pow_pos (by decide)
structure VIn (x D R0:Int)(t:Nat)(y R:Int):Prop where
 r0:0<=R
 r1:R<D
 y0:0<=y
 y1:y<p2 t
 eq:R0*p2 t+x/p2 (16-t)=y*D+R
 bd:t<=16
theorem b7r (x:Int)(t:Nat)(ht:t<16):x/p2 (16-(t+1))=2*(x/p2 (16-t))+x/p2 (15-t)%2:=by
 have e:p2 (16-t)=p2 (15-t)*2:=by rw[show 16-t=15-t+1 by omega,a7c,Int.mul_comm]
 rw[show 16-(t+1)=15-t by omega,e,<-Int.ediv_ediv_of_nonneg (Int.le_of_lt (b7W _))]
 omega
theorem VIn.step {x D R0:Int}{t:Nat}{y R:Int}(h:VIn x D R0 t y R)(ht:t<16):
 (2*R+x/p2 (15-t)%2<D->VIn x D R0 (t+1) (2*y) (2*R+x/p2 (15-t)%2)) /\
 (D<=2*R+x/p2 (15-t)%2->VIn x D R0 (t+1) (2*y+1) (2*R+x/p2 (15-t)%2-D)):=by
 obtain⟨h1,h2,h3,h4,h5,h6⟩:=h
 have hb:=b7r x t ht
 have e1:R0*p2 (t+1)+x/p2 (16-(t+1))=2*(y*D+R)+x/p2 (15-t)%2:=by
  rw[hb,a7c,<-h5,Int.mul_add,<-Int.mul_assoc,Int.mul_comm R0 2,Int.mul_assoc,Int.add_assoc]
 have ps:=a7c t
 have c0:=Int.emod_nonneg (x/p2 (15-t)) (show (2:Int)≠0 by decide)
 have c1:=Int.emod_lt_of_pos (x/p2 (15-t)) (show (0:Int)<2 by decide)
 generalize x/p2 (15-t)%2=c at *
 constructor
 ·intro hl
  exact⟨by omega,hl,by omega,by omega,by rw[e1,Int.mul_assoc];omega,ht⟩
 ·intro hl
  exact⟨by omega,by omega,by omega,by omega,by rw[e1,Int.add_mul,Int.mul_assoc];omega,ht⟩
theorem VIn.start (x D R0:Int)(x0:0<=x)(x1:x<65536)(h0:0<=R0)(h1:R0<D):VIn x D R0 0 0 R0:=
 ⟨h0,h1,by decide,by decide,by
   have e:x/p2 16=0:=Int.ediv_eq_zero_of_lt x0 x1
   show R0*p2 0+x/p2 16=0*D+R0
   rw[e];simp[p2],by decide⟩
theorem b7x.next {l:List Int}{D:Int}{k:Nat}{q:List Int}{R y R':Int}(h:b7x l D (k+1) q R)(hi:VIn (l.getD k 0) D R 16 y R'):b7x l D k (q.set k y) R':=by
 obtain⟨h1,h2,h3,h4,h5,h6,H,QH,e1,e2,e3⟩:=h
 obtain⟨i1,i2,i3,i4,i5,i6⟩:=hi
 have hk:k<q.length:=by omega
 refine⟨by rw[List.length_set];exact h1,c0e h2 _ _ i3 i4,i1,i2,by omega,?_,?_⟩
 ·intro j hj
  rw[a7v q _ _ _ hk,if_neg (by omega)]
  exact h6 j (by omega)
 ·refine⟨H*65536+l.getD k 0,QH*65536+y,?_,?_,?_⟩
  ·rw[e1,a0x,a2t]
   generalize l.getD k 0=x at *
   have:pw k*(H*65536+x)=65536*pw k*H+pw k*x:=by rw[Int.mul_add];congr 1;grind
   omega
  ·rw[b8E q _ _ hk,h6 k (by omega),Int.sub_zero,e2,a2t]
   have:pw k*(QH*65536+y)=65536*pw k*QH+pw k*y:=by rw[Int.mul_add];congr 1;grind
   omega
  ·have e4:l.getD k 0/p2 (16-16)=l.getD k 0:=by show _/p2 0=_;simp[p2]
   rw[e4] at i5
   have e5:p2 16=65536:=by decide
   rw[e5] at i5
   rw[e3,Int.add_mul,Int.add_mul,Int.mul_right_comm]
   omega
theorem b7x.start (l:List Int)(D:Int)(hD:0<D):b7x l D l.length (List.replicate l.length 0) 0:=
 ⟨by simp,b2F _,by decide,hD,Nat.le_refl _,fun k _=>a7X _ k,0,0,by rw[List.take_of_length_le (Nat.le_refl _)];omega,by rw[b2E];omega,by omega⟩
theorem b7x.done {l:List Int}{D:Int}{q:List Int}{R:Int}(h:b7x l D 0 q R):val l=val q*D+R:=by
 obtain⟨_,_,_,_,_,_,H,QH,e1,e2,e3⟩:=h
 simp[val,pw] at e1 e2
 rw[e1,e2];exact e3
end Go.Proofs.YtbddbnjhmdbkbaaGreatDoor
end
section
namespace Go.Proofs.YtbddbnjhmdbkbaaGreatDoor
open Go.RowKit Go.Deep
structure b5e (w:World)(g:Nat)(d:List Int):Prop where
 lt:g<w.heap.size
 cell:∀ i,i<d.length->w.cell? ⟨g,i,none⟩=some (.int .i64 (d.getD i 0))
 free:∀ i,i<d.length->w.frozen? ⟨g,i,none⟩=false
theorem b5e.set {w:World}{g:Nat}{d:List Int}(h:b5e w g d)(k:Nat)(hk:k<d.length)(x:Int):b5e (w.setCell ⟨g,k,none⟩ (.int .i64 x)) g (d.set k x):=by
 refine⟨by simpa[World.setCell] using h.lt,fun i hi=>?_,fun i hi=>?_⟩
 ·rw[List.length_set] at hi
  rw[a7v d k i x hk]
  by_cases e:i=k
  ·subst e;rw[if_pos rfl,World.cell?_setCell_same _ _ _ (h.cell i hi)]
  ·rw[if_neg e,World.cell?_setCell_other _ _ _ _ (by intro e';cases e';exact e rfl)];exact h.cell i hi
 ·rw[List.length_set] at hi
  rw[World.frozen?_setCell];exact h.free i hi
theorem b5e.made (w:World)(n:Nat):b5e (w.alloc (.cells (madeCells #[.int .i64 0] n) 3)) w.heap.size (List.replicate n 0):=by
 refine⟨by simp,fun i hi=>?_,fun i hi=>?_⟩
 ·simp at hi
  rw[a7X]
  exact(World.rowIs_made w (.int .i64 0) n 3).cell hi
 ·exact(World.rowIs_made w (.int .i64 0) n 3).frozen i
theorem b5e.isD {w:World}{g:Nat}{d:List Int}(h:b5e w g d)(hl:d.length<=1000):IsD w (.slice (some ⟨g,0,none⟩) d.length d.length) d:=
 ⟨_,_,rfl,hl,Nat.le_refl _,by unfold maxLen;omega,.inr ⟨g,0,rfl,h.lt,fun i hi=>by rw[Nat.zero_add];exact h.cell i hi⟩⟩
theorem b5N (q:List Int)(k:Nat)(h:k<q.length)(hz:q.getD k 0=0):q.set k 0=q:=by
 apply List.ext_getElem (by simp)
 intro i h1 h2
 rw[List.getElem_set]
 split
 ·rename_i e;subst e;rw[a2x q k h] at hz;exact hz.symm
 ·rfl
theorem c2Z (t:Nat)(h:t<=16):p2 t<=65536:=by
 have:∀ k:Nat,k<=16->p2 (16-k)<=65536:=by
  intro k
  induction k with
  | zero=>intro _;decide
  | succ k ih=>
    intro hk
    have h1:=ih (by omega)
    have h2:=a7c (16-(k+1))
    rw[show 16-(k+1)+1=16-k by omega] at h2
    have h3:=b7W (16-(k+1))
    omega
 have h1:=this (16-t) (by omega)
 rwa [show 16-(16-t)=t by omega] at h1
theorem a9W {n D q r:Int}(h:n=q*D+r)(r0:0<=r)(r1:r<D):n/D=q:=by
 subst h
 rw[Int.add_comm,Int.add_mul_ediv_right _ _ (by omega),Int.ediv_eq_zero_of_lt r0 r1,Int.zero_add]
theorem c0f:Dgs [1]:=by intro d hd;simp at hd;subst hd;decide
theorem b9D (w:World):IsD (w.alloc (.cells #[.int .i64 1] 3)) (.slice (some ⟨w.heap.size,0,none⟩) 1 1) [1]:=by
 refine⟨_,1,rfl,by decide,by decide,by unfold maxLen;omega,.inr ⟨w.heap.size,0,rfl,by simp,fun i hi=>?_⟩⟩
 have e:i=0:=by simp at hi;omega
 subst e
 simp[go_sem]
theorem a8h (q:List Int)(k:Nat)(x y:Int):(q.set k x).set k y=q.set k y:=by simp
structure c0M (s0:Nat)(na:Bool)(va:Value)(wr:World):Prop where
 a0:wr.cell? ⟨s0,0,none⟩=some (.bool na)
 a1:wr.cell? ⟨s0,1,none⟩=some va
 c0:wr.cell? ⟨s0+1,0,none⟩=some (.bool false)
 c1:wr.cell? ⟨s0+1,1,none⟩=some (.slice none 0 0)
 f0:wr.frozen? ⟨s0+1,0,none⟩=false
 f1:wr.frozen? ⟨s0+1,1,none⟩=false
theorem c0M.later {s0:Nat}{na:Bool}{va:Value}{wr w':World}(h:c0M s0 na va wr)(hb:Below (s0+1+1) wr w'):c0M s0 na va w':=
 ⟨(hb.cell (p:=⟨s0,0,none⟩) (by simp<;>omega)).trans h.a0,(hb.cell (p:=⟨s0,1,none⟩) (by simp<;>omega)).trans h.a1,(hb.cell (p:=⟨s0+1,0,none⟩) (by simp<;>omega)).trans h.c0,(hb.cell (p:=⟨s0+1,1,none⟩) (by simp<;>omega)).trans h.c1,(hb.frozen (p:=⟨s0+1,0,none⟩) (by simp<;>omega)).trans h.f0,(hb.frozen (p:=⟨s0+1,1,none⟩) (by simp<;>omega)).trans h.f1⟩
set_option maxHeartbeats 4000000 in
theorem b7D (na:Bool)(sa:Value)(la:List Int)(a D:Int)(w:World)(ha:a7T w na sa la a)(ka:la.length<=400)(D0:1<=D)(D1:D<9223372036854775808):
 Calls Tryz.prog 193 #[.agg #[.bool na,sa],.int .i64 D] w (a5c w (a/D)):=by
 obtain⟨Ia,da,ta,ea⟩:=ha
 have EA:Hid _:=ea
 clear ea
 have IA:=Ia
 obtain⟨aa,ca,rfl,_,_,_,hA⟩:=Ia
 have hmk:=run_make_row' (P:=Tryz.prog) 162 3 (.int .i64 0) 8 Tryz.underlying162 a3V rfl .i64 .i64 la.length (by omega) (by omega)
 go_enter Tryz.func193,Tryz.ntmps193
 go_wp2_with fail
 have rw0:=b5e.made ((w.alloc (.cells #[.bool na,.slice aa la.length ca] 164)).alloc (.cells #[.bool false,.slice none 0 0] 164)) la.length
 have mm0:c0M w.heap.size na (.slice aa la.length ca) (((w.alloc (.cells #[.bool na,.slice aa la.length ca] 164)).alloc (.cells #[.bool false,.slice none 0 0] 164)).alloc (.cells (madeCells #[.int .i64 0] la.length) 3)):=by
  constructor<;>simp[go_sem]
 have bl0:Below w.heap.size w (((w.alloc (.cells #[.bool na,.slice aa la.length ca] 164)).alloc (.cells #[.bool false,.slice none 0 0] 164)).alloc (.cells (madeCells #[.int .i64 0] la.length) 3)):=a1g _ _ _ _
 have st:=b7x.start la D (by omega)
 clear hmk
 go_loopw [6,7] (fun r i wr=>∃ (m:Nat) (R:Int) (q:List Int),r=.int .u64 R/\i=.int .i64 ((m:Int)-1)/\b7x la D m q R/\b5e wr (w.heap.size+1+1) q/\c0M w.heap.size na (.slice aa la.length ca) wr/\Below w.heap.size w wr) (fun _ i _=>(intOf i+1).toNat)
 case atStart=>exact⟨la.length,0,_,rfl,rfl,st,by simpa using rw0,mm0,bl0⟩
 case round=>
  clear rw0 mm0 bl0 st
  obtain⟨m,R,q,rfl,rfl,inv,row,mm,bl⟩:=hrel
  have m1:=mm.a0
  have m2:=mm.a1
  have hm:=inv.bd
  by_cases hm0:m=0
  ·subst hm0
   have hv:=inv.done
   have r0:=inv.r0
   have r1:=inv.r1
   have qb:=(a3x q inv.dg).1
   have hln:q.length<=1000:=by have:=inv.len;omega
   have hI:=row.isD hln
   rw[inv.len] at hI
   have m5:=mm.c0
   have m6:=mm.c1
   have m7:=mm.f0
   have m8:=mm.f1
   have HV:Hid _:=hv
   have hz0:w.heap.size<wr.heap.size:=by have:=row.lt;omega
   have hz1:w.heap.size+1<wr.heap.size:=by have:=row.lt;omega
   have hql4:q.length<=400:=by have:=inv.len;omega
   clear hv hA
   go_wp2_with fail
   refine(a4R _ q _ hI inv.dg).mono ?_
   rintro e w1 ⟨s',l',rfl,I',d',t',v',hw⟩
   subst hw
   have l4:l'.length<=400:=b7Z l' d' t' 400 (by rw[v'];have h1:=(a3x q inv.dg).2;have h2:=a5m hql4;omega)
   have V':Hid _:=v'
   clear v'
   by_cases hsr:na=true/\0<R
   ·obtain⟨rfl,hR⟩:=hsr
    have en:a/D=sg true (val l'+1):=by
     show a/D = -(val l'+1)
     rw[EA.out,V'.out]
     exact a9W (r:=D-R) (by show -val la=_;rw[HV.out,Int.neg_mul,Int.add_mul];omega) (by omega) (by omega)
    have EN:Hid _:=en
    clear en
    have I2:=I'
    obtain⟨a',c',rfl,_⟩:=I'
    go_wp2_with fail
    refine(b2T _ _ l' [1] _ (I2.later ((Below.refl _ _).alloc (Nat.le_refl _) _)) (b9D _) d' c0f (by omega) (by decide)).mono ?_
    rintro e w2 ⟨s2,l2,rfl,I3,d3,t3,v3,hb2⟩
    have g1:=hb2.cell (p:=⟨w.heap.size,0,none⟩) (by simp;omega)
    have g5:=hb2.cell (p:=⟨w.heap.size+1,0,none⟩) (by simp;omega)
    have g6:=hb2.cell (p:=⟨w.heap.size+1,1,none⟩) (by simp;omega)
    have g7:=hb2.frozen (p:=⟨w.heap.size+1,0,none⟩) (by simp;omega)
    have g8:=hb2.frozen (p:=⟨w.heap.size+1,1,none⟩) (by simp;omega)
    simp[go_sem,hz0,hz1,m1,m5,m6,m7,m8] at g1 g5 g6 g7 g8
    have V3:Hid _:=v3
    clear v3
    have I4:=I3
    obtain⟨a2,c2,rfl,_⟩:=I3
    go_wp2_with fail
    refine bodyPost_ret (v:=.agg #[.bool true,.slice a2 l2.length c2]) (by simp[results,Tryz.results193,go_sem,g5,g6]) rfl ⟨_,_,l2,rfl,⟨?_,d3,t3,by rw[EN.out,V3.out];rfl⟩,?_⟩
    ·exact a4u I4 _ g5 g6 _ _
    ·exact(((bl.alloc (by omega) _).trans (hb2.mono (by simp;omega))).setCell (by simp) _).setCell (by simp) _
   ·have en:a/D=sg na (val l'):=by
     rw[EA.out,V'.out]
     cases na
     ·exact a9W (r:=R) HV.out r0 r1
     ·have hR:R=0:=by simp at hsr;omega
      exact a9W (r:=0) (by show -val la = -val q*D+0;rw[HV.out,hR,Int.neg_mul];omega) (by omega) (by omega)
    have EN:Hid _:=en
    clear en
    have I2:=I'
    obtain⟨a',c',rfl,_⟩:=I'
    cases na
    ·go_wp2_with fail
     refine bodyPost_ret (v:=.agg #[.bool false,.slice a' l'.length c']) (by simp[results,Tryz.results193,go_sem,m5,m6]) rfl ⟨_,_,l',rfl,⟨?_,d',t',EN.out⟩,?_⟩
     ·exact a4u I2 _ m5 m6 _ _
     ·exact(bl.setCell (by simp) _).setCell (by simp) _
    ·have hR:R=0:=by simp at hsr;omega
     subst hR
     go_wp2_with fail
     refine bodyPost_ret (v:=.agg #[.bool true,.slice a' l'.length c']) (by simp[results,Tryz.results193,go_sem,m5,m6]) rfl ⟨_,_,l',rfl,⟨?_,d',t',EN.out⟩,?_⟩
     ·exact a4u I2 _ m5 m6 _ _
     ·exact(bl.setCell (by simp) _).setCell (by simp) _
  ·obtain⟨k,rfl⟩:∃ k,m=k+1:=⟨m-1,by omega⟩
   rcases hA with hA | ⟨ba,oa,rfl,h5,h6⟩
   ·subst hA;simp at hm
   have ek:(((k+1:Nat):Int)-1)=(k:Int):=by omega
   rw[ek]
   have k1:(k:Int)<(la.length:Int):=by omega
   have gx:=a0S la da k
   have hin:=VIn.start (la.getD k 0) D R gx.1 gx.2 inv.r0 inv.r1
   have hql:=inv.len
   have hqz:=inv.zs k (by omega)
   have row':b5e wr (w.heap.size+1+1) (q.set k 0):=by rw[b5N q k (by omega) hqz];exact row
   have HQ:Hid _:=hql
   have HZ:Hid _:=hqz
   clear hqz hql
   go_wp2_with fail
   go_loopw [6,8] (fun r j wr2=>∃ (c:Nat) (y R':Int),r=.int .u64 R'/\j=.int .i64 ((c:Int)-1)/\c<=16/\VIn (la.getD k 0) D R (16-c) y R'/\b5e wr2 (w.heap.size+1+1) (q.set k y)/\c0M w.heap.size na (.slice (some ⟨ba,oa,none⟩) la.length ca) wr2/\Below w.heap.size w wr2) (fun _ j _=>(intOf j+1).toNat)
   case atStart=>exact⟨16,0,R,rfl,rfl,by omega,hin,row',mm,bl⟩
   case round=>
    clear m1 m2 mm row row' bl hin
    obtain⟨c,y,R',rfl,rfl,hc,vin,row,mm,bl⟩:=hrel
    have m1:=mm.a0
    have m2:=mm.a1
    by_cases hc0:c=0
    ·subst hc0
     have nx:=inv.next vin
     go_wp2_with fail
     exact⟨⟨k,R',_,rfl,rfl,nx,row,mm,bl⟩,by simp[intOf]⟩
    ·obtain⟨e,rfl⟩:∃ e,c=e+1:=⟨c-1,by omega⟩
     have ee:(((e+1:Nat):Int)-1)=(e:Int):=by omega
     rw[ee]
     have hca:wr.cell? ⟨ba,oa+k,none⟩=some (.int .i64 (la.getD k 0)):=(bl.cell (p:=⟨ba,oa+k,none⟩) h5).trans (h6 k (by omega))
     have hkl:k<(q.set k y).length:=by rw[List.length_set,HQ.out];omega
     have hcd:=row.cell k hkl
     rw[a7v q k k y (by rw[HQ.out];omega),if_pos rfl] at hcd
     have hfd:=row.free k hkl
     obtain⟨s1,s2⟩:=vin.step (by omega)
     rw[show 16-(e+1)+1=16-e by omega,show 15-(16-(e+1))=e by omega,show p2 e=2^e from rfl] at s1 s2
     have r0:=vin.r0
     have r1:=vin.r1
     have y0:=vin.y0
     have y1:y<65536:=by have h1:=vin.y1;have h2:=c2Z (16-(e+1)) (by omega);omega
     have x0:0<=la.getD k 0/2^e:=Int.ediv_nonneg gx.1 (Int.le_of_lt (Int.pow_pos (by decide)))
     have S1:Hid _:=s1
     have S2:Hid _:=s2
     have H6:Hid _:=h6
     have he:e<=15:=by omega
     have rowA:=row.set k hkl (2*y)
     rw[a8h] at rowA
     have rowB:=rowA.set k (by rw[List.length_set,HQ.out];omega) (2*y+1)
     rw[a8h] at rowB
     have HR:Hid _:=row
     have HRA:Hid _:=rowA
     have HRB:Hid _:=rowB
     clear s1 s2 h6 row rowA rowB vin
     generalize la.getD k 0=x at *
     have z0:=Int.emod_nonneg (x/2^e) (show (2:Int)≠0 by decide)
     have z1:=Int.emod_lt_of_pos (x/2^e) (show (0:Int)<2 by decide)
     by_cases hcmp:2*R'+x/2^e%2<D
     ·go_wp2_with fail
      exact⟨⟨e,2*y,_,rfl,rfl,by omega,S1.out hcmp,HRA.out,mm.later ((Below.refl _ _).setCell (by simp) _),bl.setCell (by simp;omega) _⟩,by simp[intOf]⟩
     ·go_wp2_with fail
      exact⟨⟨e,2*y+1,_,rfl,rfl,by omega,S2.out (by omega),HRB.out,mm.later (((Below.refl _ _).setCell (by simp) _).setCell (by simp) _),(bl.setCell (by simp;omega) _).setCell (by simp;omega) _⟩,by simp[intOf]⟩
theorem pw8:pw 8=340282366920938463463374607431768211456:=by decide
theorem a7T.len8 {w:World}{neg:Bool}{s:Value}{l:List Int}{n:Int}(h:a7T w neg s l n)(h0 : -340282366920938463463374607431768211456<n)(h1:n<340282366920938463463374607431768211456):l.length<=400:=by
 have:=h.len 8 (by rw[pw8];omega)
 omega
set_option maxHeartbeats 1000000 in
set_option maxHeartbeats 400000 in
theorem b3n (na:Bool)(sa:Value)(la:List Int)(a n:Int)(w:World)(ha:a7T w na sa la a)(ka:la.length<=400)(n0:1<=n)(n1:n<9223372036854775808):
 Calls Tryz.prog 105 #[.agg #[.bool na,sa],.int .i64 n] w (b5l w (a/n)):=by
 obtain⟨aa,ca,rfl,_⟩:=ha.isD
 have k:¬ n<1:=by omega
 go_enter Tryz.func105,Tryz.ntmps105
 go_wp2_with fail
 refine(b7D na _ la a n _ (ha.later ((Below.refl _ _).alloc (Nat.le_refl _) _)) ka n0 n1).mono ?_
 rintro e w1 ⟨nd,sd,ld,rfl,vd,hb1⟩
 go_wp2_with fail
 refine(b0v nd sd ld _ _ vd).mono ?_
 rintro e w2 ⟨x,b,rfl,hb,hx,hb2⟩
 go_wp2_with fail
 go_ret2
 exact⟨x,b,rfl,hb,hx,b7u (((Below.refl _ _).alloc (Nat.le_refl _) _).trans (hb1.mono (by simp))) hb2⟩
end Go.Proofs.YtbddbnjhmdbkbaaGreatDoor
end
