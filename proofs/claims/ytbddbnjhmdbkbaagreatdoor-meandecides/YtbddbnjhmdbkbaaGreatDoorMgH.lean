import Derived.KernelRfl
import Derived.Test.YtbddbnjhmdbkbaaGreatDoorChecked
import Derived.WalkKit
import Derived.WalkSpells
import Derived.Below
import Derived.BigQuiet
import Derived.Deep.RegionHeld3
import Derived.Laws.Bits64b
import Derived.Deep.OwnRows
import Derived.Deep.QuietTactic
section
namespace Go.Proofs.YtbddbnjhmdbkbaaGreatDoor
def val:List Int->Int
 | []=>0
 | d::r=>d+65536*val r
def Dgs (l:List Int):Prop:=∀ d∈l,0<=d/\d<65536
def b3r (l:List Int):Prop:=∀ k,l.length=k+1->l.getD k 0≠0
def pw (k:Nat):Int:=65536^k
theorem a2s (k:Nat):pw (k+1)=65536*pw k:=by unfold pw;rw[Int.pow_succ,Int.mul_comm]
theorem a9f (k:Nat):0<pw k:=Int.pow_pos (by decide)
theorem c0F:pw 0=1:=rfl
theorem a5O {a b:Nat}(h:a<=b):pw a<=pw b:=by
 induction h with
 | refl=>exact Int.le_refl _
 | @step m _ ih=>have:=a2s m;have:=a9f m;have e:pw (m+1)=pw (Nat.succ m):=rfl;omega
theorem pw4:pw 4=18446744073709551616:=by decide
theorem c0b:val []=0:=rfl
theorem b2d (a b:List Int):val (a++b)=val a+pw a.length*val b:=by
 induction a with
 | nil=>simp[val,pw]
 | cons d r ih=>
   show d+65536*val (r++b)=d+65536*val r+pw (r.length+1)*val b
   rw[ih,a2s,Int.mul_add,Int.mul_assoc,Int.add_assoc]
theorem a5q (l:List Int)(d:Int):val (l++[d])=val l+pw l.length*d:=by
 rw[b2d];simp[val]
theorem a2H (l:List Int)(k:Nat)(h:k<l.length):l.getD k 0=l[k]:=by simp[List.getD,h]
theorem a1O (l:List Int)(k:Nat)(h:l.length<=k):l.getD k 0=0:=by simp[List.getD,h]
theorem b8k (l:List Int)(k:Nat)(h:k<l.length):l.getD k 0∈l:=by
 rw[a2H l k h];exact List.getElem_mem h
theorem a0I (l:List Int)(h:Dgs l)(k:Nat):0<=l.getD k 0/\l.getD k 0<65536:=by
 by_cases hk:k<l.length
 ·exact h _ (b8k l k hk)
 ·rw[a1O l k (by omega)];decide
theorem b3L (l:List Int)(k:Nat)(h:k<l.length):l.take (k+1)=l.take k++[l.getD k 0]:=by
 rw[List.take_succ_eq_append_getElem h,a2H l k h]
theorem a0w (l:List Int)(k:Nat):val (l.take (k+1))=val (l.take k)+pw k*l.getD k 0:=by
 by_cases hk:k<l.length
 ·rw[b3L l k hk,a5q,List.length_take,Nat.min_eq_left (by omega)]
 ·rw[List.take_of_length_le (by omega),List.take_of_length_le (by omega),a1O l k (by omega),Int.mul_zero,Int.add_zero]
theorem a8p {l:List Int}{d:Int}(h:Dgs l)(d0:0<=d)(d1:d<65536):Dgs (l++[d]):=by
 intro x hx
 rcases List.mem_append.1 hx with hx | hx
 ·exact h x hx
 ·simp at hx;subst hx;exact⟨d0,d1⟩
theorem a3F {l:List Int}(h:Dgs l)(k:Nat):Dgs (l.take k):=fun d hd=>h d (List.mem_of_mem_take hd)
theorem a2J (l:List Int)(h:Dgs l):0<=val l/\val l<pw l.length:=by
 induction l with
 | nil=>exact⟨by decide,by decide⟩
 | cons d r ih=>
   obtain⟨i0,i1⟩:=ih (fun x hx=>h x (List.mem_cons_of_mem _ hx))
   obtain⟨d0,d1⟩:=h d (List.mem_cons_self ..)
   show 0<=d+65536*val r/\d+65536*val r<pw (r.length+1)
   rw[a2s]
   omega
theorem a3M (l:List Int)(m:Nat)(h:∀ j,m<=j->l.getD j 0=0):val (l.take m)=val l:=by
 have key:∀ k,val (l.take (m+k))=val (l.take m):=by
  intro k
  induction k with
  | zero=>rfl
  | succ k ih=>rw[<-Nat.add_assoc,a0w,h _ (by omega),ih,Int.mul_zero,Int.add_zero]
 rw[<-key l.length,List.take_of_length_le (by omega)]
theorem a7s (l:List Int)(h:Dgs l)(ht:b3r l)(k:Nat)(hk:l.length=k+1):pw k<=val l:=by
 have h1:=a0w l k
 rw[List.take_of_length_le (by omega)] at h1
 have h2:=(a2J _ (a3F h k)).1
 have h3:=ht k hk
 have h4:=(a0I l h k).1
 have h5:pw k*1<=pw k*l.getD k 0:=Int.mul_le_mul_of_nonneg_left (by omega) (Int.le_of_lt (a9f k))
 omega
theorem b9u (l:List Int)(h:Dgs l)(ht:b3r l)(k:Nat)(hv:val l<pw k):l.length<=k:=by
 by_cases hl:l.length=0
 ·omega
 ·have h1:=a7s l h ht (l.length-1) (by omega)
  by_cases hk:l.length<=k
  ·exact hk
  ·have:=a5O (show k<=l.length-1 by omega)
   omega
theorem b6N:b3r []:=fun k hk=>by simp at hk
theorem b0K:Dgs []:=fun d hd=>by simp at hd
theorem a8J {l:List Int}{m:Nat}(h:m=0\/l.getD (m-1) 0≠0)(hm:m<=l.length):b3r (l.take m):=by
 intro k hk
 rw[List.length_take,Nat.min_eq_left hm] at hk
 rcases h with h | h
 ·omega
 ·subst hk
  rw[List.getD_eq_getElem?_getD,List.getElem?_take,if_pos (by omega),<-List.getD_eq_getElem?_getD]
  simpa using h
end Go.Proofs.YtbddbnjhmdbkbaaGreatDoor
end
section
namespace Go.Proofs.YtbddbnjhmdbkbaaGreatDoor
open Go.RowKit
def IsD (w:World)(v:Value)(l:List Int):Prop:=
 ∃ a c,v=.slice a l.length c/\l.length<=1000/\l.length<=c/\c<=maxLen/\(l=[]\/∃ b off,a=some ⟨b,off,none⟩/\b<w.heap.size/\∀ i,i<l.length->w.cell? ⟨b,off+i,none⟩=some (.int .i64 (l.getD i 0)))
theorem IsD.later {w w':World}{v:Value}{l:List Int}(h:IsD w v l)(hb:Below w.heap.size w w'):IsD w' v l:=by
 obtain⟨a,c,e,h1,h2,hc,h3⟩:=h
 refine⟨a,c,e,h1,h2,hc,?_⟩
 rcases h3 with h3 | ⟨b,off,h4,h5,h6⟩
 ·exact .inl h3
 ·exact .inr ⟨b,off,h4,Nat.lt_of_lt_of_le h5 hb.size,fun i hi=>(hb.cell (p:=⟨b,off+i,none⟩) h5).trans (h6 i hi)⟩
theorem b4Z (w:World):IsD w (.slice none 0 0) []:=⟨none,0,rfl,by simp,by simp,by unfold maxLen;omega,.inl rfl⟩
theorem a1F {w:World}{base:Nat}{v:Value}{l:List Int}(hl:l.length<=1000)(h:w.ownsRow base 3 1 v l.length (l.map (Value.int .i64))):IsD w v l:=by
 have H:=h
 obtain⟨_,h | ⟨g,cap,cur,e,hg,hh,h1,h2,h3,h4⟩⟩:=h
 ·obtain⟨e,h0⟩:=h
  have:l=[]:=List.length_eq_zero_iff.1 h0
  subst this;subst e
  exact b4Z w
 ·subst e
  refine⟨_,cap,rfl,hl,h1,h2,.inr ⟨g,0,rfl,(H.lt g rfl).2,fun i hi=>?_⟩⟩
  rw[Nat.zero_add,H.cellAt i (by omega),List.getElem?_map,List.getElem?_eq_getElem hi,a2H l i hi]
  rfl
theorem IsD.take {w:World}{a:Option Addr}{c:Nat}{l:List Int}(h:IsD w (.slice a l.length c) l)(m:Nat)(hm:m<=l.length):IsD w (.slice a m c) (l.take m):=by
 obtain⟨a',c',e,h1,h2,hc,h3⟩:=h
 cases e
 have hl:(l.take m).length=m:=by rw[List.length_take];omega
 refine⟨a,c,by rw[hl],by omega,by omega,hc,?_⟩
 rcases h3 with h3 | ⟨b,off,h4,h5,h6⟩
 ·exact .inl (by rw[h3];simp)
 ·refine .inr ⟨b,off,h4,h5,fun i hi=>?_⟩
  rw[hl] at hi
  rw[h6 i (by omega)]
  congr 2
  rw[a2H l i (by omega),a2H _ i (by rw[hl];exact hi),List.getElem_take]
set_option maxHeartbeats 400000 in
theorem c3n (v:Value)(l:List Int)(i:Int)(i0:0<=i)(i1:i<=100000)(w:World)(h:IsD w v l):
 Calls Tryz.prog 281 #[v,.int .i64 i] w fun e w'=>e=.returned (.int .i64 (l.getD i.toNat 0))/\w'=w:=by
 obtain⟨a,c,rfl,h1,h2,hc,h3⟩:=h
 obtain⟨k,rfl⟩:=Int.eq_ofNat_of_zero_le i0
 rw[Int.toNat_natCast]
 by_cases hk:k<l.length
 ·rcases h3 with h3 | ⟨b,off,rfl,h5,h6⟩
  ·subst h3;simp at hk
  ·have hcell:=h6 k hk
   have hk':(k:Int)<(l.length:Int):=by omega
   generalize l.getD k 0=x at *
   generalize l.length=n at *
   clear h6
   go_enter Tryz.func281,Tryz.ntmps281
   go_wp2_with fail
   go_ret
   exact⟨rfl,rfl⟩
 ·rw[a1O l k (by omega)]
  have hk':¬(k:Int)<(l.length:Int):=by omega
  generalize l.length=n at *
  clear h3
  go_enter Tryz.func281,Tryz.ntmps281
  go_wp2_with fail
  go_ret
  exact⟨rfl,rfl⟩
set_option maxHeartbeats 400000 in
theorem a4j (v:Value)(l:List Int)(w:World)(h:IsD w v l)(hd:Dgs l):
 Calls Tryz.prog 255 #[v] w fun e w'=>∃ v' l',e=.returned v'/\IsD w v' l'/\Dgs l'/\b3r l'/\val l'=val l/\w'=w:=by
 have H:=h
 obtain⟨a,c,rfl,h1,h2,hc,h3⟩:=h
 unfold maxLen at hc
 go_enter Tryz.func255,Tryz.ntmps255
 go_wp2_with fail
 go_loop [3] (fun n=>∃ m:Nat,n=.int .i64 m/\m<=l.length/\∀ j,m<=j->l.getD j 0=0) (fun n=>(intOf n).toNat)
 case atStart=>exact⟨l.length,rfl,Nat.le_refl _,fun j hj=>a1O l j hj⟩
 case round=>
  obtain⟨m,rfl,hm,hz⟩:=hrel
  by_cases hm0:m=0
  ·subst hm0
   go_wp2_with fail
   go_ret
   exact⟨_,rfl,_,IsD.take H 0 (Nat.zero_le _),a3F hd 0,a8J (.inl rfl) (Nat.zero_le _),a3M l 0 hz,rfl⟩
  ·rcases h3 with h3 | ⟨b,off,rfl,h5,h6⟩
   ·subst h3;simp at hm;omega
   ·obtain⟨k,rfl⟩:∃ k,m=k+1:=⟨m-1,by omega⟩
    have hcell:=h6 k (by omega)
    have HH:Hid _:=h6
    have HZ:Hid _:=hz
    clear h6 hz
    by_cases hx:l.getD k 0=0
    ·rw[hx] at hcell
     have hk:(k:Int)<(l.length:Int):=by omega
     go_wp2_with fail
     go_round
     case rel=>
      refine⟨k,by go_num,by omega,fun j hj=>?_⟩
      by_cases e:j=k
      ·subst e;exact hx
      ·exact HZ.out j (by omega)
     case measure=>simp[intOf]
    ·have hx':(l.getD k 0==0)=false:=beq_eq_false_iff_ne.2 hx
     have hk:(k:Int)<(l.length:Int):=by omega
     have hkc:(k:Int)+1<=(c:Int):=by omega
     have T:=IsD.take H (k+1) hm
     have T2:b3r (l.take (k+1)):=a8J (.inr hx) hm
     have T3:=a3M l (k+1) HZ.out
     generalize l.getD k 0=x at *
     go_wp2_with fail
     go_ret
     exact⟨_,rfl,_,T,a3F hd _,T2,T3,rfl⟩
theorem a3p:(Tryz.prog.info? 3).map (fun i=>(i.zero,i.size,i.bytes))=some (some (.int .i64 0),1,8):=by kernel_rfl
theorem a2x {w:World}{B:Nat}{v:Value}{ds:List Int}{d:Int}(h:w.ownsRow B 3 1 v (ds.length+1) (ds.map (Value.int .i64)++[.int .i64 d])):w.ownsRow B 3 1 v (ds++[d]).length ((ds++[d]).map (Value.int .i64)):=by
 simpa using h
theorem a1d {B:Nat}{W wr w':World}{v:Value}{n:Nat}{xs:List Value}(hbl:Below B W wr)(hs:B<=wr.heap.size)(o:Obj)(hown:wr.ownsRow B 3 1 v n xs)(hg:(wr.alloc o).grownBy w' v.ownBlock):Below B W w':=
 (hbl.alloc hs o).grown hg (by simp;omega) (fun k hk=>(hown.lt k hk).1)
structure a6y (U x:Int)(ds:List Int):Prop where
 eq:val ds+pw ds.length*x=U
 dg:Dgs ds
 x0:0<=x
 bd:(ds.length=0/\x<18446744073709551616)\/(ds.length=1/\x<281474976710656)\/(ds.length=2/\x<4294967296)\/(ds.length=3/\x<65536)\/(ds.length=4/\x=0)
 tr:x=0->b3r ds
theorem a6y.step {U x:Int}{ds:List Int}(h:a6y U x ds)(hx:0<x):a6y U (x/65536) (ds++[x%65536]):=by
 obtain⟨h1,h2,h3,h4,h5⟩:=h
 refine⟨?_,a8p h2 (by omega) (by omega),by omega,?_,?_⟩
 ·rw[a5q,List.length_append,List.length_singleton,a2s,Int.mul_comm 65536,Int.mul_assoc,Int.add_assoc,<-Int.mul_add]
  rw[show x%65536+65536*(x/65536)=x by omega]
  exact h1
 ·rw[List.length_append,List.length_singleton];omega
 ·intro hz k hk
  rw[List.length_append,List.length_singleton] at hk
  have e:k=ds.length:=by omega
  subst e
  rw[a2H _ _ (by simp),List.getElem_append_right (Nat.le_refl _)]
  simp
  omega
theorem a6y.len {U x:Int}{ds:List Int}(h:a6y U x ds):ds.length<=4:=by have:=h.bd;omega
theorem a6y.lt {U x:Int}{ds:List Int}(h:a6y U x ds):x<18446744073709551616:=by have:=h.bd;omega
def sg:Bool->Int->Int
 | true,x=>-x
 | false,x=>x
structure a5a (w:World)(neg:Bool)(s:Value)(l:List Int)(n:Int):Prop where
 isD:IsD w s l
 dg:Dgs l
 tr:b3r l
 num:n=sg neg (val l)
theorem a5a.later {w w':World}{neg:Bool}{s:Value}{l:List Int}{n:Int}(h:a5a w neg s l n)(hb:Below w.heap.size w w'):a5a w' neg s l n:=⟨h.isD.later hb,h.dg,h.tr,h.num⟩
def a3i (w:World)(n:Int)(e:Ending)(w':World):Prop:=∃ neg s l,e=.returned (.agg #[.bool neg,s])/\a5a w' neg s l n/\Below w.heap.size w w'
set_option maxHeartbeats 1000000 in
theorem a1n (v:Int)(v0 : -9223372036854775808<=v)(v1:v<9223372036854775808)(w:World):
 Calls Tryz.prog 192 #[.int .i64 v] w (a3i w v):=by
 have hu:∃ U:Int,U=v.natAbs:=⟨_,rfl⟩
 obtain⟨U,hU⟩:=hu
 have U0:0<=U:=by omega
 have U1:U<18446744073709551616:=by omega
 have sI:a6y U U []:=⟨by rw[c0b];show 0+pw 0*U=U;rw[c0F];omega,b0K,U0,.inl ⟨rfl,U1⟩,fun _=>b6N⟩
 obtain⟨i0,hi,hz0,hz1,hz2⟩:=info_parts a3p
 by_cases hn:v<0
 ·have EV:Hid (v = -U):=(by omega:v = -U)
  have e1:IntKind.u64.wrap (-IntKind.u64.wrap v)=U:=by rw[IntKind.wrap_u64,IntKind.wrap_u64];omega
  have E1:Hid _:=e1
  clear e1 hU
  go_enter Tryz.func192,Tryz.ntmps192
  go_wp2_with fail
  rw[E1.out]
  go_loopw [4,5] (fun u s wr=>∃ (x:Int) (ds:List Int),u=.int .u64 x/\wr.ownsRow (w.heap.size+1) 3 1 s ds.length (ds.map (Value.int .i64))/\Below (w.heap.size+1) (w.alloc (.cells #[.bool false,.slice none 0 0] 164)) wr/\a6y U x ds) (fun u _ _=>(intOf u).toNat)
  case atStart=>exact⟨U,[],rfl,World.ownsRow_nil _ _ _ _,Below.refl _ _,sI⟩
  case round=>
   obtain⟨x,ds,rfl,hown,hbl,inv⟩:=hrel
   have x0:=inv.x0
   have x1:=inv.lt
   have hln:=inv.len
   have hsz:w.heap.size+1<=wr.heap.size:=by have:=hbl.size;simpa using this
   by_cases hx:0<x
   ·have nx:=inv.step hx
    go_wp2_with (first
     | (at_builtin;refine wpList_append_own _ rfl _ _ 162 rfl (w.heap.size+1) 3 i0 (.int .i64 0) 1 8 Tryz.underlying162 hi hz0 hz1 hz2 rfl (by decide) _ _ _ rfl (hown.alloc _) ⟨wr.heap.size,0,none⟩ 1 1 [.int .i64 (x%65536)] rfl rfl ?c1 ?c2 ?c3 ?c4 ?c5 ?_))
    case c1=>exact cell_one_new _ _ _
    case c2=>intro u hu;simp at hu;subst hu;rfl
    case c3=>unfold maxLen;omega
    case c4=>omega
    case c5=>simp;omega
    intro v' w1 hown' hgrow _
    have hown2:=a2x hown'
    have hbl2:=a1d hbl hsz _ hown hgrow
    clear hown' hgrow
    go_wp2_with fail
    go_roundw
    case rel=>exact⟨x/65536,ds++[x%65536],rfl,hown2,hbl2,nx⟩
    case measure=>simp[intOf];omega
   ·have hx':x=0:=by omega
    subst hx'
    have eU:=inv.eq
    rw[Int.mul_zero,Int.add_zero] at eU
    have EU:Hid _:=eU
    have dR0:=hbl.cell (p:=⟨w.heap.size,0,none⟩) (by simp)
    have dR1:=hbl.cell (p:=⟨w.heap.size,1,none⟩) (by simp)
    have gR0:=hbl.frozen (p:=⟨w.heap.size,0,none⟩) (by simp)
    have gR1:=hbl.frozen (p:=⟨w.heap.size,1,none⟩) (by simp)
    simp[go_sem] at dR0 dR1 gR0 gR1
    clear eU
    obtain⟨sa,sc,rfl,_⟩:=a1F (by omega) hown
    go_wp2_with fail
    refine bodyPost_ret (v:=.agg #[.bool true,.slice sa ds.length sc]) (by simp[results,Tryz.results192,go_sem,dR0,dR1]) rfl ⟨_,_,ds,rfl,⟨?_,inv.dg,inv.tr rfl,by rw[EV.out,<-EU.out];rfl⟩,?_⟩
    ·refine a1F (by omega) (base:=w.heap.size+1) ?_
     exact ownsRow_setCell_below (ownsRow_setCell_below hown (by simp) _) (by simp) _
    ·exact((((Below.refl _ _).alloc (Nat.le_refl _) _).trans (hbl.mono (by omega))).setCell (by simp) _).setCell (by simp) _
 ·skip
  have e1:v=U:=by omega
  subst e1
  clear hU
  go_enter Tryz.func192,Tryz.ntmps192
  go_wp2_with fail
  go_loopw [4,5] (fun u s wr=>∃ (x:Int) (ds:List Int),u=.int .u64 x/\wr.ownsRow (w.heap.size+1) 3 1 s ds.length (ds.map (Value.int .i64))/\Below (w.heap.size+1) (w.alloc (.cells #[.bool false,.slice none 0 0] 164)) wr/\a6y v x ds) (fun u _ _=>(intOf u).toNat)
  case atStart=>exact⟨v,[],rfl,World.ownsRow_nil _ _ _ _,Below.refl _ _,sI⟩
  case round=>
   obtain⟨x,ds,rfl,hown,hbl,inv⟩:=hrel
   have x0:=inv.x0
   have x1:=inv.lt
   have hln:=inv.len
   have hsz:w.heap.size+1<=wr.heap.size:=by have:=hbl.size;simpa using this
   by_cases hx:0<x
   ·have nx:=inv.step hx
    go_wp2_with (first
     | (at_builtin;refine wpList_append_own _ rfl _ _ 162 rfl (w.heap.size+1) 3 i0 (.int .i64 0) 1 8 Tryz.underlying162 hi hz0 hz1 hz2 rfl (by decide) _ _ _ rfl (hown.alloc _) ⟨wr.heap.size,0,none⟩ 1 1 [.int .i64 (x%65536)] rfl rfl ?c1 ?c2 ?c3 ?c4 ?c5 ?_))
    case c1=>exact cell_one_new _ _ _
    case c2=>intro u hu;simp at hu;subst hu;rfl
    case c3=>unfold maxLen;omega
    case c4=>omega
    case c5=>simp;omega
    intro v' w1 hown' hgrow _
    have hown2:=a2x hown'
    have hbl2:=a1d hbl hsz _ hown hgrow
    clear hown' hgrow
    go_wp2_with fail
    go_roundw
    case rel=>exact⟨x/65536,ds++[x%65536],rfl,hown2,hbl2,nx⟩
    case measure=>simp[intOf];omega
   ·have hx':x=0:=by omega
    subst hx'
    have eU:=inv.eq
    rw[Int.mul_zero,Int.add_zero] at eU
    have EU:Hid _:=eU
    have dR0:=hbl.cell (p:=⟨w.heap.size,0,none⟩) (by simp)
    have dR1:=hbl.cell (p:=⟨w.heap.size,1,none⟩) (by simp)
    have gR0:=hbl.frozen (p:=⟨w.heap.size,0,none⟩) (by simp)
    have gR1:=hbl.frozen (p:=⟨w.heap.size,1,none⟩) (by simp)
    simp[go_sem] at dR0 dR1 gR0 gR1
    clear eU
    obtain⟨sa,sc,rfl,_⟩:=a1F (by omega) hown
    go_wp2_with fail
    refine bodyPost_ret (v:=.agg #[.bool false,.slice sa ds.length sc]) (by simp[results,Tryz.results192,go_sem,dR0,dR1]) rfl ⟨_,_,ds,rfl,⟨?_,inv.dg,inv.tr rfl,EU.out.symm⟩,?_⟩
    ·refine a1F (by omega) (base:=w.heap.size+1) ?_
     exact ownsRow_setCell_below (ownsRow_setCell_below hown (by simp) _) (by simp) _
    ·exact((((Below.refl _ _).alloc (Nat.le_refl _) _).trans (hbl.mono (by omega))).setCell (by simp) _).setCell (by simp) _
theorem a4I (v:Value)(l:List Int)(k:Nat)(hk:k<=100000)(w:World)(h:IsD w v l):
 Calls Tryz.prog 281 #[v,.int .i64 k] w fun e w'=>e=.returned (.int .i64 (l.getD k 0))/\w=w':=by
 have h1:=c3n v l k (by omega) (by omega) w h
 rw[Int.toNat_natCast] at h1
 exact h1.mono fun e w' h2=>⟨h2.1,h2.2.symm⟩
structure a7l (la lb:List Int)(k:Nat)(cy:Int)(ds:List Int):Prop where
 len:ds.length=k
 dg:Dgs ds
 c0:0<=cy
 c1:cy<=1
 bd:k<=max la.length lb.length\/(k=max la.length lb.length+1/\cy=0)
 eq:val ds+pw k*cy=val (la.take k)+val (lb.take k)
theorem a7l.step {la lb:List Int}{k:Nat}{cy:Int}{ds:List Int}(h:a7l la lb k cy ds)(ha:Dgs la)(hb:Dgs lb)(hc:k<max la.length lb.length\/0<cy):
 a7l la lb (k+1) ((la.getD k 0+lb.getD k 0+cy)/65536) (ds++[(la.getD k 0+lb.getD k 0+cy)%65536]):=by
 obtain⟨h1,h2,h3,h4,h5,h6⟩:=h
 have a0:=a0I la ha k
 have b0:=a0I lb hb k
 refine⟨by rw[List.length_append,List.length_singleton,h1],a8p h2 (by omega) (by omega),by omega,by omega,?_,?_⟩
 ·by_cases hk:k<max la.length lb.length
  ·exact .inl hk
  ·have e:k=max la.length lb.length:=by omega
   have ea:=a1O la k (by omega)
   have eb:=a1O lb k (by omega)
   rw[ea,eb]
   exact .inr ⟨by omega,by omega⟩
 ·rw[a5q,h1,a0w,a0w,a2s]
  generalize la.getD k 0=x at *
  generalize lb.getD k 0=y at *
  have e1:pw k*((x+y+cy)%65536)+65536*pw k*((x+y+cy)/65536)=pw k*(x+y+cy):=by
   rw[Int.mul_comm 65536,Int.mul_assoc,<-Int.mul_add,show (x+y+cy)%65536+65536*((x+y+cy)/65536)=x+y+cy by omega]
  rw[Int.mul_add,Int.mul_add] at e1
  omega
theorem a7l.done {la lb:List Int}{k:Nat}{ds:List Int}(h:a7l la lb k 0 ds)(hk:max la.length lb.length<=k):val ds=val la+val lb:=by
 have e:=h.eq
 rw[List.take_of_length_le (by omega),List.take_of_length_le (by omega),Int.mul_zero,Int.add_zero] at e
 exact e
def b9O (w:World)(n:Int)(e:Ending)(w':World):Prop:=∃ s l,e=.returned s/\IsD w' s l/\Dgs l/\b3r l/\val l=n/\Below w.heap.size w w'
set_option maxHeartbeats 1000000 in
theorem b3N (va vb:Value)(la lb:List Int)(w:World)(ha:IsD w va la)(hb:IsD w vb lb)(da:Dgs la)(db:Dgs lb)(na:la.length<=500)(nb:lb.length<=500):
 Calls Tryz.prog 252 #[va,vb] w (b9O w (val la+val lb)):=by
 obtain⟨i0,hi,hz0,hz1,hz2⟩:=info_parts a3p
 have Ha:=ha
 have Hb:=hb
 obtain⟨aa,ca,rfl,_⟩:=ha
 obtain⟨ab,cb,rfl,_⟩:=hb
 go_enter Tryz.func252,Tryz.ntmps252
 go_wp2_with fail
 go_loopw [5,6,7] (fun d c i wr=>∃ (k:Nat) (cy:Int) (ds:List Int),c=.int .i64 cy/\i=.int .i64 k/\wr.ownsRow w.heap.size 3 1 d ds.length (ds.map (Value.int .i64))/\Below w.heap.size w wr/\a7l la lb k cy ds) (fun _ _ i _=>2000-(intOf i).toNat)
 case atStart=>exact⟨0,0,[],rfl,rfl,World.ownsRow_nil _ _ _ _,Below.refl _ _,⟨rfl,b0K,by decide,by decide,.inl (Nat.zero_le _),rfl⟩⟩
 case round=>
  obtain⟨k,cy,ds,rfl,rfl,hown,hbl,inv⟩:=hrel
  have c0:=inv.c0
  have c1:=inv.c1
  have hk:=inv.bd
  have hk5:k<=501:=by omega
  have hln:ds.length<=501:=by have:=inv.len;omega
  by_cases hab:la.length<lb.length
  ·skip
   by_cases hm:k<lb.length
   ·have HC:k<max la.length lb.length\/0<cy:=.inl (by omega)
    have nx:=inv.step da db HC
    have hIa:=Ha.later hbl
    have hsz:=hbl.size
    have hIb:=Hb.later hbl
    have ga:=a0I la da k
    have gb:=a0I lb db k
    have hka:k<=100000:=by omega
    go_wp2_with fail
    refine(a4I _ la k hka _ hIa).mono ?_
    rintro e w1 ⟨rfl,rfl⟩
    generalize la.getD k 0=x at *
    go_wp2_with fail
    refine(a4I _ lb k hka _ hIb).mono ?_
    rintro e w1 ⟨rfl,rfl⟩
    generalize lb.getD k 0=y at *
    go_wp2_with (first
     | (at_builtin;refine wpList_append_own _ rfl _ _ 162 rfl w.heap.size 3 i0 (.int .i64 0) 1 8 Tryz.underlying162 hi hz0 hz1 hz2 rfl (by decide) _ _ _ rfl (hown.alloc _) ⟨wr.heap.size,0,none⟩ 1 1 [.int .i64 ((x+y+cy)%65536)] rfl rfl ?c1 ?c2 ?c3 ?c4 ?c5 ?_))
    case c1=>exact cell_one_new _ _ _
    case c2=>intro u hu;simp at hu;subst hu;rfl
    case c3=>unfold maxLen;omega
    case c4=>omega
    case c5=>simp;omega
    intro v' w1 hown' hgrow _
    have hown2:=a2x hown'
    have hbl2:=a1d hbl hbl.size _ hown hgrow
    clear hown' hgrow
    go_wp2_with fail
    go_roundw
    case rel=>exact⟨k+1,_,_,rfl,by go_num,hown2,hbl2,nx⟩
    case measure=>simp[intOf];omega
   ·by_cases hc:0<cy
    ·have HC:k<max la.length lb.length\/0<cy:=.inr hc
     have nx:=inv.step da db HC
     have hIa:=Ha.later hbl
     have hsz:=hbl.size
     have hIb:=Hb.later hbl
     have ga:=a0I la da k
     have gb:=a0I lb db k
     have hka:k<=100000:=by omega
     go_wp2_with fail
     refine(a4I _ la k hka _ hIa).mono ?_
     rintro e w1 ⟨rfl,rfl⟩
     generalize la.getD k 0=x at *
     go_wp2_with fail
     refine(a4I _ lb k hka _ hIb).mono ?_
     rintro e w1 ⟨rfl,rfl⟩
     generalize lb.getD k 0=y at *
     go_wp2_with (first
      | (at_builtin;refine wpList_append_own _ rfl _ _ 162 rfl w.heap.size 3 i0 (.int .i64 0) 1 8 Tryz.underlying162 hi hz0 hz1 hz2 rfl (by decide) _ _ _ rfl (hown.alloc _) ⟨wr.heap.size,0,none⟩ 1 1 [.int .i64 ((x+y+cy)%65536)] rfl rfl ?c1 ?c2 ?c3 ?c4 ?c5 ?_))
     case c1=>exact cell_one_new _ _ _
     case c2=>intro u hu;simp at hu;subst hu;rfl
     case c3=>unfold maxLen;omega
     case c4=>omega
     case c5=>simp;omega
     intro v' w1 hown' hgrow _
     have hown2:=a2x hown'
     have hbl2:=a1d hbl hbl.size _ hown hgrow
     clear hown' hgrow
     go_wp2_with fail
     go_roundw
     case rel=>exact⟨k+1,_,_,rfl,by go_num,hown2,hbl2,nx⟩
     case measure=>simp[intOf];omega
    ·skip
     have hcz:cy=0:=by omega
     subst hcz
     have hv:=inv.done (by omega)
     have hI:=a1F (by omega) hown
     have HV:Hid _:=hv
     clear hv
     go_wp2_with fail
     refine(a4j _ ds _ hI inv.dg).mono ?_
     rintro e w1 ⟨v',l',rfl,h1,h2,h3,h4,rfl⟩
     go_wp2_with fail
     go_ret
     exact⟨_,l',rfl,h1,h2,h3,h4.trans HV.out,hbl⟩
  ·skip
   by_cases hm:k<la.length
   ·have HC:k<max la.length lb.length\/0<cy:=.inl (by omega)
    have nx:=inv.step da db HC
    have hIa:=Ha.later hbl
    have hsz:=hbl.size
    have hIb:=Hb.later hbl
    have ga:=a0I la da k
    have gb:=a0I lb db k
    have hka:k<=100000:=by omega
    go_wp2_with fail
    refine(a4I _ la k hka _ hIa).mono ?_
    rintro e w1 ⟨rfl,rfl⟩
    generalize la.getD k 0=x at *
    go_wp2_with fail
    refine(a4I _ lb k hka _ hIb).mono ?_
    rintro e w1 ⟨rfl,rfl⟩
    generalize lb.getD k 0=y at *
    go_wp2_with (first
     | (at_builtin;refine wpList_append_own _ rfl _ _ 162 rfl w.heap.size 3 i0 (.int .i64 0) 1 8 Tryz.underlying162 hi hz0 hz1 hz2 rfl (by decide) _ _ _ rfl (hown.alloc _) ⟨wr.heap.size,0,none⟩ 1 1 [.int .i64 ((x+y+cy)%65536)] rfl rfl ?c1 ?c2 ?c3 ?c4 ?c5 ?_))
    case c1=>exact cell_one_new _ _ _
    case c2=>intro u hu;simp at hu;subst hu;rfl
    case c3=>unfold maxLen;omega
    case c4=>omega
    case c5=>simp;omega
    intro v' w1 hown' hgrow _
    have hown2:=a2x hown'
    have hbl2:=a1d hbl hbl.size _ hown hgrow
    clear hown' hgrow
    go_wp2_with fail
    go_roundw
    case rel=>exact⟨k+1,_,_,rfl,by go_num,hown2,hbl2,nx⟩
    case measure=>simp[intOf];omega
   ·by_cases hc:0<cy
    ·have HC:k<max la.length lb.length\/0<cy:=.inr hc
     have nx:=inv.step da db HC
     have hIa:=Ha.later hbl
     have hsz:=hbl.size
     have hIb:=Hb.later hbl
     have ga:=a0I la da k
     have gb:=a0I lb db k
     have hka:k<=100000:=by omega
     go_wp2_with fail
     refine(a4I _ la k hka _ hIa).mono ?_
     rintro e w1 ⟨rfl,rfl⟩
     generalize la.getD k 0=x at *
     go_wp2_with fail
     refine(a4I _ lb k hka _ hIb).mono ?_
     rintro e w1 ⟨rfl,rfl⟩
     generalize lb.getD k 0=y at *
     go_wp2_with (first
      | (at_builtin;refine wpList_append_own _ rfl _ _ 162 rfl w.heap.size 3 i0 (.int .i64 0) 1 8 Tryz.underlying162 hi hz0 hz1 hz2 rfl (by decide) _ _ _ rfl (hown.alloc _) ⟨wr.heap.size,0,none⟩ 1 1 [.int .i64 ((x+y+cy)%65536)] rfl rfl ?c1 ?c2 ?c3 ?c4 ?c5 ?_))
     case c1=>exact cell_one_new _ _ _
     case c2=>intro u hu;simp at hu;subst hu;rfl
     case c3=>unfold maxLen;omega
     case c4=>omega
     case c5=>simp;omega
     intro v' w1 hown' hgrow _
     have hown2:=a2x hown'
     have hbl2:=a1d hbl hbl.size _ hown hgrow
     clear hown' hgrow
     go_wp2_with fail
     go_roundw
     case rel=>exact⟨k+1,_,_,rfl,by go_num,hown2,hbl2,nx⟩
     case measure=>simp[intOf];omega
    ·skip
     have hcz:cy=0:=by omega
     subst hcz
     have hv:=inv.done (by omega)
     have hI:=a1F (by omega) hown
     have HV:Hid _:=hv
     clear hv
     go_wp2_with fail
     refine(a4j _ ds _ hI inv.dg).mono ?_
     rintro e w1 ⟨v',l',rfl,h1,h2,h3,h4,rfl⟩
     go_wp2_with fail
     go_ret
     exact⟨_,l',rfl,h1,h2,h3,h4.trans HV.out,hbl⟩
structure a4Z (la lb:List Int)(k:Nat)(cy:Int)(ds:List Int):Prop where
 len:ds.length=k
 dg:Dgs ds
 c0:0<=cy
 c1:cy<=1
 bd:k<=la.length
 eq:val ds-pw k*cy=val (la.take k)-val (lb.take k)
theorem a4Z.next {la lb:List Int}{k:Nat}{cy:Int}{ds:List Int}(h:a4Z la lb k cy ds)(hk:k<la.length)(d c:Int)(d0:0<=d)(d1:d<65536)(c0:0<=c)(c1:c<=1)(hd:la.getD k 0-lb.getD k 0-cy=d-65536*c):
 a4Z la lb (k+1) c (ds++[d]):=by
 obtain⟨h1,h2,h3,h4,h5,h6⟩:=h
 refine⟨by rw[List.length_append,List.length_singleton,h1],a8p h2 d0 d1,c0,c1,hk,?_⟩
 rw[a5q,h1,a0w,a0w,a2s]
 generalize la.getD k 0=x at *
 generalize lb.getD k 0=y at *
 have e1:pw k*(x-y-cy)=pw k*d-65536*pw k*c:=by
  rw[hd,Int.mul_sub,Int.mul_comm 65536 (pw k),Int.mul_assoc]
 rw[Int.mul_sub,Int.mul_sub] at e1
 omega
theorem a4Z.done {la lb:List Int}{cy:Int}{ds:List Int}(h:a4Z la lb la.length cy ds)(hl:lb.length<=la.length)(hv:val lb<=val la):val ds=val la-val lb:=by
 have e:=h.eq
 rw[List.take_of_length_le (Nat.le_refl _),List.take_of_length_le hl] at e
 have b:=(a2J ds h.dg).2
 rw[h.len] at b
 have c0:=h.c0
 have c1:=h.c1
 have hc:cy=0:=by
  by_cases e1:cy=1
  ·subst e1;omega
  ·omega
 subst hc
 omega
set_option maxHeartbeats 1000000 in
theorem b1q (va vb:Value)(la lb:List Int)(w:World)(ha:IsD w va la)(hb:IsD w vb lb)(da:Dgs la)(db:Dgs lb)(na:la.length<=500)(hl:lb.length<=la.length)(hv:val lb<=val la):
 Calls Tryz.prog 254 #[va,vb] w (b9O w (val la-val lb)):=by
 obtain⟨i0,hi,hz0,hz1,hz2⟩:=info_parts a3p
 have Ha:=ha
 have Hb:=hb
 obtain⟨aa,ca,rfl,_⟩:=ha
 obtain⟨ab,cb,rfl,_⟩:=hb
 go_enter Tryz.func254,Tryz.ntmps254
 go_wp2_with fail
 go_loopw [5,6,7] (fun d c i wr=>∃ (k:Nat) (cy:Int) (ds:List Int),c=.int .i64 cy/\i=.int .i64 k/\wr.ownsRow w.heap.size 3 1 d ds.length (ds.map (Value.int .i64))/\Below w.heap.size w wr/\a4Z la lb k cy ds) (fun _ _ i _=>la.length-(intOf i).toNat)
 case atStart=>exact⟨0,0,[],rfl,rfl,World.ownsRow_nil _ _ _ _,Below.refl _ _,⟨rfl,b0K,by decide,by decide,Nat.zero_le _,rfl⟩⟩
 case round=>
  obtain⟨k,cy,ds,rfl,rfl,hown,hbl,inv⟩:=hrel
  have c0:=inv.c0
  have c1:=inv.c1
  have hk:=inv.bd
  have hln:ds.length<=500:=by have:=inv.len;omega
  have hsz:=hbl.size
  by_cases hm:k<la.length
  ·have hIb:=Hb.later hbl
   have hIa:=Ha.later hbl
   have ga:=a0I la da k
   have gb:=a0I lb db k
   have hka:k<=100000:=by omega
   have hm':(k:Int)<(la.length:Int):=by omega
   obtain⟨_,_,ea,_,_,_,hA | ⟨b,off,rfl,h5,h6⟩⟩:=hIa
   ·subst hA;simp at hm
   cases ea
   have hcell:=h6 k hm
   have nxx:=inv.next hm
   have hat:∀ n,Calls Tryz.prog 281 #[.slice ab lb.length cb,.int .i64 k] (wr.drewN n) fun e w'=>e=.returned (.int .i64 (lb.getD k 0))/\w'=wr.drewN n:=fun n=>
    (a4I _ lb k hka (wr.drewN n) (hIb.later (w':=wr.drewN n) ⟨rfl,rfl,rfl,Nat.le_refl _,fun _ _=>rfl⟩)).mono fun e w' h=>⟨h.1,h.2.symm⟩
   have HAT:Hid _:=hat
   clear h6 hat
   generalize la.getD k 0=x at *
   generalize lb.getD k 0=y at *
   go_wp2_with fail
   go_quiet ((go_at_call 281;exact Calls.quiet_of_same (HAT.out _)))
   have hownq:(wr.drewN nq).ownsRow w.heap.size 3 1 u5 ds.length (ds.map (Value.int .i64)):=hown
   have hblq:Below w.heap.size w (wr.drewN nq):=hbl.trans ⟨rfl,rfl,rfl,Nat.le_refl _,fun _ _=>rfl⟩
   have hszq:=hblq.size
   generalize wr.drewN nq=wq at *
   by_cases hs:x-y-cy<0
   ·have nx:=nxx (x-y-cy+65536) 1 (by omega) (by omega) (by decide) (by decide) (by omega)
    go_wp2_with (first
     | (at_builtin;refine wpList_append_own _ rfl _ _ 162 rfl w.heap.size 3 i0 (.int .i64 0) 1 8 Tryz.underlying162 hi hz0 hz1 hz2 rfl (by decide) _ _ _ rfl (hownq.alloc _) ⟨wq.heap.size,0,none⟩ 1 1 [.int .i64 (x-y-cy+65536)] rfl rfl ?c1 ?c2 ?c3 ?c4 ?c5 ?_))
    case c1=>exact cell_one_new _ _ _
    case c2=>first | rfl|(intro u hu;simp at hu;subst hu;rfl)
    case c3=>unfold maxLen;omega
    case c4=>omega
    case c5=>first | omega|(simp;omega)
    intro v' w1 hown' hgrow _
    have hown2:=a2x hown'
    have hbl2:=a1d hblq hblq.size _ hownq hgrow
    clear hown' hgrow
    go_wp2_with fail
    go_roundw
    case rel=>exact⟨k+1,_,_,rfl,by go_num,hown2,hbl2,nx⟩
    case measure=>simp[intOf];omega
   ·have nx:=nxx (x-y-cy) 0 (by omega) (by omega) (by decide) (by decide) (by omega)
    go_wp2_with (first
     | (at_builtin;refine wpList_append_own _ rfl _ _ 162 rfl w.heap.size 3 i0 (.int .i64 0) 1 8 Tryz.underlying162 hi hz0 hz1 hz2 rfl (by decide) _ _ _ rfl (hownq.alloc _) ⟨wq.heap.size,0,none⟩ 1 1 [.int .i64 (x-y-cy)] rfl rfl ?c1 ?c2 ?c3 ?c4 ?c5 ?_))
    case c2=>first | rfl|(intro u hu;simp at hu;subst hu;rfl)
    case c3=>unfold maxLen;omega
    case c4=>omega
    case c5=>first | omega|(simp;omega)
    intro v' w1 hown' hgrow _
    have hown2:=a2x hown'
    have hbl2:=a1d hblq hblq.size _ hownq hgrow
    clear hown' hgrow
    go_wp2_with fail
    go_roundw
    case rel=>exact⟨k+1,_,_,rfl,by go_num,hown2,hbl2,nx⟩
    case measure=>simp[intOf];omega
  ·have hkl:k=la.length:=by omega
   have INV:=inv
   rw[hkl] at INV
   have hv2:=INV.done hl hv
   have hI:=a1F (by omega) hown
   have HV:Hid _:=hv2
   clear hv2 hkl INV
   go_wp2_with fail
   refine(a4j _ ds _ hI inv.dg).mono ?_
   rintro e w1 ⟨v',l',rfl,h1,h2,h3,h4,rfl⟩
   go_wp2_with fail
   go_ret
   exact⟨_,l',rfl,h1,h2,h3,h4.trans HV.out,hbl⟩
def b6y (la lb:List Int)(m:Nat):Prop:=val la-val (la.take m)=val lb-val (lb.take m)
theorem b3U {la lb:List Int}{m:Nat}(h:b6y la lb (m+1))(e:la.getD m 0=lb.getD m 0):b6y la lb m:=by
 unfold b6y at *
 rw[a0w,a0w,e] at h
 omega
theorem b3T {la lb:List Int}{m:Nat}(ha:Dgs la)(hb:Dgs lb)(hl:m<la.length)(h:b6y la lb (m+1))(e:la.getD m 0<lb.getD m 0):val la<val lb:=by
 unfold b6y at h
 rw[a0w,a0w] at h
 have b1:=(a2J _ (a3F ha m)).2
 rw[List.length_take,Nat.min_eq_left (by omega)] at b1
 have b2:=(a2J _ (a3F hb m)).1
 have e1:=Int.mul_le_mul_of_nonneg_left (show la.getD m 0+1<=lb.getD m 0 by omega) (Int.le_of_lt (a9f m))
 rw[Int.mul_add,Int.mul_one] at e1
 omega
theorem longer {la lb:List Int}(ha:Dgs la)(hb:Dgs lb)(tb:b3r lb)(h:la.length<lb.length):val la<val lb:=by
 have b1:=(a2J la ha).2
 have b2:=a7s lb hb tb (lb.length-1) (by omega)
 have b3:=a5O (show la.length<=lb.length-1 by omega)
 omega
set_option maxHeartbeats 1000000 in
theorem b4x (va vb:Value)(la lb:List Int)(w:World)(ha:IsD w va la)(hb:IsD w vb lb)(da:Dgs la)(db:Dgs lb)(ta:b3r la)(tb:b3r lb):
 Calls Tryz.prog 253 #[va,vb] w fun e w'=>∃ c:Int,e=.returned (.int .i64 c)/\(0<=c↔val lb<=val la)/\Below w.heap.size w w':=by
 have Ha:=ha
 have Hb:=hb
 obtain⟨aa,ca,rfl,na,_,_,hA⟩:=ha
 obtain⟨ab,cb,rfl,nb,_,_,hB⟩:=hb
 by_cases hne:la.length=lb.length
 ·have hne':((la.length:Int) != (lb.length:Int))=false:=by simp;omega
  have HN:Hid _:=hne
  have hne1:la.length<=lb.length:=by omega
  have hne2:lb.length<=la.length:=by omega
  clear hne
  go_enter Tryz.func253,Tryz.ntmps253
  go_wp2_with fail
  go_loopw [5] (fun i wr=>∃ m:Nat,i=.int .i64 ((m:Int)-1)/\m<=la.length/\b6y la lb m/\Below w.heap.size w wr) (fun i _=>(intOf i+1).toNat)
  case atStart=>
   refine⟨la.length,rfl,Nat.le_refl _,?_,Below.refl _ _⟩
   unfold b6y
   rw[List.take_of_length_le (Nat.le_refl _),List.take_of_length_le (by omega)]
   omega
  case round=>
   obtain⟨m,rfl,hm,hsame,hbl⟩:=hrel
   by_cases hm0:m=0
   ·subst hm0
    have hv:val la=val lb:=by unfold b6y at hsame;simp[val] at hsame;omega
    have HV:Hid _:=hv
    clear hv hA hB
    go_wp2_with fail
    go_ret
    exact⟨0,rfl,by have:=HV.out;omega,hbl⟩
   ·obtain⟨k,rfl⟩:∃ k,m=k+1:=⟨m-1,by omega⟩
    rcases hA with hA | ⟨b,off,rfl,h5,h6⟩
    ·subst hA;simp at hm
    rcases hB with hB | ⟨b',off',rfl,h5',h6'⟩
    ·subst hB;simp at hne1;subst hne1;simp at hm
    have hcell:wr.cell? ⟨b,off+k,none⟩=some (.int .i64 (la.getD k 0)):=(hbl.cell (p:=⟨b,off+k,none⟩) h5).trans (h6 k (by omega))
    have hcell':wr.cell? ⟨b',off'+k,none⟩=some (.int .i64 (lb.getD k 0)):=(hbl.cell (p:=⟨b',off'+k,none⟩) h5').trans (h6' k (by omega))
    have HH:Hid _:=h6
    have HH':Hid _:=h6'
    clear h6 h6'
    have ek:(((k+1:Nat):Int)-1)=(k:Int):=by omega
    rw[ek]
    have k1:(k:Int)<(la.length:Int):=by omega
    have k2:(k:Int)<(lb.length:Int):=by omega
    by_cases hlt:la.getD k 0<lb.getD k 0
    ·have hv:=b3T da db (by omega) hsame hlt
     generalize la.getD k 0=x at *
     generalize lb.getD k 0=y at *
     go_wp2_with fail
     go_quiet (fail)
     have hblq:Below w.heap.size w (wr.drewN nq):=hbl.trans ⟨rfl,rfl,rfl,Nat.le_refl _,fun _ _=>rfl⟩
     go_wp2_with fail
     go_ret
     exact⟨-1,rfl,by omega,hblq⟩
    ·by_cases hgt:lb.getD k 0<la.getD k 0
     ·have hsame':b6y lb la (k+1):=by unfold b6y at *;omega
      have hv:=b3T db da (by omega) hsame' hgt
      generalize la.getD k 0=x at *
      generalize lb.getD k 0=y at *
      go_wp2_with fail
      go_quiet (fail)
      have hblq:Below w.heap.size w (wr.drewN nq):=hbl.trans ⟨rfl,rfl,rfl,Nat.le_refl _,fun _ _=>rfl⟩
      have hc1:(wr.drewN nq).cell? ⟨b,off+k,none⟩=some (.int .i64 x):=hcell
      have hc2:(wr.drewN nq).cell? ⟨b',off'+k,none⟩=some (.int .i64 y):=hcell'
      generalize wr.drewN nq=wq at *
      go_wp2_with fail
      go_quiet (fail)
      have hblq2:Below w.heap.size w (wq.drewN nq):=hblq.trans ⟨rfl,rfl,rfl,Nat.le_refl _,fun _ _=>rfl⟩
      go_wp2_with fail
      go_ret
      exact⟨1,rfl,by omega,hblq2⟩
     ·have hs2:=b3U hsame (by omega)
      have hxy:la.getD k 0=lb.getD k 0:=by omega
      rw[<-hxy] at hcell'
      clear hxy hgt hlt
      generalize la.getD k 0=x at *
      go_wp2_with fail
      go_quiet (fail)
      have hblq:Below w.heap.size w (wr.drewN nq):=hbl.trans ⟨rfl,rfl,rfl,Nat.le_refl _,fun _ _=>rfl⟩
      have hc1:(wr.drewN nq).cell? ⟨b,off+k,none⟩=some (.int .i64 x):=hcell
      have hc2:(wr.drewN nq).cell? ⟨b',off'+k,none⟩=some (.int .i64 x):=hcell'
      generalize wr.drewN nq=wq at *
      go_wp2_with fail
      go_quiet (fail)
      have hblq2:Below w.heap.size w (wq.drewN nq):=hblq.trans ⟨rfl,rfl,rfl,Nat.le_refl _,fun _ _=>rfl⟩
      go_wp2_with fail
      go_roundw
      case rel=>exact⟨k,rfl,by omega,hs2,hblq2⟩
      case measure=>simp[intOf]
 ·have hne':((la.length:Int) != (lb.length:Int))=true:=by simp;omega
  by_cases hlt:la.length<lb.length
  ·have hv:=longer da db tb hlt
   clear hA hB
   go_enter Tryz.func253,Tryz.ntmps253
   go_wp2_with fail
   go_ret
   exact⟨-1,rfl,by omega,Below.refl _ _⟩
  ·have hv:=longer db da ta (by omega)
   clear hA hB
   go_enter Tryz.func253,Tryz.ntmps253
   go_wp2_with fail
   go_ret
   exact⟨1,rfl,by omega,Below.refl _ _⟩
theorem b8Q (u:Int)(u0:0<=u)(u1:u<18446744073709551616):bits .and .u64 u 9223372036854775807=u%9223372036854775808:=by
 obtain⟨a,rfl⟩:=Int.eq_ofNat_of_zero_le u0
 have h:=bits_and_u64_nat a 9223372036854775807 (by omega) (by omega)
 have e:a&&&9223372036854775807=a%9223372036854775808:=Nat.and_two_pow_sub_one_eq_mod a 63
 rw[e] at h
 exact h
theorem b6g {W w1:World}(hb:Below W.heap.size W w1):(∀ b o,b<W.heap.size->w1.cell? ⟨b,o,none⟩=W.cell? ⟨b,o,none⟩)/\(∀ b o,b<W.heap.size->w1.frozen? ⟨b,o,none⟩=W.frozen? ⟨b,o,none⟩):=
 ⟨fun b o h=>hb.cell (p:=⟨b,o,none⟩) h,fun b o h=>hb.frozen (p:=⟨b,o,none⟩) h⟩
structure a7n (l:List Int)(m:Nat)(U:Int):Prop where
 eq:val l=val (l.take m)+pw m*U
 u0:0<=U
theorem a7n.step {l:List Int}{k:Nat}{U:Int}(h:a7n l (k+1) U)(hd:Dgs l):a7n l k (U*65536+l.getD k 0):=by
 obtain⟨h1,h2⟩:=h
 have g:=a0I l hd k
 refine⟨?_,by omega⟩
 rw[h1,a0w,a2s]
 generalize l.getD k 0=x at *
 have e:pw k*(U*65536+x)=65536*pw k*U+pw k*x:=by rw[Int.mul_add];congr 1;rw[Int.mul_comm U,<-Int.mul_assoc,Int.mul_comm (pw k)]
 omega
theorem a7n.lt {l:List Int}{m:Nat}{U:Int}(h:a7n l m U)(hd:Dgs l):U<=val l:=by
 obtain⟨h1,h2⟩:=h
 have b:=(a2J _ (a3F hd m)).1
 have e:=Int.mul_le_mul_of_nonneg_right (show 1<=pw m by have:=a9f m;omega) h2
 omega
def a5p (n:Int):Prop:=-9223372036854775808<=n/\n<9223372036854775808
def b6t (w:World)(n:Int)(e:Ending)(w':World):Prop:=∃ x b,e=.returned (.tuple #[.int .i64 x,.bool b])/\(b=true↔a5p n)/\(b=true->x=n)/\Below w.heap.size w w'
set_option maxHeartbeats 1000000 in
theorem b7u (neg:Bool)(s:Value)(l:List Int)(n:Int)(w:World)(h:a5a w neg s l n)(h4:l.length<=4)(h0:l≠[]):
 Calls Tryz.prog 104 #[.agg #[.bool neg,s]] w (b6t w n):=by
 obtain⟨hI,dg,tr,hn⟩:=h
 obtain⟨a,c,rfl,_,_,_,hA⟩:=hI
 rcases hA with hA | ⟨b,off,rfl,h5,h6⟩
 ·exact absurd hA h0
 have hl0:l.length≠0:=fun e=>h0 (List.length_eq_zero_iff.1 e)
 have k0:((l.length:Int)==0)=false:=beq_eq_false_iff_ne.2 (by omega)
 have vb:=a2J l dg
 have vm:val l<18446744073709551616:=by have:=a5O h4;rw[pw4] at this;omega
 have vlow:=a7s l dg tr (l.length-1) (by omega)
 have vpos:0<val l:=by have:=a9f (l.length-1);omega
 have HL:Hid _:=vlow
 have HB:Hid _:=vb
 have H0:Hid _:=hl0
 have HN:Hid _:=hn
 have H6:Hid _:=h6
 clear vlow vb hl0 hn h6 h0
 go_enter Tryz.func104,Tryz.ntmps104
 go_wp2_with fail
 go_loop [4,5] (fun u i=>∃ (m:Nat) (U:Int),u=.int .u64 U/\i=.int .i64 ((m:Int)-1)/\m<=l.length/\a7n l m U) (fun _ i=>(intOf i+1).toNat)
 case atStart=>exact⟨l.length,0,rfl,rfl,Nat.le_refl _,⟨by rw[List.take_of_length_le (Nat.le_refl _)];omega,by decide⟩⟩
 case round=>
  obtain⟨m,U,rfl,rfl,hm,inv⟩:=hrel
  have u0:=inv.u0
  by_cases hm0:m=0
  ·subst hm0
   have eU:U=val l:=by have:=inv.eq;simp[val,pw] at this;omega
   have EU:Hid _:=eU
   have uv:U<18446744073709551616:=by omega
   have up:0<U:=by omega
   clear eU
   cases neg
   ·have nE:Hid (n=U):=(by rw[HN.out,EU.out];rfl:n=U)
    by_cases hU:U<=9223372036854775807
    ·have am:Hid (wrap64 (bits .and .u64 U 9223372036854775807)=U):=(by rw[b8Q U u0 uv];unfold wrap64;omega:wrap64 (bits .and .u64 U 9223372036854775807)=U)
     go_wp2_with fail
     go_ret2
     exact⟨wrap64 (bits .and .u64 U 9223372036854775807),true,rfl,by have:=nE.out;simp[a5p];omega,fun _=>am.out.trans nE.out.symm,(Below.refl _ _).alloc (Nat.le_refl _) _⟩
    ·go_wp2_with fail
     go_ret2
     exact⟨wrap64 (bits .and .u64 U 9223372036854775807),false,rfl,by have:=nE.out;simp[a5p];omega,fun h=>by simp at h,(Below.refl _ _).alloc (Nat.le_refl _) _⟩
   ·have nE:Hid (n = -U):=(by rw[HN.out,EU.out];rfl:n = -U)
    by_cases hU:U<=9223372036854775808
    ·go_wp2_with fail
     go_ret2
     refine⟨_,true,rfl,by have:=nE.out;simp[a5p];omega,fun _=>?_,(Below.refl _ _).alloc (Nat.le_refl _) _⟩
     have:=nE.out
     omega
    ·go_wp2_with fail
     go_ret2
     exact⟨0,false,rfl,by have:=nE.out;simp[a5p];omega,fun h=>by simp at h,(Below.refl _ _).alloc (Nat.le_refl _) _⟩
  ·obtain⟨k,rfl⟩:∃ k,m=k+1:=⟨m-1,by omega⟩
   have hcell:=H6.out k (by omega)
   have hcell2:(w.alloc (.cells #[.bool neg,.slice (some ⟨b,off,none⟩) l.length c] 164)).cell? ⟨b,off+k,none⟩=some (.int .i64 (l.getD k 0)):=by rw[World.cell?_alloc_past _ _ _ h5];exact hcell
   have ek:(((k+1:Nat):Int)-1)=(k:Int):=by omega
   rw[ek]
   have k1:(k:Int)<(l.length:Int):=by omega
   have nx:=inv.step dg
   have nl:=nx.lt dg
   have g:=a0I l dg k
   clear hcell
   generalize l.getD k 0=x at *
   go_wp2_with fail
   go_round
   case rel=>exact⟨k,_,rfl,rfl,by omega,nx⟩
   case measure=>simp[intOf]
set_option maxHeartbeats 400000 in
theorem a7F (neg:Bool)(s:Value)(l:List Int)(n:Int)(w:World)(h:a5a w neg s l n):
 Calls Tryz.prog 104 #[.agg #[.bool neg,s]] w (b6t w n):=by
 by_cases h0:l=[]
 ·subst h0
  have hn:n=0:=by rw[h.num];cases neg<;>rfl
  obtain⟨⟨a,c,rfl,_⟩,_,_,hnum⟩:=h
  clear hnum
  subst hn
  go_enter Tryz.func104,Tryz.ntmps104
  go_wp2_with fail
  go_ret2
  exact⟨0,true,rfl,by simp[a5p],fun _=>rfl,(Below.refl _ _).alloc (Nat.le_refl _) _⟩
 by_cases h4:l.length<=4
 ·exact b7u neg s l n w h h4 h0
 ·have hv:pw 4<=val l:=by
   have h1:=a7s l h.dg h.tr (l.length-1) (by omega)
   have h2:=a5O (show 4<=l.length-1 by omega)
   omega
  rw[pw4] at hv
  have hn:¬ a5p n:=by
   rw[h.num];unfold a5p
   cases neg
   ·show ¬(_<=val l/\val l<_);omega
   ·show ¬(_ <= -val l /\ -val l<_);omega
  obtain⟨⟨a,c,rfl,_⟩,_,_,hnum⟩:=h
  clear hnum
  have k0:((l.length:Int)==0)=false:=beq_eq_false_iff_ne.2 (by omega)
  have k4:(4:Int)<(l.length:Int):=by omega
  have HN:Hid _:=hn
  clear hn hv h0
  go_enter Tryz.func104,Tryz.ntmps104
  go_wp2_with fail
  go_ret2
  exact⟨0,false,rfl,⟨fun h=>by simp at h,fun h=>absurd h HN.out⟩,fun h=>by simp at h,(Below.refl _ _).alloc (Nat.le_refl _) _⟩
def a0R (n:Int):Int:=if n < -9223372036854775808 then -9223372036854775808 else if 9223372036854775807<n then 9223372036854775807 else n
set_option maxHeartbeats 400000 in
theorem a0Y (neg:Bool)(s:Value)(l:List Int)(n:Int)(w:World)(h:a5a w neg s l n):
 Calls Tryz.prog 201 #[.agg #[.bool neg,s]] w fun e w'=>e=.returned (.int .i64 (a0R n))/\Below w.heap.size w w':=by
 have H:=h
 obtain⟨⟨a,c,rfl,_⟩,dg,_,hn⟩:=h
 have vb:=(a2J l dg).1
 go_enter Tryz.func201,Tryz.ntmps201
 go_wp2_with fail
 refine(a7F neg _ l n _ (H.later ((Below.refl _ _).alloc (Nat.le_refl _) _))).mono ?_
 rintro e w1 ⟨x,b,rfl,hb,hx,hb1⟩
 obtain⟨hc,hf⟩:=b6g hb1
 have hall:Below w.heap.size w w1:=((Below.refl _ _).alloc (Nat.le_refl _) _).trans (hb1.mono (by simp))
 cases b
 ·have hno:¬ a5p n:=fun k=>by have:=hb.2 k;simp at this
  cases neg
  ·have e1:a0R n=9223372036854775807:=by
    have hn':n=val l:=hn
    unfold a5p at hno;unfold a0R;rw[if_neg (by omega),if_pos (by omega)]
   have E1:Hid _:=e1
   clear e1 hno hb hx hn
   go_wp2_with fail
   go_ret
   exact⟨by rw[E1.out];rfl,hall⟩
  ·have e1:a0R n = -9223372036854775808:=by
    have hn':n = -val l:=hn
    unfold a5p at hno;unfold a0R;rw[if_pos (by omega)]
   have E1:Hid _:=e1
   clear e1 hno hb hx hn
   go_wp2_with fail
   go_ret
   exact⟨by rw[E1.out];rfl,hall⟩
 ·have hin:=hb.1 rfl
  have ex:=hx rfl
  have e1:a0R n=x:=by rw[ex];unfold a5p at hin;unfold a0R;rw[if_neg (by omega),if_neg (by omega)]
  have E1:Hid _:=e1
  clear e1 hin ex hb hx hn
  go_wp2_with fail
  go_ret
  exact⟨by rw[E1.out];rfl,hall⟩
set_option maxHeartbeats 400000 in
theorem a2Y (neg:Bool)(s:Value)(l:List Int)(n:Int)(w:World)(h:a5a w neg s l n):
 Calls Tryz.prog 261 #[.agg #[.bool neg,s]] w (a3i w (-n)):=by
 have H:=h
 obtain⟨⟨a,c,rfl,_⟩,dg,tr,hn⟩:=h
 have hn2 : -n=sg (!neg) (val l):=by rw[hn];cases neg<;>simp[sg]
 have HN:Hid _:=hn2
 clear hn hn2
 go_enter Tryz.func261,Tryz.ntmps261
 go_wp2_with fail
 have hb:Below w.heap.size w ((w.alloc (.cells #[.bool neg,.slice a l.length c] 164)).alloc (.cells #[.bool (!neg),.slice a l.length c] 164)):=((Below.refl _ _).alloc (Nat.le_refl _) _).alloc (by simp) _
 refine bodyPost_ret (v:=.agg #[.bool (!neg),.slice a l.length c]) (by simp[results,Tryz.results261,go_sem]) rfl ⟨_,_,l,rfl,⟨(H.later hb).isD,dg,tr,HN.out⟩,hb⟩
theorem a1b (w:World)(o1 o2 o3:Obj):Below w.heap.size w (((w.alloc o1).alloc o2).alloc o3):=(((Below.refl _ _).alloc (Nat.le_refl _) _).alloc (by simp) _).alloc (by simp;omega) _
theorem IsD.setCell {w:World}{v:Value}{l:List Int}(h:IsD w v l){p:Addr}(u:Value)(hp:∀ x,w.cell? p≠some (.int .i64 x)):IsD (w.setCell p u) v l:=by
 obtain⟨a,c,e,h1,h2,hc,h3⟩:=h
 refine⟨a,c,e,h1,h2,hc,?_⟩
 rcases h3 with h3 | ⟨b,off,h4,h5,h6⟩
 ·exact .inl h3
 ·refine .inr ⟨b,off,h4,by simpa[World.setCell] using h5,fun i hi=>?_⟩
  rw[World.cell?_setCell_other _ _ _ _ (by intro e;subst e;exact hp _ (h6 i hi))]
  exact h6 i hi
theorem a3v {w:World}{v:Value}{l:List Int}(h:IsD w v l)(g:Nat){b0:Bool}{a0:Option Addr}{n0 c0:Nat}(h0:w.cell? ⟨g,0,none⟩=some (.bool b0))(h1:w.cell? ⟨g,1,none⟩=some (.slice a0 n0 c0))(b1:Bool)(u:Value):
 IsD ((w.setCell ⟨g,0,none⟩ (.bool b1)).setCell ⟨g,1,none⟩ u) v l:=by
 refine(h.setCell _ (fun x e=>?_)).setCell _ (fun x e=>?_)
 ·rw[h0] at e;cases e
 ·rw[World.cell?_setCell_other _ _ _ _ (by simp),h1] at e;cases e
set_option maxHeartbeats 1000000 in
theorem a8y (na nb:Bool)(sa sb:Value)(la lb:List Int)(a b:Int)(w:World)(ha:a5a w na sa la a)(hb:a5a w nb sb lb b)(ka:la.length<=500)(kb:lb.length<=500):
 Calls Tryz.prog 191 #[.agg #[.bool na,sa],.agg #[.bool nb,sb]] w (a3i w (a+b)):=by
 obtain⟨Ia,da,ta,ea⟩:=ha
 obtain⟨Ib,db,tb,eb⟩:=hb
 have EA:Hid _:=ea
 have EB:Hid _:=eb
 clear ea eb
 have IA:=Ia
 have IB:=Ib
 obtain⟨aa,ca,rfl,_⟩:=Ia
 obtain⟨ab,cb,rfl,_⟩:=Ib
 by_cases hs:na=nb
 ·subst hs
  have en:a+b=sg na (val la+val lb):=by rw[EA.out,EB.out];cases na<;>simp[sg];omega
  have EN:Hid _:=en
  clear en
  go_enter Tryz.func191,Tryz.ntmps191
  go_wp2_with fail
  go_region_held3 (fun w'=>w'.cell? ⟨w.heap.size,0,none⟩=some (.bool na)/\w'.cell? ⟨w.heap.size,1,none⟩=some (.slice aa la.length ca)/\w'.cell? ⟨w.heap.size+1,0,none⟩=some (.bool na)/\w'.cell? ⟨w.heap.size+1,1,none⟩=some (.slice ab lb.length cb)/\w'.frozen? ⟨w.heap.size+2,0,none⟩=false/\w'.frozen? ⟨w.heap.size+2,1,none⟩=false) (simp[go_sem, *])
   (first|(go_at_call 252;refine(b3N _ _ la lb _ (IA.later (by exact(a1b _ _ _ _).drew)) (IB.later (by exact(a1b _ _ _ _).drew)) da db ka kb).mono ?_;rintro e w' ⟨s',l',rfl,I',d',t',v',hb'⟩;obtain⟨hc,hf⟩:=b6g hb';have I2:=I';obtain⟨a',c',rfl,_⟩:=I'))
  have cR0:=hb'.cell (p:=⟨w.heap.size+1+1,0,none⟩) (by simp)
  have cR1:=hb'.cell (p:=⟨w.heap.size+1+1,1,none⟩) (by simp)
  simp[go_sem] at cR0
  simp[go_sem] at cR1
  go_wp2_with fail
  refine bodyPost_ret (v:=.agg #[.bool na,.slice a' l'.length c']) (by simp[results,Tryz.results191,go_sem,cR0,cR1]) rfl ⟨_,_,l',rfl,⟨?_,d',t',by rw[EN.out,<-v']⟩,?_⟩
  ·exact a3v I2 _ cR0 cR1 _ _
  ·exact(((a1b _ _ _ _).drew.trans (hb'.mono (by simp;omega))).setCell (by simp;omega) _).setCell (by simp;omega) _
 ·have hs':(na==nb)=false:=by simpa using hs
  have HS:Hid _:=hs
  clear hs
  go_enter Tryz.func191,Tryz.ntmps191
  go_wp2_with fail
  refine(b4x _ _ la lb _ (IA.later (by exact a1b _ _ _ _)) (IB.later (by exact a1b _ _ _ _)) da db ta tb).mono ?_
  rintro e w1 ⟨cc,rfl,hcc,hb1⟩
  have hW:Below w.heap.size w w1:=(a1b _ _ _ _).trans (hb1.mono (by simp;omega))
  have q0:=hb1.cell (p:=⟨w.heap.size,0,none⟩) (by simp<;>omega)
  have q1:=hb1.cell (p:=⟨w.heap.size,1,none⟩) (by simp<;>omega)
  have q2:=hb1.cell (p:=⟨w.heap.size+1,0,none⟩) (by simp<;>omega)
  have q3:=hb1.cell (p:=⟨w.heap.size+1,1,none⟩) (by simp<;>omega)
  have q4:=hb1.cell (p:=⟨w.heap.size+2,0,none⟩) (by simp<;>omega)
  have q5:=hb1.cell (p:=⟨w.heap.size+2,1,none⟩) (by simp<;>omega)
  have q6:=hb1.frozen (p:=⟨w.heap.size+2,0,none⟩) (by simp<;>omega)
  have q7:=hb1.frozen (p:=⟨w.heap.size+2,1,none⟩) (by simp<;>omega)
  simp[go_sem] at q0 q1 q2 q3 q4 q5 q6 q7
  have hz:w.heap.size+2<w1.heap.size:=by have:=hb1.size;simp at this;omega
  have hz0:w.heap.size<w1.heap.size:=by omega
  have hz1:w.heap.size+1<w1.heap.size:=by omega
  have hz2:w.heap.size+1+1<w1.heap.size:=by omega
  have HB1:Hid _:=hb1
  clear hb1
  by_cases hcmp:val lb<=val la
  ·have hcp:0<=cc:=hcc.2 hcmp
   have hll:lb.length<=la.length:=by
    by_cases h:lb.length<=la.length
    ·exact h
    ·have:=longer da db tb (by omega);omega
   have en:a+b=sg na (val la-val lb):=by
    have:=HS.out
    rw[EA.out,EB.out];cases na<;>cases nb<;>simp[sg] at *<;>omega
   have EN:Hid _:=en
   clear en hcc
   go_wp2_with fail
   go_region_held3 (fun w'=>w'.cell? ⟨w.heap.size,0,none⟩=some (.bool na)/\w'.cell? ⟨w.heap.size,1,none⟩=some (.slice aa la.length ca)/\w'.cell? ⟨w.heap.size+1,0,none⟩=some (.bool nb)/\w'.cell? ⟨w.heap.size+1,1,none⟩=some (.slice ab lb.length cb)/\w'.frozen? ⟨w.heap.size+2,0,none⟩=false/\w'.frozen? ⟨w.heap.size+2,1,none⟩=false) (simp[go_sem, *])
    (first|(go_at_call 254;refine(b1q _ _ la lb _ (IA.later (by exact hW.drew)) (IB.later (by exact hW.drew)) da db ka hll hcmp).mono ?_;rintro e w' ⟨s',l',rfl,I',d',t',v',hb'⟩;have f0:=(hb'.cell (p:=⟨w.heap.size,0,none⟩) hz0).trans q0;have f1:=(hb'.cell (p:=⟨w.heap.size,1,none⟩) hz0).trans q1;have f2:=(hb'.cell (p:=⟨w.heap.size+1,0,none⟩) hz1).trans q2;have f3:=(hb'.cell (p:=⟨w.heap.size+1,1,none⟩) hz1).trans q3;have f4:=(hb'.cell (p:=⟨w.heap.size+2,0,none⟩) hz).trans q4;have f5:=(hb'.cell (p:=⟨w.heap.size+2,1,none⟩) hz).trans q5;have f6:=(hb'.frozen (p:=⟨w.heap.size+2,0,none⟩) hz).trans q6;have f7:=(hb'.frozen (p:=⟨w.heap.size+2,1,none⟩) hz).trans q7;have I2:=I';obtain⟨a',c',rfl,_⟩:=I'))
   have cR0:=hb'.cell (p:=⟨w.heap.size+1+1,0,none⟩) (by simp;omega)
   have cR1:=hb'.cell (p:=⟨w.heap.size+1+1,1,none⟩) (by simp;omega)
   simp[go_sem,q4] at cR0
   simp[go_sem,q5] at cR1
   go_wp2_with fail
   refine bodyPost_ret (v:=.agg #[.bool na,.slice a' l'.length c']) (by simp[results,Tryz.results191,go_sem,cR0,cR1]) rfl ⟨_,_,l',rfl,⟨?_,d',t',by rw[EN.out,<-v']⟩,?_⟩
   ·exact a3v I2 _ cR0 cR1 _ _
   ·exact((hW.drew.trans (hb'.mono (by simp;omega))).setCell (by simp;omega) _).setCell (by simp;omega) _
  ·have hcp:¬ 0<=cc:=fun h=>hcmp (hcc.1 h)
   have hll:la.length<=lb.length:=by
    by_cases h:la.length<=lb.length
    ·exact h
    ·have:=longer db da ta (by omega);omega
   have en:a+b=sg nb (val lb-val la):=by
    have:=HS.out
    rw[EA.out,EB.out];cases na<;>cases nb<;>simp[sg] at *<;>omega
   have EN:Hid _:=en
   clear en hcc
   go_wp2_with fail
   go_region_held3 (fun w'=>w'.cell? ⟨w.heap.size,0,none⟩=some (.bool na)/\w'.cell? ⟨w.heap.size,1,none⟩=some (.slice aa la.length ca)/\w'.cell? ⟨w.heap.size+1,0,none⟩=some (.bool nb)/\w'.cell? ⟨w.heap.size+1,1,none⟩=some (.slice ab lb.length cb)/\w'.frozen? ⟨w.heap.size+2,0,none⟩=false/\w'.frozen? ⟨w.heap.size+2,1,none⟩=false) (simp[go_sem, *])
    (first|(go_at_call 254;refine(b1q _ _ lb la _ (IB.later (by exact hW.drew)) (IA.later (by exact hW.drew)) db da kb hll (by omega)).mono ?_;rintro e w' ⟨s',l',rfl,I',d',t',v',hb'⟩;have f0:=(hb'.cell (p:=⟨w.heap.size,0,none⟩) hz0).trans q0;have f1:=(hb'.cell (p:=⟨w.heap.size,1,none⟩) hz0).trans q1;have f2:=(hb'.cell (p:=⟨w.heap.size+1,0,none⟩) hz1).trans q2;have f3:=(hb'.cell (p:=⟨w.heap.size+1,1,none⟩) hz1).trans q3;have f4:=(hb'.cell (p:=⟨w.heap.size+2,0,none⟩) hz).trans q4;have f5:=(hb'.cell (p:=⟨w.heap.size+2,1,none⟩) hz).trans q5;have f6:=(hb'.frozen (p:=⟨w.heap.size+2,0,none⟩) hz).trans q6;have f7:=(hb'.frozen (p:=⟨w.heap.size+2,1,none⟩) hz).trans q7;have I2:=I';obtain⟨a',c',rfl,_⟩:=I'))
   have cR0:=hb'.cell (p:=⟨w.heap.size+1+1,0,none⟩) (by simp;omega)
   have cR1:=hb'.cell (p:=⟨w.heap.size+1+1,1,none⟩) (by simp;omega)
   simp[go_sem,q4] at cR0
   simp[go_sem,q5] at cR1
   go_wp2_with fail
   refine bodyPost_ret (v:=.agg #[.bool nb,.slice a' l'.length c']) (by simp[results,Tryz.results191,go_sem,cR0,cR1]) rfl ⟨_,_,l',rfl,⟨?_,d',t',by rw[EN.out,<-v']⟩,?_⟩
   ·exact a3v I2 _ cR0 cR1 _ _
   ·exact((hW.drew.trans (hb'.mono (by simp;omega))).setCell (by simp;omega) _).setCell (by simp;omega) _
theorem a0k {w w1 w2:World}(h:Below w.heap.size w w1)(k:Below w1.heap.size w1 w2):Below w.heap.size w w2:=h.trans (k.mono h.size)
theorem b3S {neg:Bool}{l:List Int}{n:Int}(h:n=sg neg (val l))(hd:Dgs l):val l=n.natAbs:=by
 have:=(a2J l hd).1
 cases neg
 ·have h':n=val l:=h;omega
 ·have h':n = -val l:=h;omega
theorem a5a.len {w:World}{neg:Bool}{s:Value}{l:List Int}{n:Int}(h:a5a w neg s l n)(k:Nat)(hn:(n.natAbs:Int)<pw k):l.length<=k:=b9u l h.dg h.tr k (by rw[b3S h.num h.dg];exact hn)
theorem a5a.len4 {w:World}{neg:Bool}{s:Value}{l:List Int}{n:Int}(h:a5a w neg s l n)(h0 : -18446744073709551616<n)(h1:n<18446744073709551616):l.length<=500:=by
 have:=h.len 4 (by rw[pw4];omega)
 omega
set_option maxHeartbeats 400000 in
theorem b1i (a b:Int)(a0 : -9223372036854775808<=a)(a1:a<9223372036854775808)(b0 : -9223372036854775808<=b)(b1:b<9223372036854775808)(w:World):
 Calls Tryz.prog 117 #[.int .i64 a,.int .i64 b] w fun e w'=>e=.returned (.int .i64 (a0R (a+b)))/\Below w.heap.size w w':=by
 go_enter Tryz.func117,Tryz.ntmps117
 go_wp2_with fail
 refine(a1n a a0 a1 _).mono ?_
 rintro e w1 ⟨na,sa,la,rfl,va,hb1⟩
 go_wp2_with fail
 refine(a1n b b0 b1 _).mono ?_
 rintro e w2 ⟨nb,sb,lb,rfl,vb,hb2⟩
 go_wp2_with fail
 refine(a8y na nb sa sb la lb a b _ (va.later hb2) vb (va.len4 (by omega) (by omega)) (vb.len4 (by omega) (by omega))).mono ?_
 rintro e w3 ⟨nc,sc,lc,rfl,vc,hb3⟩
 go_wp2_with fail
 refine(a0Y nc sc lc _ _ vc).mono ?_
 rintro e w4 ⟨rfl,hb4⟩
 go_wp2_with fail
 go_ret
 exact⟨rfl,a0k (a0k (a0k hb1 hb2) hb3) hb4⟩
set_option maxHeartbeats 400000 in
theorem b7k (a b:Int)(a0 : -9223372036854775808<=a)(a1:a<9223372036854775808)(b0 : -9223372036854775808<=b)(b1:b<9223372036854775808)(w:World):
 Calls Tryz.prog 208 #[.int .i64 a,.int .i64 b] w fun e w'=>e=.returned (.int .i64 (a0R (a-b)))/\Below w.heap.size w w':=by
 go_enter Tryz.func208,Tryz.ntmps208
 go_wp2_with fail
 refine(a1n a a0 a1 _).mono ?_
 rintro e w1 ⟨na,sa,la,rfl,va,hb1⟩
 go_wp2_with fail
 refine(a1n b b0 b1 _).mono ?_
 rintro e w2 ⟨nb,sb,lb,rfl,vb,hb2⟩
 go_wp2_with fail
 refine(a2Y nb sb lb b _ vb).mono ?_
 rintro e w3 ⟨nm,sm,lm,rfl,vm,hb3⟩
 go_wp2_with fail
 refine(a8y na nm sa sm la lm a (-b) _ ((va.later hb2).later hb3) vm (va.len4 (by omega) (by omega)) (vm.len4 (by omega) (by omega))).mono ?_
 rintro e w4 ⟨nc,sc,lc,rfl,vc,hb4⟩
 go_wp2_with fail
 refine(a0Y nc sc lc _ _ vc).mono ?_
 rintro e w5 ⟨rfl,hb5⟩
 go_wp2_with fail
 go_ret
 exact⟨rfl,a0k (a0k (a0k (a0k hb1 hb2) hb3) hb4) hb5⟩
set_option maxHeartbeats 400000 in
theorem b7r (a:Int)(a0 : -9223372036854775808<=a)(a1:a<9223372036854775808)(w:World):
 Calls Tryz.prog 203 #[.int .i64 a] w fun e w'=>e=.returned (.int .i64 (a0R (-a)))/\Below w.heap.size w w':=by
 go_enter Tryz.func203,Tryz.ntmps203
 go_wp2_with fail
 refine(a1n a a0 a1 _).mono ?_
 rintro e w1 ⟨na,sa,la,rfl,va,hb1⟩
 go_wp2_with fail
 refine(a2Y na sa la a _ va).mono ?_
 rintro e w3 ⟨nm,sm,lm,rfl,vm,hb3⟩
 go_wp2_with fail
 refine(a0Y nm sm lm _ _ vm).mono ?_
 rintro e w5 ⟨rfl,hb5⟩
 go_wp2_with fail
 go_ret
 exact⟨rfl,a0k (a0k hb1 hb3) hb5⟩
set_option maxHeartbeats 400000 in
theorem b7C (a:Int)(a0 : -9223372036854775808<=a)(a1:a<9223372036854775808)(w:World):
 Calls Tryz.prog 204 #[.int .i64 a] w fun e w'=>e=.returned (.int .i64 (a0R a.natAbs))/\Below w.heap.size w w':=by
 have hfd:∀ (b:Bool) (a:Option Addr) (n c:Nat) (w:World),(Instr.field 164 (.agg #[.bool b,.slice a n c]) 1).run Tryz.prog w=.ok (.slice a n c) w:=fun _ _ _ _ _=>by kernel_rfl
 go_enter Tryz.func204,Tryz.ntmps204
 go_wp2_with fail
 refine(a1n a a0 a1 _).mono ?_
 rintro e w1 ⟨na,sa,la,rfl,va,hb1⟩
 have VA:=va
 obtain⟨⟨aa,ca,rfl,_⟩,da,ta,ea⟩:=va
 have EA:=b3S ea da
 have HE:Hid _:=EA
 clear EA ea
 go_wp2_with fail
 refine(a0Y false _ la _ _ ⟨VA.isD,da,ta,HE.out.symm⟩).mono ?_
 rintro e w5 ⟨rfl,hb5⟩
 go_wp2_with fail
 go_ret
 exact⟨rfl,a0k hb1 hb5⟩
end Go.Proofs.YtbddbnjhmdbkbaaGreatDoor
end
section
namespace Go.Proofs.YtbddbnjhmdbkbaaGreatDoor
theorem c2F (a b:Nat):pw (a+b)=pw a*pw b:=by unfold pw;exact Int.pow_add ..
theorem a4y (l:List Int)(k j:Nat)(x:Int)(hk:k<l.length):(l.set k x).getD j 0=if j=k then x else l.getD j 0:=by
 by_cases hj:j<l.length
 ·rw[a2H _ j (by simpa using hj),a2H l j hj,List.getElem_set]
  by_cases e:k=j
  ·rw[if_pos e,if_pos e.symm]
  ·rw[if_neg e,if_neg (fun h=>e h.symm)]
 ·rw[a1O _ j (by simp;omega),a1O l j (by omega),if_neg (by omega)]
theorem a9Y (l:List Int)(k:Nat)(x:Int)(hk:k<l.length):val (l.set k x)=val l+pw k*(x-l.getD k 0):=by
 induction l generalizing k with
 | nil=>simp at hk
 | cons d r ih=>
   cases k with
   | zero=>simp[val,pw];omega
   | succ k=>
     have h:=ih k (by simpa using hk)
     show d+65536*val (r.set k x)=d+65536*val r+pw (k+1)*(x-r.getD k 0)
     rw[h,a2s,Int.mul_add,Int.mul_assoc,Int.add_assoc]
theorem b0J {l:List Int}(h:Dgs l)(k:Nat)(x:Int)(x0:0<=x)(x1:x<65536):Dgs (l.set k x):=by
 intro d hd
 rcases List.mem_or_eq_of_mem_set hd with h1 | h1
 ·exact h d h1
 ·subst h1;exact⟨x0,x1⟩
structure b8U (la lb:List Int)(i:Nat)(d:List Int):Prop where
 len:d.length=la.length+lb.length
 dg:Dgs d
 eq:val d=val (la.take i)*val lb
 zs:∀ k,i+lb.length<=k->d.getD k 0=0
 bd:i<=la.length
structure TIn (la lb:List Int)(i j:Nat)(cy:Int)(d:List Int):Prop where
 len:d.length=la.length+lb.length
 dg:Dgs d
 c0:0<=cy
 c1:cy<65536
 eq:val d+pw (i+j)*cy=val (la.take i)*val lb+pw i*la.getD i 0*val (lb.take j)
 zs:∀ k,i+lb.length<=k->d.getD k 0=0
 bd:j<=lb.length
theorem b8U.enter {la lb:List Int}{i:Nat}{d:List Int}(h:b8U la lb i d):TIn la lb i 0 0 d:=
 ⟨h.len,h.dg,by decide,by decide,by rw[h.eq];simp[val],h.zs,Nat.zero_le _⟩
theorem b1F {x y:Int}(x0:0<=x)(x1:x<65536)(y0:0<=y)(y1:y<65536):0<=x*y/\x*y<=4294836225:=by
 refine⟨Int.mul_nonneg x0 y0,?_⟩
 have:=Int.mul_le_mul (show x<=65535 by omega) (show y<=65535 by omega) y0 (by decide)
 omega
theorem TIn.step {la lb:List Int}{i j:Nat}{cy:Int}{d:List Int}(h:TIn la lb i j cy d)(ha:Dgs la)(hb:Dgs lb)(hi:i<la.length)(hj:j<lb.length):
 TIn la lb i (j+1) ((d.getD (i+j) 0+la.getD i 0*lb.getD j 0+cy)/65536) (d.set (i+j) ((d.getD (i+j) 0+la.getD i 0*lb.getD j 0+cy)%65536)):=by
 obtain⟨h1,h2,h3,h4,h5,h6,h7⟩:=h
 have gx:=a0I la ha i
 have gy:=a0I lb hb j
 have gd:=a0I d h2 (i+j)
 have gp:=b1F gx.1 gx.2 gy.1 gy.2
 have hk:i+j<d.length:=by omega
 refine⟨by rw[List.length_set];exact h1,b0J h2 _ _ (by omega) (by omega),by omega,by omega,?_,?_,hj⟩
 ·rw[a9Y d _ _ hk,a0w,<-Nat.add_assoc,a2s]
  have e2:pw i*la.getD i 0*(val (lb.take j)+pw j*lb.getD j 0)=pw i*la.getD i 0*val (lb.take j)+pw (i+j)*(la.getD i 0*lb.getD j 0):=by
   rw[Int.mul_add,c2F];congr 1;grind
  rw[e2]
  generalize la.getD i 0*lb.getD j 0=p at *
  generalize d.getD (i+j) 0=z at *
  have e1:pw (i+j)*((z+p+cy)%65536-z)+65536*pw (i+j)*((z+p+cy)/65536)=pw (i+j)*(p+cy):=by
   rw[Int.mul_comm 65536,Int.mul_assoc,<-Int.mul_add,show (z+p+cy)%65536-z+65536*((z+p+cy)/65536)=p+cy by omega]
  rw[Int.mul_add] at e1
  omega
 ·intro k hk'
  rw[a4y d _ _ _ hk,if_neg (by omega)]
  exact h6 k hk'
theorem TIn.leave {la lb:List Int}{i:Nat}{cy:Int}{d:List Int}(h:TIn la lb i lb.length cy d)(hi:i<la.length):b8U la lb (i+1) (d.set (i+lb.length) cy):=by
 obtain⟨h1,h2,h3,h4,h5,h6,h7⟩:=h
 have hk:i+lb.length<d.length:=by omega
 refine⟨by rw[List.length_set];exact h1,b0J h2 _ _ h3 h4,?_,?_,hi⟩
 ·rw[a9Y d _ _ hk,h6 _ (Nat.le_refl _),Int.sub_zero,h5,a0w,List.take_of_length_le (Nat.le_refl _),Int.add_mul]
 ·intro k hk'
  rw[a4y d _ _ _ hk,if_neg (by omega)]
  exact h6 k (by omega)
theorem b8U.done {la lb:List Int}{d:List Int}(h:b8U la lb la.length d):val d=val la*val lb:=by
 rw[h.eq,List.take_of_length_le (Nat.le_refl _)]
theorem a8F (n:Nat):val (List.replicate n (0:Int))=0:=by
 induction n with
 | zero=>rfl
 | succ n ih=>show 0+65536*val (List.replicate n (0:Int))=0;rw[ih];rfl
theorem a5E (n k:Nat):(List.replicate n (0:Int)).getD k 0=0:=by
 by_cases h:k<n
 ·rw[a2H _ k (by simpa using h)];simp
 ·rw[a1O _ k (by simp;omega)]
theorem a8G (n:Nat):Dgs (List.replicate n (0:Int)):=by
 intro d hd;rw[(List.mem_replicate.1 hd).2];decide
theorem b8U.start (la lb:List Int):b8U la lb 0 (List.replicate (la.length+lb.length) 0):=
 ⟨by simp,a8G _,by rw[a8F];simp[val],fun k _=>a5E _ k,Nat.zero_le _⟩
structure b8T (l:List Int)(D:Int)(m:Nat)(q:List Int)(R:Int):Prop where
 len:q.length=l.length
 dg:Dgs q
 r0:0<=R
 r1:R<D
 bd:m<=l.length
 zs:∀ k,k<m->q.getD k 0=0
 eq:∃ H QH,val l=val (l.take m)+pw m*H/\val q=pw m*QH/\H=QH*D+R
def p2 (t:Nat):Int:=2^t
theorem a7K (t:Nat):p2 (t+1)=2*p2 t:=by unfold p2;rw[Int.pow_succ,Int.mul_comm]
theorem b9s (t:Nat):0<p2 t:=Int.pow_pos (by decide)
structure VIn (x D R0:Int)(t:Nat)(y R:Int):Prop where
 r0:0<=R
 r1:R<D
 y0:0<=y
 y1:y<p2 t
 eq:R0*p2 t+x/p2 (16-t)=y*D+R
 bd:t<=16
theorem b8N (x:Int)(t:Nat)(ht:t<16):x/p2 (16-(t+1))=2*(x/p2 (16-t))+x/p2 (15-t)%2:=by
 have e:p2 (16-t)=p2 (15-t)*2:=by rw[show 16-t=15-t+1 by omega,a7K,Int.mul_comm]
 rw[show 16-(t+1)=15-t by omega,e,<-Int.ediv_ediv_of_nonneg (Int.le_of_lt (b9s _))]
 omega
theorem VIn.step {x D R0:Int}{t:Nat}{y R:Int}(h:VIn x D R0 t y R)(ht:t<16):
 (2*R+x/p2 (15-t)%2<D->VIn x D R0 (t+1) (2*y) (2*R+x/p2 (15-t)%2)) /\
 (D<=2*R+x/p2 (15-t)%2->VIn x D R0 (t+1) (2*y+1) (2*R+x/p2 (15-t)%2-D)):=by
 obtain⟨h1,h2,h3,h4,h5,h6⟩:=h
 have hb:=b8N x t ht
 have e1:R0*p2 (t+1)+x/p2 (16-(t+1))=2*(y*D+R)+x/p2 (15-t)%2:=by
  rw[hb,a7K,<-h5,Int.mul_add,<-Int.mul_assoc,Int.mul_comm R0 2,Int.mul_assoc,Int.add_assoc]
 have ps:=a7K t
 have c0:=Int.emod_nonneg (x/p2 (15-t)) (show (2:Int)≠0 by decide)
 have c1:=Int.emod_lt_of_pos (x/p2 (15-t)) (show (0:Int)<2 by decide)
 generalize x/p2 (15-t)%2=c at *
 constructor
 ·intro hl
  exact⟨by omega,hl,by omega,by omega,by rw[e1,Int.mul_assoc];omega,ht⟩
 ·intro hl
  exact⟨by omega,by omega,by omega,by omega,by rw[e1,Int.add_mul,Int.mul_assoc];omega,ht⟩
theorem VIn.start (x D R0:Int)(x0:0<=x)(x1:x<65536)(h0:0<=R0)(h1:R0<D):VIn x D R0 0 0 R0:=
 ⟨h0,h1,by decide,by decide,by
   have e:x/p2 16=0:=Int.ediv_eq_zero_of_lt x0 x1
   show R0*p2 0+x/p2 16=0*D+R0
   rw[e];simp[p2],by decide⟩
theorem b8T.next {l:List Int}{D:Int}{k:Nat}{q:List Int}{R y R':Int}(h:b8T l D (k+1) q R)(hi:VIn (l.getD k 0) D R 16 y R'):b8T l D k (q.set k y) R':=by
 obtain⟨h1,h2,h3,h4,h5,h6,H,QH,e1,e2,e3⟩:=h
 obtain⟨i1,i2,i3,i4,i5,i6⟩:=hi
 have hk:k<q.length:=by omega
 refine⟨by rw[List.length_set];exact h1,b0J h2 _ _ i3 i4,i1,i2,by omega,?_,?_⟩
 ·intro j hj
  rw[a4y q _ _ _ hk,if_neg (by omega)]
  exact h6 j (by omega)
 ·refine⟨H*65536+l.getD k 0,QH*65536+y,?_,?_,?_⟩
  ·rw[e1,a0w,a2s]
   generalize l.getD k 0=x at *
   have:pw k*(H*65536+x)=65536*pw k*H+pw k*x:=by rw[Int.mul_add];congr 1;grind
   omega
  ·rw[a9Y q _ _ hk,h6 k (by omega),Int.sub_zero,e2,a2s]
   have:pw k*(QH*65536+y)=65536*pw k*QH+pw k*y:=by rw[Int.mul_add];congr 1;grind
   omega
  ·have e4:l.getD k 0/p2 (16-16)=l.getD k 0:=by show _/p2 0=_;simp[p2]
   rw[e4] at i5
   have e5:p2 16=65536:=by decide
   rw[e5] at i5
   rw[e3,Int.add_mul,Int.add_mul,Int.mul_right_comm]
   omega
theorem b8T.start (l:List Int)(D:Int)(hD:0<D):b8T l D l.length (List.replicate l.length 0) 0:=
 ⟨by simp,a8G _,by decide,hD,Nat.le_refl _,fun k _=>a5E _ k,0,0,by rw[List.take_of_length_le (Nat.le_refl _)];omega,by rw[a8F];omega,by omega⟩
theorem b8T.done {l:List Int}{D:Int}{q:List Int}{R:Int}(h:b8T l D 0 q R):val l=val q*D+R:=by
 obtain⟨_,_,_,_,_,_,H,QH,e1,e2,e3⟩:=h
 simp[val,pw] at e1 e2
 rw[e1,e2];exact e3
end Go.Proofs.YtbddbnjhmdbkbaaGreatDoor
end
section
namespace Go.Proofs.YtbddbnjhmdbkbaaGreatDoor
open Go.RowKit Go.Deep
structure a8D (w:World)(g:Nat)(d:List Int):Prop where
 lt:g<w.heap.size
 cell:∀ i,i<d.length->w.cell? ⟨g,i,none⟩=some (.int .i64 (d.getD i 0))
 free:∀ i,i<d.length->w.frozen? ⟨g,i,none⟩=false
theorem a8D.set {w:World}{g:Nat}{d:List Int}(h:a8D w g d)(k:Nat)(hk:k<d.length)(x:Int):a8D (w.setCell ⟨g,k,none⟩ (.int .i64 x)) g (d.set k x):=by
 refine⟨by simpa[World.setCell] using h.lt,fun i hi=>?_,fun i hi=>?_⟩
 ·rw[List.length_set] at hi
  rw[a4y d k i x hk]
  by_cases e:i=k
  ·subst e;rw[if_pos rfl,World.cell?_setCell_same _ _ _ (h.cell i hi)]
  ·rw[if_neg e,World.cell?_setCell_other _ _ _ _ (by intro e';cases e';exact e rfl)];exact h.cell i hi
 ·rw[List.length_set] at hi
  rw[World.frozen?_setCell];exact h.free i hi
theorem a8D.made (w:World)(n:Nat):a8D (w.alloc (.cells (madeCells #[.int .i64 0] n) 3)) w.heap.size (List.replicate n 0):=by
 refine⟨by simp,fun i hi=>?_,fun i hi=>?_⟩
 ·simp at hi
  rw[a5E]
  exact(World.rowIs_made w (.int .i64 0) n 3).cell hi
 ·exact(World.rowIs_made w (.int .i64 0) n 3).frozen i
theorem a8D.isD {w:World}{g:Nat}{d:List Int}(h:a8D w g d)(hl:d.length<=1000):IsD w (.slice (some ⟨g,0,none⟩) d.length d.length) d:=
 ⟨_,_,rfl,hl,Nat.le_refl _,by unfold maxLen;omega,.inr ⟨g,0,rfl,h.lt,fun i hi=>by rw[Nat.zero_add];exact h.cell i hi⟩⟩
theorem a8D.later {w w':World}{g:Nat}{d:List Int}(h:a8D w g d)(hb:Below w.heap.size w w'):a8D w' g d:=
 ⟨Nat.lt_of_lt_of_le h.lt hb.size,fun i hi=>(hb.cell (p:=⟨g,i,none⟩) h.lt).trans (h.cell i hi),fun i hi=>(hb.frozen (p:=⟨g,i,none⟩) h.lt).trans (h.free i hi)⟩
structure c1X (s0:Nat)(na nb:Bool)(va vb:Value)(wr:World):Prop where
 a0:wr.cell? ⟨s0,0,none⟩=some (.bool na)
 a1:wr.cell? ⟨s0,1,none⟩=some va
 b0:wr.cell? ⟨s0+1,0,none⟩=some (.bool nb)
 b1:wr.cell? ⟨s0+1,1,none⟩=some vb
 c0:wr.cell? ⟨s0+1+1,0,none⟩=some (.bool false)
 c1:wr.cell? ⟨s0+1+1,1,none⟩=some (.slice none 0 0)
 f0:wr.frozen? ⟨s0+1+1,0,none⟩=false
 f1:wr.frozen? ⟨s0+1+1,1,none⟩=false
theorem c1X.later {s0:Nat}{na nb:Bool}{va vb:Value}{wr w':World}(h:c1X s0 na nb va vb wr)(hb:Below (s0+1+1+1) wr w'):c1X s0 na nb va vb w':=
 ⟨(hb.cell (p:=⟨s0,0,none⟩) (by simp<;>omega)).trans h.a0,(hb.cell (p:=⟨s0,1,none⟩) (by simp<;>omega)).trans h.a1,(hb.cell (p:=⟨s0+1,0,none⟩) (by simp<;>omega)).trans h.b0,(hb.cell (p:=⟨s0+1,1,none⟩) (by simp<;>omega)).trans h.b1,(hb.cell (p:=⟨s0+1+1,0,none⟩) (by simp<;>omega)).trans h.c0,(hb.cell (p:=⟨s0+1+1,1,none⟩) (by simp<;>omega)).trans h.c1,(hb.frozen (p:=⟨s0+1+1,0,none⟩) (by simp<;>omega)).trans h.f0,(hb.frozen (p:=⟨s0+1+1,1,none⟩) (by simp<;>omega)).trans h.f1⟩
set_option maxHeartbeats 4000000 in
theorem a2j (na nb:Bool)(sa sb:Value)(la lb:List Int)(a b:Int)(w:World)(ha:a5a w na sa la a)(hb:a5a w nb sb lb b)(ka:la.length<=400)(kb:lb.length<=400):
 Calls Tryz.prog 202 #[.agg #[.bool na,sa],.agg #[.bool nb,sb]] w (a3i w (a*b)):=by
 obtain⟨Ia,da,ta,ea⟩:=ha
 obtain⟨Ib,db,tb,eb⟩:=hb
 have en:a*b=sg (na != nb) (val la*val lb):=by rw[ea,eb];cases na<;>cases nb<;>simp[sg,Int.neg_mul,Int.mul_neg]
 have EN:Hid _:=en
 clear ea eb en
 have IA:=Ia
 have IB:=Ib
 obtain⟨aa,ca,rfl,_,_,_,hA⟩:=Ia
 obtain⟨ab,cb,rfl,_,_,_,hB⟩:=Ib
 have hmk:=run_make_row' (P:=Tryz.prog) 162 3 (.int .i64 0) 8 Tryz.underlying162 a3p rfl .i64 .i64 (la.length+lb.length) (by omega) (by omega)
 rw[show ((la.length+lb.length:Nat):Int)=(la.length:Int)+(lb.length:Int) by omega] at hmk
 go_enter Tryz.func202,Tryz.ntmps202
 go_wp2_with fail
 have rw0:=a8D.made (((w.alloc (.cells #[.bool na,.slice aa la.length ca] 164)).alloc (.cells #[.bool nb,.slice ab lb.length cb] 164)).alloc (.cells #[.bool false,.slice none 0 0] 164)) (la.length+lb.length)
 have mm0:c1X w.heap.size na nb (.slice aa la.length ca) (.slice ab lb.length cb) ((((w.alloc (.cells #[.bool na,.slice aa la.length ca] 164)).alloc (.cells #[.bool nb,.slice ab lb.length cb] 164)).alloc (.cells #[.bool false,.slice none 0 0] 164)).alloc (.cells (madeCells #[.int .i64 0] (la.length+lb.length)) 3)):=by
  constructor<;>simp[go_sem]
 have bl0:Below w.heap.size w ((((w.alloc (.cells #[.bool na,.slice aa la.length ca] 164)).alloc (.cells #[.bool nb,.slice ab lb.length cb] 164)).alloc (.cells #[.bool false,.slice none 0 0] 164)).alloc (.cells (madeCells #[.int .i64 0] (la.length+lb.length)) 3)):=(a1b _ _ _ _).alloc (by simp;omega) _
 have st:=b8U.start la lb
 clear hmk
 go_loopw [6] (fun i wr=>∃ (k:Nat) (d:List Int),i=.int .i64 k/\b8U la lb k d/\a8D wr (w.heap.size+1+1+1) d/\c1X w.heap.size na nb (.slice aa la.length ca) (.slice ab lb.length cb) wr/\Below w.heap.size w wr) (fun i _=>la.length-(intOf i).toNat)
 case atStart=>exact⟨0,_,rfl,st,by simpa using rw0,mm0,bl0⟩
 case round=>
  obtain⟨k,d,rfl,inv,row,mm,bl⟩:=hrel
  have m1:=mm.a0
  have m2:=mm.a1
  have m3:=mm.b0
  have m4:=mm.b1
  have hk:=inv.bd
  by_cases hlt:k<la.length
  ·have hin:=inv.enter
   have k1:(k:Int)<(la.length:Int):=by omega
   go_wp2_with fail
   rcases hA with hA | ⟨ba,oa,rfl,h5,h6⟩
   ·subst hA;simp at hlt
   go_loopw [7,8] (fun c j wr2=>∃ (t:Nat) (cy:Int) (d':List Int),c=.int .i64 cy/\j=.int .i64 t/\TIn la lb k t cy d'/\a8D wr2 (w.heap.size+1+1+1) d'/\c1X w.heap.size na nb (.slice (some ⟨ba,oa,none⟩) la.length ca) (.slice ab lb.length cb) wr2/\Below w.heap.size w wr2) (fun _ j _=>lb.length-(intOf j).toNat)
   case atStart=>exact⟨0,0,d,rfl,rfl,hin,row,mm,bl⟩
   case round=>
    clear m1 m2 m3 m4 mm row bl inv hin
    obtain⟨t,cy,d',rfl,rfl,inv,row,mm,bl⟩:=hrel
    have m1:=mm.a0
    have m2:=mm.a1
    have m3:=mm.b0
    have m4:=mm.b1
    have ht:=inv.bd
    have c0:=inv.c0
    have c1:=inv.c1
    have hln:=inv.len
    by_cases hlt2:t<lb.length
    ·rcases hB with hB | ⟨bb,ob,rfl,h5',h6'⟩
     ·subst hB;simp at hlt2
     have nx:=inv.step da db hlt hlt2
     have hca:wr.cell? ⟨ba,oa+k,none⟩=some (.int .i64 (la.getD k 0)):=(bl.cell (p:=⟨ba,oa+k,none⟩) h5).trans (h6 k hlt)
     have hcb:wr.cell? ⟨bb,ob+t,none⟩=some (.int .i64 (lb.getD t 0)):=(bl.cell (p:=⟨bb,ob+t,none⟩) h5').trans (h6' t hlt2)
     have hcd:=row.cell (k+t) (by omega)
     have hfd:=row.free (k+t) (by omega)
     have gx:=a0I la da k
     have gy:=a0I lb db t
     have gd:=a0I d' inv.dg (k+t)
     have gp:=b1F gx.1 gx.2 gy.1 gy.2
     have HR:Hid _:=row
     have H6:Hid _:=h6
     have H6':Hid _:=h6'
     have HL:Hid _:=hln
     have k2:(t:Int)<(lb.length:Int):=by omega
     have k3:(k:Int)+(t:Int)<(la.length:Int)+(lb.length:Int):=by omega
     clear row h6 h6' hln
     generalize la.getD k 0=x at *
     generalize lb.getD t 0=y at *
     generalize d'.getD (k+t) 0=z at *
     go_wp2_with fail
     go_quiet (fail)
     have rq:a8D (wr.drewN nq) (w.heap.size+1+1+1) d':=HR.out.later ⟨rfl,rfl,rfl,Nat.le_refl _,fun _ _=>rfl⟩
     have mq:c1X w.heap.size na nb (.slice (some ⟨ba,oa,none⟩) la.length ca) (.slice (some ⟨bb,ob,none⟩) lb.length cb) (wr.drewN nq):=mm.later ⟨rfl,rfl,rfl,Nat.le_refl _,fun _ _=>rfl⟩
     have bq:Below w.heap.size w (wr.drewN nq):=bl.trans ⟨rfl,rfl,rfl,Nat.le_refl _,fun _ _=>rfl⟩
     have cq:(wr.drewN nq).cell? ⟨w.heap.size+1+1+1,k+t,none⟩=some (.int .i64 z):=hcd
     have fq:(wr.drewN nq).frozen? ⟨w.heap.size+1+1+1,k+t,none⟩=false:=hfd
     have row2:=rq.set (k+t) (by have:=HL.out;omega) ((z+x*y+cy)%65536)
     clear HR mm bl hcd hfd hca hcb
     generalize wr.drewN nq=wq at *
     go_wp2_with fail
     go_roundw
     case rel=>
      refine⟨t+1,_,_,rfl,by go_num,nx,row2,mq.later ?_,bq.setCell (by simp;omega) _⟩
      exact(Below.refl _ _).setCell (by simp) _
     case measure=>simp[intOf];omega
    ·have htt:t=lb.length:=by omega
     have INV:=inv
     rw[htt] at INV
     have nx:=INV.leave hlt
     have hcd:=row.cell (k+lb.length) (by omega)
     have hfd:=row.free (k+lb.length) (by omega)
     have row2:=row.set (k+lb.length) (by omega) cy
     have HR:Hid _:=row
     have k3:(k:Int)+(lb.length:Int)<(la.length:Int)+(lb.length:Int):=by omega
     clear htt INV hln row
     go_wp2_with fail
     go_roundw
     case rel=>
      refine⟨k+1,_,by go_num,nx,row2,mm.later ?_,bl.setCell (by simp;omega) _⟩
      exact(Below.refl _ _).setCell (by simp) _
     case measure=>simp[intOf];omega
  ·have hkk:k=la.length:=by omega
   have INV:=inv
   rw[hkk] at INV
   have hv:=INV.done
   have HV:Hid _:=hv
   have hln:d.length<=1000:=by have:=inv.len;omega
   have hdl:=inv.len
   have hI:=row.isD hln
   rw[inv.len] at hI
   have m5:=mm.c0
   have m6:=mm.c1
   have m7:=mm.f0
   have m8:=mm.f1
   have HDL:Hid _:=hdl
   have hz:w.heap.size+1+1+1<wr.heap.size:=row.lt
   clear hkk INV hv hdl hA hB
   go_wp2_with fail
   go_region_held3 (fun w'=>w'.cell? ⟨w.heap.size,0,none⟩=some (.bool na)/\w'.cell? ⟨w.heap.size+1,0,none⟩=some (.bool nb)/\w'.frozen? ⟨w.heap.size+1+1,0,none⟩=false/\w'.frozen? ⟨w.heap.size+1+1,1,none⟩=false) (simp[go_sem, *])
    (first|(go_at_call 255;refine(a4j _ d _ (hI.later (by exact(Below.refl _ _).drew)) inv.dg).mono ?_;rintro e w' ⟨s',l',rfl,I',d',t',v',rfl⟩;have I2:=I';obtain⟨a',c',rfl,_⟩:=I'))
   go_wp2_with fail
   refine bodyPost_ret (v:=.agg #[.bool (!(na==nb)),.slice a' l'.length c']) (by simp[results,Tryz.results202,go_sem,m5,m6]) rfl ⟨_,_,l',rfl,⟨?_,d',t',by rw[EN.out,v',HV.out];rfl⟩,?_⟩
   ·exact a3v I2 _ m5 m6 _ _
   ·exact((bl.drew).setCell (by simp;omega) _).setCell (by simp;omega) _
theorem b6X (q:List Int)(k:Nat)(h:k<q.length)(hz:q.getD k 0=0):q.set k 0=q:=by
 apply List.ext_getElem (by simp)
 intro i h1 h2
 rw[List.getElem_set]
 split
 ·rename_i e;subst e;rw[a2H q k h] at hz;exact hz.symm
 ·rfl
theorem c4u (t:Nat)(h:t<=16):p2 t<=65536:=by
 have:∀ k:Nat,k<=16->p2 (16-k)<=65536:=by
  intro k
  induction k with
  | zero=>intro _;decide
  | succ k ih=>
    intro hk
    have h1:=ih (by omega)
    have h2:=a7K (16-(k+1))
    rw[show 16-(k+1)+1=16-k by omega] at h2
    have h3:=b9s (16-(k+1))
    omega
 have h1:=this (16-t) (by omega)
 rwa [show 16-(16-t)=t by omega] at h1
theorem b0I {n D q r:Int}(h:n=q*D+r)(r0:0<=r)(r1:r<D):n/D=q:=by
 subst h
 rw[Int.add_comm,Int.add_mul_ediv_right _ _ (by omega),Int.ediv_eq_zero_of_lt r0 r1,Int.zero_add]
theorem c1C:Dgs [1]:=by intro d hd;simp at hd;subst hd;decide
theorem c1c (w:World):IsD (w.alloc (.cells #[.int .i64 1] 3)) (.slice (some ⟨w.heap.size,0,none⟩) 1 1) [1]:=by
 refine⟨_,1,rfl,by decide,by decide,by unfold maxLen;omega,.inr ⟨w.heap.size,0,rfl,by simp,fun i hi=>?_⟩⟩
 have e:i=0:=by simp at hi;omega
 subst e
 simp[go_sem]
theorem a8Q (q:List Int)(k:Nat)(x y:Int):(q.set k x).set k y=q.set k y:=by simp
structure c2i (s0:Nat)(na:Bool)(va:Value)(wr:World):Prop where
 a0:wr.cell? ⟨s0,0,none⟩=some (.bool na)
 a1:wr.cell? ⟨s0,1,none⟩=some va
 c0:wr.cell? ⟨s0+1,0,none⟩=some (.bool false)
 c1:wr.cell? ⟨s0+1,1,none⟩=some (.slice none 0 0)
 f0:wr.frozen? ⟨s0+1,0,none⟩=false
 f1:wr.frozen? ⟨s0+1,1,none⟩=false
theorem c2i.later {s0:Nat}{na:Bool}{va:Value}{wr w':World}(h:c2i s0 na va wr)(hb:Below (s0+1+1) wr w'):c2i s0 na va w':=
 ⟨(hb.cell (p:=⟨s0,0,none⟩) (by simp<;>omega)).trans h.a0,(hb.cell (p:=⟨s0,1,none⟩) (by simp<;>omega)).trans h.a1,(hb.cell (p:=⟨s0+1,0,none⟩) (by simp<;>omega)).trans h.c0,(hb.cell (p:=⟨s0+1,1,none⟩) (by simp<;>omega)).trans h.c1,(hb.frozen (p:=⟨s0+1,0,none⟩) (by simp<;>omega)).trans h.f0,(hb.frozen (p:=⟨s0+1,1,none⟩) (by simp<;>omega)).trans h.f1⟩
set_option maxHeartbeats 4000000 in
theorem a2d (na:Bool)(sa:Value)(la:List Int)(a D:Int)(w:World)(ha:a5a w na sa la a)(ka:la.length<=400)(D0:1<=D)(D1:D<9223372036854775808):
 Calls Tryz.prog 193 #[.agg #[.bool na,sa],.int .i64 D] w (a3i w (a/D)):=by
 obtain⟨Ia,da,ta,ea⟩:=ha
 have EA:Hid _:=ea
 clear ea
 have IA:=Ia
 obtain⟨aa,ca,rfl,_,_,_,hA⟩:=Ia
 have hmk:=run_make_row' (P:=Tryz.prog) 162 3 (.int .i64 0) 8 Tryz.underlying162 a3p rfl .i64 .i64 la.length (by omega) (by omega)
 go_enter Tryz.func193,Tryz.ntmps193
 go_wp2_with fail
 have rw0:=a8D.made ((w.alloc (.cells #[.bool na,.slice aa la.length ca] 164)).alloc (.cells #[.bool false,.slice none 0 0] 164)) la.length
 have mm0:c2i w.heap.size na (.slice aa la.length ca) (((w.alloc (.cells #[.bool na,.slice aa la.length ca] 164)).alloc (.cells #[.bool false,.slice none 0 0] 164)).alloc (.cells (madeCells #[.int .i64 0] la.length) 3)):=by
  constructor<;>simp[go_sem]
 have bl0:Below w.heap.size w (((w.alloc (.cells #[.bool na,.slice aa la.length ca] 164)).alloc (.cells #[.bool false,.slice none 0 0] 164)).alloc (.cells (madeCells #[.int .i64 0] la.length) 3)):=a1b _ _ _ _
 have st:=b8T.start la D (by omega)
 clear hmk
 go_loopw [6,7] (fun r i wr=>∃ (m:Nat) (R:Int) (q:List Int),r=.int .u64 R/\i=.int .i64 ((m:Int)-1)/\b8T la D m q R/\a8D wr (w.heap.size+1+1) q/\c2i w.heap.size na (.slice aa la.length ca) wr/\Below w.heap.size w wr) (fun _ i _=>(intOf i+1).toNat)
 case atStart=>exact⟨la.length,0,_,rfl,rfl,st,by simpa using rw0,mm0,bl0⟩
 case round=>
  clear rw0 mm0 bl0 st
  obtain⟨m,R,q,rfl,rfl,inv,row,mm,bl⟩:=hrel
  have m1:=mm.a0
  have m2:=mm.a1
  have hm:=inv.bd
  by_cases hm0:m=0
  ·subst hm0
   have hv:=inv.done
   have r0:=inv.r0
   have r1:=inv.r1
   have qb:=(a2J q inv.dg).1
   have hln:q.length<=1000:=by have:=inv.len;omega
   have hI:=row.isD hln
   rw[inv.len] at hI
   have m5:=mm.c0
   have m6:=mm.c1
   have m7:=mm.f0
   have m8:=mm.f1
   have HV:Hid _:=hv
   have hz0:w.heap.size<wr.heap.size:=by have:=row.lt;omega
   have hz1:w.heap.size+1<wr.heap.size:=by have:=row.lt;omega
   have hql4:q.length<=400:=by have:=inv.len;omega
   clear hv hA
   go_wp2_with fail
   refine(a4j _ q _ hI inv.dg).mono ?_
   rintro e w1 ⟨s',l',rfl,I',d',t',v',hw⟩
   subst hw
   have l4:l'.length<=400:=b9u l' d' t' 400 (by rw[v'];have h1:=(a2J q inv.dg).2;have h2:=a5O hql4;omega)
   have V':Hid _:=v'
   clear v'
   by_cases hsr:na=true/\0<R
   ·obtain⟨rfl,hR⟩:=hsr
    have en:a/D=sg true (val l'+1):=by
     show a/D = -(val l'+1)
     rw[EA.out,V'.out]
     exact b0I (r:=D-R) (by show -val la=_;rw[HV.out,Int.neg_mul,Int.add_mul];omega) (by omega) (by omega)
    have EN:Hid _:=en
    clear en
    have I2:=I'
    obtain⟨a',c',rfl,_⟩:=I'
    go_wp2_with fail
    refine(b3N _ _ l' [1] _ (I2.later ((Below.refl _ _).alloc (Nat.le_refl _) _)) (c1c _) d' c1C (by omega) (by decide)).mono ?_
    rintro e w2 ⟨s2,l2,rfl,I3,d3,t3,v3,hb2⟩
    have g1:=hb2.cell (p:=⟨w.heap.size,0,none⟩) (by simp;omega)
    have g5:=hb2.cell (p:=⟨w.heap.size+1,0,none⟩) (by simp;omega)
    have g6:=hb2.cell (p:=⟨w.heap.size+1,1,none⟩) (by simp;omega)
    have g7:=hb2.frozen (p:=⟨w.heap.size+1,0,none⟩) (by simp;omega)
    have g8:=hb2.frozen (p:=⟨w.heap.size+1,1,none⟩) (by simp;omega)
    simp[go_sem,hz0,hz1,m1,m5,m6,m7,m8] at g1 g5 g6 g7 g8
    have V3:Hid _:=v3
    clear v3
    have I4:=I3
    obtain⟨a2,c2,rfl,_⟩:=I3
    go_wp2_with fail
    refine bodyPost_ret (v:=.agg #[.bool true,.slice a2 l2.length c2]) (by simp[results,Tryz.results193,go_sem,g5,g6]) rfl ⟨_,_,l2,rfl,⟨?_,d3,t3,by rw[EN.out,V3.out];rfl⟩,?_⟩
    ·exact a3v I4 _ g5 g6 _ _
    ·exact(((bl.alloc (by omega) _).trans (hb2.mono (by simp;omega))).setCell (by simp) _).setCell (by simp) _
   ·have en:a/D=sg na (val l'):=by
     rw[EA.out,V'.out]
     cases na
     ·exact b0I (r:=R) HV.out r0 r1
     ·have hR:R=0:=by simp at hsr;omega
      exact b0I (r:=0) (by show -val la = -val q*D+0;rw[HV.out,hR,Int.neg_mul];omega) (by omega) (by omega)
    have EN:Hid _:=en
    clear en
    have I2:=I'
    obtain⟨a',c',rfl,_⟩:=I'
    cases na
    ·go_wp2_with fail
     refine bodyPost_ret (v:=.agg #[.bool false,.slice a' l'.length c']) (by simp[results,Tryz.results193,go_sem,m5,m6]) rfl ⟨_,_,l',rfl,⟨?_,d',t',EN.out⟩,?_⟩
     ·exact a3v I2 _ m5 m6 _ _
     ·exact(bl.setCell (by simp) _).setCell (by simp) _
    ·have hR:R=0:=by simp at hsr;omega
     subst hR
     go_wp2_with fail
     refine bodyPost_ret (v:=.agg #[.bool true,.slice a' l'.length c']) (by simp[results,Tryz.results193,go_sem,m5,m6]) rfl ⟨_,_,l',rfl,⟨?_,d',t',EN.out⟩,?_⟩
     ·exact a3v I2 _ m5 m6 _ _
     ·exact(bl.setCell (by simp) _).setCell (by simp) _
  ·obtain⟨k,rfl⟩:∃ k,m=k+1:=⟨m-1,by omega⟩
   rcases hA with hA | ⟨ba,oa,rfl,h5,h6⟩
   ·subst hA;simp at hm
   have ek:(((k+1:Nat):Int)-1)=(k:Int):=by omega
   rw[ek]
   have k1:(k:Int)<(la.length:Int):=by omega
   have gx:=a0I la da k
   have hin:=VIn.start (la.getD k 0) D R gx.1 gx.2 inv.r0 inv.r1
   have hql:=inv.len
   have hqz:=inv.zs k (by omega)
   have row':a8D wr (w.heap.size+1+1) (q.set k 0):=by rw[b6X q k (by omega) hqz];exact row
   have HQ:Hid _:=hql
   have HZ:Hid _:=hqz
   clear hqz hql
   go_wp2_with fail
   go_loopw [6,8] (fun r j wr2=>∃ (c:Nat) (y R':Int),r=.int .u64 R'/\j=.int .i64 ((c:Int)-1)/\c<=16/\VIn (la.getD k 0) D R (16-c) y R'/\a8D wr2 (w.heap.size+1+1) (q.set k y)/\c2i w.heap.size na (.slice (some ⟨ba,oa,none⟩) la.length ca) wr2/\Below w.heap.size w wr2) (fun _ j _=>(intOf j+1).toNat)
   case atStart=>exact⟨16,0,R,rfl,rfl,by omega,hin,row',mm,bl⟩
   case round=>
    clear m1 m2 mm row row' bl hin
    obtain⟨c,y,R',rfl,rfl,hc,vin,row,mm,bl⟩:=hrel
    have m1:=mm.a0
    have m2:=mm.a1
    by_cases hc0:c=0
    ·subst hc0
     have nx:=inv.next vin
     go_wp2_with fail
     exact⟨⟨k,R',_,rfl,rfl,nx,row,mm,bl⟩,by simp[intOf]⟩
    ·obtain⟨e,rfl⟩:∃ e,c=e+1:=⟨c-1,by omega⟩
     have ee:(((e+1:Nat):Int)-1)=(e:Int):=by omega
     rw[ee]
     have hca:wr.cell? ⟨ba,oa+k,none⟩=some (.int .i64 (la.getD k 0)):=(bl.cell (p:=⟨ba,oa+k,none⟩) h5).trans (h6 k (by omega))
     have hkl:k<(q.set k y).length:=by rw[List.length_set,HQ.out];omega
     have hcd:=row.cell k hkl
     rw[a4y q k k y (by rw[HQ.out];omega),if_pos rfl] at hcd
     have hfd:=row.free k hkl
     obtain⟨s1,s2⟩:=vin.step (by omega)
     rw[show 16-(e+1)+1=16-e by omega,show 15-(16-(e+1))=e by omega,show p2 e=2^e from rfl] at s1 s2
     have r0:=vin.r0
     have r1:=vin.r1
     have y0:=vin.y0
     have y1:y<65536:=by have h1:=vin.y1;have h2:=c4u (16-(e+1)) (by omega);omega
     have x0:0<=la.getD k 0/2^e:=Int.ediv_nonneg gx.1 (Int.le_of_lt (Int.pow_pos (by decide)))
     have S1:Hid _:=s1
     have S2:Hid _:=s2
     have H6:Hid _:=h6
     have he:e<=15:=by omega
     have rowA:=row.set k hkl (2*y)
     rw[a8Q] at rowA
     have rowB:=rowA.set k (by rw[List.length_set,HQ.out];omega) (2*y+1)
     rw[a8Q] at rowB
     have HR:Hid _:=row
     have HRA:Hid _:=rowA
     have HRB:Hid _:=rowB
     clear s1 s2 h6 row rowA rowB vin
     generalize la.getD k 0=x at *
     have z0:=Int.emod_nonneg (x/2^e) (show (2:Int)≠0 by decide)
     have z1:=Int.emod_lt_of_pos (x/2^e) (show (0:Int)<2 by decide)
     by_cases hcmp:2*R'+x/2^e%2<D
     ·go_wp2_with fail
      exact⟨⟨e,2*y,_,rfl,rfl,by omega,S1.out hcmp,HRA.out,mm.later ((Below.refl _ _).setCell (by simp) _),bl.setCell (by simp;omega) _⟩,by simp[intOf]⟩
     ·go_wp2_with fail
      exact⟨⟨e,2*y+1,_,rfl,rfl,by omega,S2.out (by omega),HRB.out,mm.later (((Below.refl _ _).setCell (by simp) _).setCell (by simp) _),(bl.setCell (by simp;omega) _).setCell (by simp;omega) _⟩,by simp[intOf]⟩
theorem pw8:pw 8=340282366920938463463374607431768211456:=by decide
theorem a5a.len8 {w:World}{neg:Bool}{s:Value}{l:List Int}{n:Int}(h:a5a w neg s l n)(h0 : -340282366920938463463374607431768211456<n)(h1:n<340282366920938463463374607431768211456):l.length<=400:=by
 have:=h.len 8 (by rw[pw8];omega)
 omega
theorem b4t (a b:Int)(a0 : -9223372036854775808<=a)(a1:a<9223372036854775808)(b0 : -9223372036854775808<=b)(b1:b<9223372036854775808):
 -85070591730234615865843651857942052864<=a*b/\a*b<=85070591730234615865843651857942052864:=by
 have h1:(a.natAbs*b.natAbs:Nat)<=9223372036854775808*9223372036854775808:=Nat.mul_le_mul (by omega) (by omega)
 rw[<-Int.natAbs_mul] at h1
 omega
set_option maxHeartbeats 400000 in
theorem b7s (a b:Int)(a0 : -9223372036854775808<=a)(a1:a<9223372036854775808)(b0 : -9223372036854775808<=b)(b1:b<9223372036854775808)(w:World):
 Calls Tryz.prog 209 #[.int .i64 a,.int .i64 b] w fun e w'=>e=.returned (.int .i64 (a0R (a*b/1000000)))/\Below w.heap.size w w':=by
 have hp:=b4t a b a0 a1 b0 b1
 go_enter Tryz.func209,Tryz.ntmps209
 go_wp2_with fail
 refine(a1n a a0 a1 _).mono ?_
 rintro e w1 ⟨na,sa,la,rfl,va,hb1⟩
 go_wp2_with fail
 refine(a1n b b0 b1 _).mono ?_
 rintro e w2 ⟨nb,sb,lb,rfl,vb,hb2⟩
 go_wp2_with fail
 refine(a2j na nb sa sb la lb a b _ (va.later hb2) vb (va.len8 (by omega) (by omega)) (vb.len8 (by omega) (by omega))).mono ?_
 rintro e w3 ⟨nc,sc,lc,rfl,vc,hb3⟩
 go_wp2_with fail
 refine(a2d nc sc lc _ 1000000 _ vc (vc.len8 (by omega) (by omega)) (by decide) (by decide)).mono ?_
 rintro e w4 ⟨nd,sd,ld,rfl,vd,hb4⟩
 go_wp2_with fail
 refine(a0Y nd sd ld _ _ vd).mono ?_
 rintro e w5 ⟨rfl,hb5⟩
 go_wp2_with fail
 go_ret
 exact⟨rfl,a0k (a0k (a0k (a0k hb1 hb2) hb3) hb4) hb5⟩
set_option maxHeartbeats 400000 in
theorem b2s (a m d:Int)(a0 : -9223372036854775808<=a)(a1:a<9223372036854775808)(m0:0<=m)(m1:m<9223372036854775808)(d0:1<=d)(d1:d<9223372036854775808)(w:World):
 Calls Tryz.prog 207 #[.int .i64 a,.int .i64 m,.int .i64 d] w fun e w'=>e=.returned (.int .i64 (a0R (a*m/d)))/\Below w.heap.size w w':=by
 have hp:=b4t a m a0 a1 (by omega) m1
 have k1:decide (m<0)=false:=by simp;omega
 have k2:decide (d<1)=false:=by simp;omega
 go_enter Tryz.func207,Tryz.ntmps207
 go_wp2_with fail
 refine(a1n a a0 a1 _).mono ?_
 rintro e w1 ⟨na,sa,la,rfl,va,hb1⟩
 go_wp2_with fail
 refine(a1n m (by omega) m1 _).mono ?_
 rintro e w2 ⟨nb,sb,lb,rfl,vb,hb2⟩
 go_wp2_with fail
 refine(a2j na nb sa sb la lb a m _ (va.later hb2) vb (va.len8 (by omega) (by omega)) (vb.len8 (by omega) (by omega))).mono ?_
 rintro e w3 ⟨nc,sc,lc,rfl,vc,hb3⟩
 go_wp2_with fail
 refine(a2d nc sc lc _ d _ vc (vc.len8 (by omega) (by omega)) d0 d1).mono ?_
 rintro e w4 ⟨nd,sd,ld,rfl,vd,hb4⟩
 go_wp2_with fail
 refine(a0Y nd sd ld _ _ vd).mono ?_
 rintro e w5 ⟨rfl,hb5⟩
 go_wp2_with fail
 go_ret
 exact⟨rfl,a0k (a0k (a0k (a0k hb1 hb2) hb3) hb4) hb5⟩
set_option maxHeartbeats 400000 in
theorem b2q (a:Int)(a0 : -9223372036854775808<=a)(a1:a<9223372036854775808)(w:World):
 Calls Tryz.prog 112 #[.int .i64 a] w fun e w'=>e=.returned (.int .i64 (a0R (a*1000000)))/\Below w.heap.size w w':=by
 go_enter Tryz.func112,Tryz.ntmps112
 go_wp2_with fail
 refine(a1n a a0 a1 _).mono ?_
 rintro e w1 ⟨na,sa,la,rfl,va,hb1⟩
 go_wp2_with fail
 refine(a1n 1000000 (by decide) (by decide) _).mono ?_
 rintro e w2 ⟨nb,sb,lb,rfl,vb,hb2⟩
 go_wp2_with fail
 refine(a2j na nb sa sb la lb a 1000000 _ (va.later hb2) vb (va.len8 (by omega) (by omega)) (vb.len8 (by omega) (by omega))).mono ?_
 rintro e w3 ⟨nc,sc,lc,rfl,vc,hb3⟩
 go_wp2_with fail
 refine(a0Y nc sc lc _ _ vc).mono ?_
 rintro e w5 ⟨rfl,hb5⟩
 go_wp2_with fail
 go_ret
 exact⟨rfl,a0k (a0k (a0k hb1 hb2) hb3) hb5⟩
set_option maxHeartbeats 400000 in
theorem b2v (a:Int)(a0 : -9223372036854775808<=a)(a1:a<9223372036854775808)(w:World):
 Calls Tryz.prog 206 #[.int .i64 a] w fun e w'=>e=.returned (.int .i64 (a0R (a/1000000*1000000)))/\Below w.heap.size w w':=by
 go_enter Tryz.func206,Tryz.ntmps206
 go_wp2_with fail
 refine(a1n a a0 a1 _).mono ?_
 rintro e w1 ⟨na,sa,la,rfl,va,hb1⟩
 go_wp2_with fail
 refine(a2d na sa la _ 1000000 _ va (va.len8 (by omega) (by omega)) (by decide) (by decide)).mono ?_
 rintro e w2 ⟨nd,sd,ld,rfl,vd,hb2⟩
 go_wp2_with fail
 refine(a1n 1000000 (by decide) (by decide) _).mono ?_
 rintro e w3 ⟨nb,sb,lb,rfl,vb,hb3⟩
 go_wp2_with fail
 refine(a2j nd nb sd sb ld lb (a/1000000) 1000000 _ (vd.later hb3) vb (vd.len8 (by omega) (by omega)) (vb.len8 (by omega) (by omega))).mono ?_
 rintro e w4 ⟨nc,sc,lc,rfl,vc,hb4⟩
 go_wp2_with fail
 refine(a0Y nc sc lc _ _ vc).mono ?_
 rintro e w5 ⟨rfl,hb5⟩
 go_wp2_with fail
 go_ret
 exact⟨rfl,a0k (a0k (a0k (a0k hb1 hb2) hb3) hb4) hb5⟩
set_option maxHeartbeats 400000 in
theorem a9e (a:Int)(a0 : -9223372036854775808<=a)(a1:a<9223372036854775808)(w:World):
 Calls Tryz.prog 205 #[.int .i64 a] w fun e w'=>e=.returned (.int .i64 (a0R (-((-a)/1000000)*1000000)))/\Below w.heap.size w w':=by
 go_enter Tryz.func205,Tryz.ntmps205
 go_wp2_with fail
 refine(a1n a a0 a1 _).mono ?_
 rintro e w1 ⟨na,sa,la,rfl,va,hb1⟩
 go_wp2_with fail
 refine(a2Y na sa la a _ va).mono ?_
 rintro e w2 ⟨nm,sm,lm,rfl,vm,hb2⟩
 go_wp2_with fail
 refine(a2d nm sm lm (-a) 1000000 _ vm (vm.len8 (by omega) (by omega)) (by decide) (by decide)).mono ?_
 rintro e w3 ⟨nd,sd,ld,rfl,vd,hb3⟩
 go_wp2_with fail
 refine(a2Y nd sd ld _ _ vd).mono ?_
 rintro e w4 ⟨ne,se,le,rfl,ve,hb4⟩
 go_wp2_with fail
 refine(a1n 1000000 (by decide) (by decide) _).mono ?_
 rintro e w5 ⟨nb,sb,lb,rfl,vb,hb5⟩
 go_wp2_with fail
 refine(a2j ne nb se sb le lb (-((-a)/1000000)) 1000000 _ (ve.later hb5) vb (ve.len8 (by omega) (by omega)) (vb.len8 (by omega) (by omega))).mono ?_
 rintro e w6 ⟨nc,sc,lc,rfl,vc,hb6⟩
 go_wp2_with fail
 refine(a0Y nc sc lc _ _ vc).mono ?_
 rintro e w7 ⟨rfl,hb7⟩
 go_wp2_with fail
 go_ret
 exact⟨rfl,a0k (a0k (a0k (a0k (a0k (a0k hb1 hb2) hb3) hb4) hb5) hb6) hb7⟩
theorem b7e (n:Int): -9223372036854775808<=a0R n/\a0R n<9223372036854775808:=by unfold a0R;split<;>(try split)<;>omega
theorem b7d (n:Int)(h0 : -9223372036854775808<=n)(h1:n<9223372036854775808):a0R n=n:=by unfold a0R;rw[if_neg (by omega),if_neg (by omega)]
set_option maxHeartbeats 400000 in
theorem a6N (a:Int)(a0 : -9223372036854775808<=a)(a1:a<9223372036854775808)(w:World):
 Calls Tryz.prog 116 #[.int .i64 a] w fun e w'=>e=.returned (.int .i64 (a0R (-((-a)/1000000)*1000000)/1000000))/\Below w.heap.size w w':=by
 have hb:=b7e (-((-a)/1000000)*1000000)
 have e1:=b7d (a0R (-((-a)/1000000)*1000000)/1000000) (by omega) (by omega)
 have E1:Hid _:=e1
 clear e1
 go_enter Tryz.func116,Tryz.ntmps116
 go_wp2_with fail
 refine(a9e a a0 a1 _).mono ?_
 generalize hx:a0R (-((-a)/1000000)*1000000)=x at *
 have HX:Hid _:=hx
 clear hx
 rintro e w1 ⟨rfl,hb1⟩
 go_wp2_with fail
 refine(a1n x hb.1 hb.2 _).mono ?_
 rintro e w2 ⟨na,sa,la,rfl,va,hb2⟩
 go_wp2_with fail
 refine(a2d na sa la x 1000000 _ va (va.len8 (by omega) (by omega)) (by decide) (by decide)).mono ?_
 rintro e w3 ⟨nd,sd,ld,rfl,vd,hb3⟩
 go_wp2_with fail
 refine(a0Y nd sd ld _ _ vd).mono ?_
 rw[E1.out]
 rintro e w4 ⟨rfl,hb4⟩
 go_wp2_with fail
 go_ret
 exact⟨by rw[HX.out];rfl,a0k (a0k (a0k hb1 hb2) hb3) hb4⟩
theorem a6E (w:World)(o1 o2:Obj):Below w.heap.size w ((w.alloc o1).alloc o2):=((Below.refl _ _).alloc (Nat.le_refl _) _).alloc (by simp) _
set_option maxHeartbeats 1000000 in
theorem b8h (na:Bool)(sa:Value)(la:List Int)(a m:Int)(w:World)(ha:a5a w na sa la a)(ka:la.length<=400)(hm:a=2*m):
 Calls Tryz.prog 262 #[.agg #[.bool na,sa]] w (a3i w m):=by
 have hfd:∀ (b:Bool) (a:Option Addr) (n c:Nat) (w:World),(Instr.field 164 (.agg #[.bool b,.slice a n c]) 1).run Tryz.prog w=.ok (.slice a n c) w:=fun _ _ _ _ _=>by kernel_rfl
 have VA:a5a w false sa la (val la):=⟨ha.isD,ha.dg,ha.tr,rfl⟩
 have en:m=sg na (val la/2):=by
  have h1:=ha.num
  have h2:=(a2J la ha.dg).1
  rw[hm] at h1
  cases na
  ·have h3:2*m=val la:=h1;show m=val la/2;omega
  ·have h3:2*m = -val la:=h1;show m = -(val la/2);omega
 have EN:Hid _:=en
 have vp:=(a2J la ha.dg).1
 clear en hm
 obtain⟨⟨aa,ca,rfl,_⟩,da,ta,ea⟩:=ha
 clear ea
 go_enter Tryz.func262,Tryz.ntmps262
 go_wp2_with fail
 go_region_held3 (fun w'=>w'.cell? ⟨w.heap.size,0,none⟩=some (.bool na)/\w'.cell? ⟨w.heap.size,1,none⟩=some (.slice aa la.length ca)/\w'.frozen? ⟨w.heap.size+1,0,none⟩=false/\w'.frozen? ⟨w.heap.size+1,1,none⟩=false) (simp[go_sem, *])
  (first|(go_at_call 193;refine(a2d false _ la (val la) 2 _ (VA.later (by exact(a6E _ _ _).drew)) ka (by decide) (by decide)).mono ?_;rintro e w' ⟨nx,sx,lx,rfl,vx,hb'⟩;obtain⟨hc,hf⟩:=b6g hb';have V2:=vx;obtain⟨⟨a',c',rfl,_⟩,_,_,ex⟩:=vx;have EX:Hid _:=ex;clear ex))
 have cR0:=hb'.cell (p:=⟨w.heap.size+1,0,none⟩) (by simp)
 have cR1:=hb'.cell (p:=⟨w.heap.size+1,1,none⟩) (by simp)
 simp[go_sem] at cR0 cR1
 go_wp2_with fail
 refine bodyPost_ret (v:=.agg #[.bool na,.slice a' lx.length c']) (by simp[results,Tryz.results262,go_sem,cR0,cR1]) rfl ⟨_,_,lx,rfl,⟨?_,V2.dg,V2.tr,?_⟩,?_⟩
 ·exact a3v V2.isD _ cR0 cR1 _ _
 ·have h1:=b3S V2.num V2.dg
  rw[EN.out,h1]
  congr 1
  omega
 ·exact((((a6E _ _ _).drew).trans (hb'.mono (by simp;omega))).setCell (by simp) _).setCell (by simp) _
def b7f (n d:Int):Int:=if 0<d then n/d else (-n)/(-d)
set_option maxHeartbeats 1000000 in
theorem b7A (a b:Int)(a0 : -9223372036854775808<=a)(a1:a<9223372036854775808)(b0 : -9223372036854775808<=b)(b1:b<9223372036854775808)(hz:b≠0)(w:World):
 Calls Tryz.prog 210 #[.int .i64 a,.int .i64 b] w fun e w'=>e=.returned (.tuple #[.int .i64 (a0R (b7f (a*1000000) b)),.bool true])/\Below w.heap.size w w':=by
 have hk:(b==0)=false:=beq_eq_false_iff_ne.2 hz
 have HZ:Hid _:=hz
 clear hz
 by_cases hm:b = -9223372036854775808
 ·have e1:b7f (a*1000000) b = -(a*500000)/4611686018427387904:=by
   subst hm
   unfold b7f
   rw[if_neg (by decide)]
   show -(a*1000000)/9223372036854775808=_
   omega
  have E1:Hid _:=e1
  clear e1 HZ
  subst hm
  go_enter Tryz.func210,Tryz.ntmps210
  go_wp2_with fail
  refine(a1n a a0 a1 _).mono ?_
  rintro e w1 ⟨na,sa,la,rfl,va,hb1⟩
  go_wp2_with fail
  refine(a1n 1000000 (by decide) (by decide) _).mono ?_
  rintro e w2 ⟨nb,sb,lb,rfl,vb,hb2⟩
  go_wp2_with fail
  refine(a2j na nb sa sb la lb a 1000000 _ (va.later hb2) vb (va.len8 (by omega) (by omega)) (vb.len8 (by omega) (by omega))).mono ?_
  rintro e w3 ⟨nc,sc,lc,rfl,vc,hb3⟩
  have VC:=vc.later ((Below.refl _ _).alloc (Nat.le_refl _) (.cells #[.bool nc,sc] 164))
  have hk8:=vc.len8 (by omega) (by omega)
  have hw3:=a0k (a0k hb1 hb2) hb3
  obtain⟨a',c',rfl,_⟩:=vc.isD
  go_wp2_with fail
  refine(b8h nc _ lc _ (a*500000) _ VC hk8 (by omega)).mono ?_
  rintro e w4 ⟨nh,sh,lh,rfl,vh,hb4⟩
  go_wp2_with fail
  refine(a2Y nh sh lh _ _ vh).mono ?_
  rintro e w5 ⟨nm,sm,lm,rfl,vm,hb5⟩
  go_wp2_with fail
  refine(a2d nm sm lm _ 4611686018427387904 _ vm (vm.len8 (by omega) (by omega)) (by decide) (by decide)).mono ?_
  rintro e w6 ⟨nd,sd,ld,rfl,vd,hb6⟩
  go_wp2_with fail
  refine(a0Y nd sd ld _ _ vd).mono ?_
  rintro e w7 ⟨rfl,hb7⟩
  go_wp2_with fail
  go_ret2
  exact⟨by rw[E1.out];rfl,a0k (a0k (a0k ((hw3.alloc (by have:=hw3.size;omega) _).trans (hb4.mono (by have:=hw3.size;simp;omega))) hb5) hb6) hb7⟩
 by_cases hn:b<0
 ·have e1:b7f (a*1000000) b = -(a*1000000) / -b:=by unfold b7f;rw[if_neg (by omega)]
  have E1:Hid _:=e1
  have hm':(b == -9223372036854775808)=false:=beq_eq_false_iff_ne.2 hm
  have b2:1 <= -b:=by omega
  have b3 : -b<9223372036854775808:=by omega
  clear e1 HZ hm
  go_enter Tryz.func210,Tryz.ntmps210
  go_wp2_with fail
  refine(a1n a a0 a1 _).mono ?_
  rintro e w1 ⟨na,sa,la,rfl,va,hb1⟩
  go_wp2_with fail
  refine(a1n 1000000 (by decide) (by decide) _).mono ?_
  rintro e w2 ⟨nb,sb,lb,rfl,vb,hb2⟩
  go_wp2_with fail
  refine(a2j na nb sa sb la lb a 1000000 _ (va.later hb2) vb (va.len8 (by omega) (by omega)) (vb.len8 (by omega) (by omega))).mono ?_
  rintro e w3 ⟨nc,sc,lc,rfl,vc,hb3⟩
  have VC:=vc.later ((Below.refl _ _).alloc (Nat.le_refl _) (.cells #[.bool nc,sc] 164))
  have hk8:=vc.len8 (by omega) (by omega)
  have hw3:=a0k (a0k hb1 hb2) hb3
  obtain⟨a',c',rfl,_⟩:=vc.isD
  go_wp2_with fail
  refine(a2Y nc _ lc _ _ VC).mono ?_
  rintro e w5 ⟨nm,sm,lm,rfl,vm,hb5⟩
  go_wp2_with fail
  refine(a2d nm sm lm _ (-b) _ vm (vm.len8 (by omega) (by omega)) b2 b3).mono ?_
  rintro e w6 ⟨nd,sd,ld,rfl,vd,hb6⟩
  go_wp2_with fail
  refine(a0Y nd sd ld _ _ vd).mono ?_
  generalize hx:a0R (-(a*1000000) / -b)=x
  have HX:Hid _:=hx
  clear hx
  rintro e w7 ⟨rfl,hb7⟩
  go_wp2_with fail
  go_ret2
  exact⟨by rw[E1.out,HX.out];rfl,a0k (a0k ((hw3.alloc (by have:=hw3.size;omega) _).trans (hb5.mono (by have:=hw3.size;simp;omega))) hb6) hb7⟩
 ·have b2:1<=b:=by have:b≠0:=HZ.out;omega
  have e1:b7f (a*1000000) b=a*1000000/b:=by unfold b7f;rw[if_pos (by omega)]
  have E1:Hid _:=e1
  have hm':(b == -9223372036854775808)=false:=beq_eq_false_iff_ne.2 hm
  clear e1 HZ hm
  go_enter Tryz.func210,Tryz.ntmps210
  go_wp2_with fail
  refine(a1n a a0 a1 _).mono ?_
  rintro e w1 ⟨na,sa,la,rfl,va,hb1⟩
  go_wp2_with fail
  refine(a1n 1000000 (by decide) (by decide) _).mono ?_
  rintro e w2 ⟨nb,sb,lb,rfl,vb,hb2⟩
  go_wp2_with fail
  refine(a2j na nb sa sb la lb a 1000000 _ (va.later hb2) vb (va.len8 (by omega) (by omega)) (vb.len8 (by omega) (by omega))).mono ?_
  rintro e w3 ⟨nc,sc,lc,rfl,vc,hb3⟩
  have VC:=vc.later ((Below.refl _ _).alloc (Nat.le_refl _) (.cells #[.bool nc,sc] 164))
  have hk8:=vc.len8 (by omega) (by omega)
  have hw3:=a0k (a0k hb1 hb2) hb3
  obtain⟨a',c',rfl,_⟩:=vc.isD
  go_wp2_with fail
  refine(a2d nc _ lc _ b _ VC hk8 b2 b1).mono ?_
  rintro e w6 ⟨nd,sd,ld,rfl,vd,hb6⟩
  go_wp2_with fail
  refine(a0Y nd sd ld _ _ vd).mono ?_
  rintro e w7 ⟨rfl,hb7⟩
  go_wp2_with fail
  go_ret2
  exact⟨by rw[E1.out];rfl,a0k ((hw3.alloc (by have:=hw3.size;omega) _).trans (hb6.mono (by have:=hw3.size;simp;omega))) hb7⟩
theorem b4n (a:Int)(w:World):
 Calls Tryz.prog 210 #[.int .i64 a,.int .i64 0] w fun e w'=>e=.returned (.tuple #[.int .i64 0,.bool false])/\Below w.heap.size w w':=by
 go_enter Tryz.func210,Tryz.ntmps210
 go_wp2_with fail
 go_ret2
 exact⟨rfl,Below.refl _ _⟩
set_option maxHeartbeats 400000 in
theorem b4l (na:Bool)(sa:Value)(la:List Int)(a n:Int)(w:World)(ha:a5a w na sa la a)(ka:la.length<=400)(n0:1<=n)(n1:n<9223372036854775808):
 Calls Tryz.prog 105 #[.agg #[.bool na,sa],.int .i64 n] w (b6t w (a/n)):=by
 obtain⟨aa,ca,rfl,_⟩:=ha.isD
 have k:¬ n<1:=by omega
 go_enter Tryz.func105,Tryz.ntmps105
 go_wp2_with fail
 refine(a2d na _ la a n _ (ha.later ((Below.refl _ _).alloc (Nat.le_refl _) _)) ka n0 n1).mono ?_
 rintro e w1 ⟨nd,sd,ld,rfl,vd,hb1⟩
 go_wp2_with fail
 refine(a7F nd sd ld _ _ vd).mono ?_
 rintro e w2 ⟨x,b,rfl,hb,hx,hb2⟩
 go_wp2_with fail
 go_ret2
 exact⟨x,b,rfl,hb,hx,a0k (((Below.refl _ _).alloc (Nat.le_refl _) _).trans (hb1.mono (by simp))) hb2⟩
end Go.Proofs.YtbddbnjhmdbkbaaGreatDoor
end
