import Derived.Test.YtbddbnjhmdbkbaaGreatDoorMhD
import Derived.Test.YtbddbnjhmdbkbaaGreatDoorMhI
import Derived.Test.YtbddbnjhmdbkbaaGreatDoorMhJ
import Derived.Test.YtbddbnjhmdbkbaaGreatDoorMgH
import Derived.Deep.CutRange
import Derived.Test.YtbddbnjhmdbkbaaGreatDoorMhF
namespace Go.Proofs.YtbddbnjhmdbkbaaGreatDoor
open Go.RowKit
def Ls (w:World)(ok:Nat->Prop)(lv:Value)(L:List Int):Prop:=(lv=.slice none 0 0/\L=[])\/∃ gl,ok gl/\Sl w gl lv L
theorem Ls.shape {w:World}{ok:Nat->Prop}{lv:Value}{L:List Int}(h:Ls w ok lv L):∃ a c,lv=.slice a L.length c:=by
 rcases h with ⟨rfl,rfl⟩ | ⟨gl,_,h⟩
 ·exact⟨none,0,rfl⟩
 ·exact h.shape
def b1f (w:World)(ok:Nat->Prop)(lv:Value)(L:List Int)(w':World):Prop:=(∃ g',(ok g'\/w.heap.size<=g')/\Sl w' g' lv L)/\∃ S,a0h S w w'/\∀ i,i∈S->ok i
theorem a6T (ty:TypeId)(w:World)(ok:Nat->Prop)(lv:Value)(L:List Int)(h:Ls w ok lv L)(hl:L.length<17592186044416)(y:Int):
 ∃ a c w',(Builtin.append_ #[52,52] ty #[lv,.slice (some ⟨w.heap.size,0,none⟩) 1 1]).run Tryz.prog (w.alloc (.cells #[.int .i64 y] 2))=.ok (.slice a (L.length+1) c) w'/\b1f w ok (.slice a (L.length+1) c) (L++[y]) w':=by
 have hb:Below w.heap.size w (w.alloc (.cells #[.int .i64 y] 2)):=(ZD _ _).alloc (ZB _) _
 have hy:=cell_one_new w (.int .i64 y) 2
 rcases h with ⟨rfl,rfl⟩ | ⟨gl,hok,h⟩
 ·obtain⟨g',off',cap',w',h1,h2,h3,_,h5⟩:=a3U ty (w.alloc (.cells #[.int .i64 y] 2)) w.heap.size (.slice none 0 0) [] (.inl ⟨rfl,rfl,by simp⟩) (by simp) ⟨w.heap.size,0,none⟩ y hy
  refine⟨_,_,w',h1,⟨g',.inr ?_,h2⟩,[],(a0h.of_below hb).trans h3 (by simp),by simp⟩
  simp at h5;omega
 ·obtain⟨g',off',cap',w',h1,h2,h3,_,h5⟩:=a3U ty (w.alloc (.cells #[.int .i64 y] 2)) gl lv L (h.next hb) hl ⟨w.heap.size,0,none⟩ y hy
  refine⟨_,_,w',h1,⟨g',?_,h2⟩,[gl],(a0h.of_below hb).trans h3 (by simp),by simpa using hok⟩
  rcases h5 with e | e
  ·exact .inl (e ▸ hok)
  ·exact .inr (by simp at e;omega)
theorem a4L (w0 w:World){ops:Array Oper}{rest:List Oper}{o:Oper}{a:Act}{Q:Exit->Act->World->Prop}(hgd:o.guard=none)(s x:Operand)
 (hop:o.op=Op.call {callee:=Callee.builtin Builtin.append,args:=#[s,x],argTypes:=#[52,52]}) (ok:Nat->Prop) (lv:Value) (L:List Int) (y:Int) (hw:w=w0.alloc (.cells #[.int .i64 y] 2)) (hs:a.eval s=lv) (h:Ls w0 ok lv L) (hl:L.length<17592186044416)
 (hx:a.eval x=.slice (some ⟨w0.heap.size,0,none⟩) 1 1)
 (hK:∀ b c w',b1f w0 ok (.slice b (L.length+1) c) (L++[y]) w'->wpList Tryz.prog ops Q rest (a.put o.dst (.slice b (L.length+1) c)) w') :
 wpList Tryz.prog ops Q (o::rest) a w:=by
 refine wpList_plain hgd fun K hK'=>?_
 subst hw
 obtain⟨b,c,w',hrun,r⟩:=a6T o.type w0 ok lv L h hl y
 unfold Oper.wp
 simp[execOp,hop,resolve,invoke,builtin,hs,hx,hrun,Result.andThen]
 exact hK' _ _ (hK b c w' r)
theorem b4X (h:Bool)(a b:Int)(w:World):Calls Tryz.prog 195 #[.bool h,.int .i64 a,.int .i64 b] w fun e w'=>e=.returned (.bool (win h a b))/\w=w':=by
 cases h
 ·go_enter Tryz.func195,Tryz.ntmps195
  go_wp2_with fail
  go_ret
  exact⟨rfl,rfl⟩
 ·go_enter Tryz.func195,Tryz.ntmps195
  go_wp2_with fail
  go_ret
  exact⟨rfl,rfl⟩
def a9h (h:Bool)(L:List Int)(n:Nat)(y:Int):Prop:=y∈L.take n/\∀ z,z∈L.take n->win h z y=false
theorem b0g {h:Bool}{L:List Int}{y:Int}(e:L[0]? = some y):a9h h L 1 y:=by
 cases L with
 | nil=>simp at e
 | cons x T=>simp at e;subst e;exact⟨by simp,fun z hz=>by simp at hz;subst hz;exact a6I _ _⟩
theorem b4W {h:Bool}{L:List Int}{n:Nat}{x y:Int}(b:a9h h L n y)(hx:L[n]? = some x)(hw:win h x y=true):a9h h L (n+1) x:=by
 unfold a9h
 rw[List.take_add_one,hx]
 refine⟨by simp,fun z hz=>?_⟩
 rcases List.mem_append.1 hz with hz | hz
 ·cases hzx:win h z x with
  | false=>rfl
  | true=>have:=b.2 z hz;rw[a7Z hzx hw] at this;cases this
 ·simp at hz;subst hz;exact a6I _ _
theorem b4V {h:Bool}{L:List Int}{n:Nat}{x y:Int}(b:a9h h L n y)(hx:L[n]? = some x)(hw:win h x y=false):a9h h L (n+1) y:=by
 unfold a9h
 rw[List.take_add_one,hx]
 refine⟨List.mem_append_left _ b.1,fun z hz=>?_⟩
 rcases List.mem_append.1 hz with hz | hz
 ·exact b.2 z hz
 ·simp at hz;subst hz;exact hw
set_option maxRecDepth 20000 in
set_option maxHeartbeats 1000000 in
theorem b4k (h:Bool)(v:Value)(L:List Int)(y:Int)(K:List Int)(w:World)(hv:Rd w v L)(hy:kept h L=y::K)(hl:L.length<4611686018427387904):
 Calls Tryz.prog 107 #[.bool h,v] w fun e w'=>e=.returned (.tuple #[.int .i64 y,.bool true])/\w=w':=by
 have hne:L≠[]:=by rintro rfl;cases hy
 obtain⟨a,c,rfl,e | ⟨g,off,rfl,hg,hcell⟩⟩:=hv
 ·exact absurd e hne
 obtain⟨x0,hx0⟩:∃ x,L[0]? = some x:=⟨_,List.getElem?_eq_getElem (List.length_pos_iff.2 hne)⟩
 have d0:=hcell 0 x0 hx0
 rw[Nat.add_zero] at d0
 have hpos:0<L.length:=List.length_pos_iff.2 hne
 obtain⟨n,hn⟩:∃ n,n=L.length:=⟨_,rfl⟩
 rw[<-hn] at hl hpos ⊢
 have hn0:¬(n:Int)=0:=by omega
 have hn2:((n:Int)==0)=false:=by simpa using hn0
 have hn1:(0:Int)<(n:Int):=by omega
 have HY:=hid hy
 have HN:=hid hn
 have HC:=hid hcell
 have H0:=hid hx0
 clear hy hn hcell hx0 hne
 go_enter Tryz.func107,Tryz.ntmps107
 go_wp2_with fail
 go_loopw [6,7] (fun p q wr=>∃ (k:Nat) (b:Int),p=.int .i64 b/\q=.int .i64 (k:Nat)/\k<=n/\1<=k/\a9h h L k b/\w=wr) (fun _ q _=>n-(intOf q).toNat)
 case atStart=>exact⟨1,x0,rfl,rfl,hpos,ZB _,b0g H0.out,rfl⟩
 case round=>
  obtain⟨k,b,rfl,rfl,hk,hk1,hb,rfl⟩:=hrel
  by_cases hlt:k<n
  ·obtain⟨x,hx⟩:∃ x,L[k]? = some x:=⟨_,List.getElem?_eq_getElem (by have:=HN.out;omega)⟩
   have dk:=HC.out k x hx
   have hlt':(k:Int)<(n:Int):=by omega
   have HX:=hid hx
   have HB:=hid hb
   clear hx hb
   go_wp2_with fail
   refine(b4X h x b w).mono ?_
   rintro e w1 ⟨rfl,rfl⟩
   cases hw:win h x b with
   | true=>
     go_wp2_with fail
     go_roundw
     case rel=>exact⟨k+1,x,rfl,by simp,by omega,by omega,b4W HB.out HX.out hw,by trivial⟩
     case measure=>simp[intOf];omega
   | false=>
     go_wp2_with fail
     go_roundw
     case rel=>exact⟨k+1,b,rfl,by simp,by omega,by omega,b4V HB.out HX.out hw,by trivial⟩
     case measure=>simp[intOf];omega
  ·obtain rfl:k=n:=by omega
   have HB:=hid hb
   clear hb
   go_wp2_with fail
   go_ret2
   obtain⟨b1,b2⟩:=HB.out
   rw[List.take_of_length_le (by have:=HN.out;omega)] at b1 b2
   obtain⟨y1,y2⟩:=b3R HY.out
   obtain rfl:=b7t b1 b2 y1 y2
   exact⟨rfl,rfl⟩
structure PAt (w:World)(g off cap:Nat)(K:List (Int×Int)):Prop where
 lt:g<w.heap.size
 num:∀ i k,K[i]? = some k->w.cell? ⟨g,off+i*2,none⟩=some (.int .i64 k.1)
 ahd:∀ i k,K[i]? = some k->w.cell? ⟨g,off+i*2+1,none⟩=some (.int .i64 k.2)
 spare:∀ i,i<cap*2->(w.cell? ⟨g,off+i,none⟩).isSome=true
 free:∀ i,i<cap*2->w.frozen? ⟨g,off+i,none⟩=false
 le:K.length<=cap
 most:cap<=maxLen
theorem PAt.turn {S:List Nat}{w w':World}{g off cap:Nat}{K:List (Int×Int)}(h:PAt w g off cap K)(t:a0h S w w')(hn:g∉S):PAt w' g off cap K:=
 ⟨ZA h.lt t.size,fun i k hk=>(t.cell (p:=⟨g,off+i*2,none⟩) h.lt hn).trans (h.num i k hk),fun i k hk=>(t.cell (p:=⟨g,off+i*2+1,none⟩) h.lt hn).trans (h.ahd i k hk),fun i hi=>by rw[t.cell (p:=⟨g,off+i,none⟩) h.lt hn];exact h.spare i hi,fun i hi=>(t.frozen (p:=⟨g,off+i,none⟩) h.lt hn).trans (h.free i hi),h.le,h.most⟩
def PSl (w:World)(b g:Nat)(lv:Value)(K:List (Int×Int)):Prop:=(lv=.slice none 0 0/\K=[]/\g=b)\/(g≠b/\∃ off cap,lv=.slice (some ⟨g,off,none⟩) K.length cap/\PAt w g off cap K)
theorem b1M {w:World}{g cap:Nat}{K:List (Int×Int)}{vs:List Value}(h:Box w g vs)(hv:vs.length=cap*2)(hp:prs K <+: vs)(hm:cap<=maxLen):PAt w g 0 cap K:=by
 obtain⟨r,rfl⟩:=hp
 have hlen:=a1b K
 refine⟨h.lt,fun i k hk=>?_,fun i k hk=>?_,fun i hi=>?_,fun i hi=>?_,by simp at hv;omega,hm⟩
 ·have hi:i<K.length:=(List.getElem?_eq_some_iff.1 hk).1
  rw[Nat.zero_add]
  exact h.cell _ _ (by rw[List.getElem?_append_left (by omega)];exact a4W hk)
 ·have hi:i<K.length:=(List.getElem?_eq_some_iff.1 hk).1
  rw[Nat.zero_add]
  exact h.cell _ _ (by rw[List.getElem?_append_left (by omega)];exact a7a hk)
 ·rw[Nat.zero_add,h.cell i _ (List.getElem?_eq_getElem (by omega))];rfl
 ·rw[Nat.zero_add];exact h.free i (by omega)
theorem PAt.cells {w:World}{g off cap:Nat}{K:List (Int×Int)}(h:PAt w g off cap K):∀ j v,(prs K)[j]? = some v->w.cell? ⟨g,off+j,none⟩=some v:=by
 intro j v hv
 have hj:j<K.length*2:=by have:=(List.getElem?_eq_some_iff.1 hv).1;rwa [a1b] at this
 obtain⟨k,hk⟩:∃ k,K[j/2]? = some k:=⟨_,List.getElem?_eq_getElem (by omega)⟩
 rcases Nat.mod_two_eq_zero_or_one j with e | e
 ·have e2:j=j/2*2:=by omega
  have h1:=a4W hk
  have h2:=h.num _ _ hk
  rw[<-e2] at h1 h2
  rw[hv] at h1
  cases h1
  exact h2
 ·have e2:j=j/2*2+1:=by omega
  have h1:=a7a hk
  have h2:=h.ahd _ _ hk
  rw[<-e2] at h1
  rw[Nat.add_assoc,<-e2] at h2
  rw[hv] at h1
  cases h1
  exact h2
theorem PAt.snoc {w:World}{g off cap:Nat}{K:List (Int×Int)}(h:PAt w g off cap K)(y a:Int)(hl:K.length<cap):
 PAt ((w.setCell ⟨g,off+K.length*2,none⟩ (.int .i64 y)).setCell ⟨g,off+K.length*2+1,none⟩ (.int .i64 a)) g off cap (K++[(y,a)]):=by
 obtain⟨u0,hu0⟩:=Option.isSome_iff_exists.1 (h.spare (K.length*2) (by omega))
 obtain⟨u1,hu1⟩:=Option.isSome_iff_exists.1 (h.spare (K.length*2+1) (by omega))
 rw[<-Nat.add_assoc] at hu1
 have hother:∀ j,j≠K.length*2->j≠K.length*2+1->((w.setCell ⟨g,off+K.length*2,none⟩ (.int .i64 y)).setCell ⟨g,off+K.length*2+1,none⟩ (.int .i64 a)).cell? ⟨g,off+j,none⟩=w.cell? ⟨g,off+j,none⟩:=fun j h1 h2=>by
  rw[World.cell?_setCell_other _ _ _ _ (by intro e;have:=congrArg Addr.off e;simp at this;omega),World.cell?_setCell_other _ _ _ _ (by intro e;have:=congrArg Addr.off e;simp at this;omega)]
 have hn0:((w.setCell ⟨g,off+K.length*2,none⟩ (.int .i64 y)).setCell ⟨g,off+K.length*2+1,none⟩ (.int .i64 a)).cell? ⟨g,off+K.length*2,none⟩=some (.int .i64 y):=by
  rw[World.cell?_setCell_other _ _ _ _ (by intro e;have:=congrArg Addr.off e;simp at this)]
  exact World.cell?_setCell_same _ _ _ hu0
 have hn1:((w.setCell ⟨g,off+K.length*2,none⟩ (.int .i64 y)).setCell ⟨g,off+K.length*2+1,none⟩ (.int .i64 a)).cell? ⟨g,off+K.length*2+1,none⟩=some (.int .i64 a):=
  World.cell?_setCell_same _ _ _ (u:=u1) (by rw[World.cell?_setCell_other _ _ _ _ (by intro e;have:=congrArg Addr.off e;simp at this)];exact hu1)
 have hcase:∀ i k,(K++[(y,a)])[i]? = some k->K[i]? = some k/\i<K.length\/i=K.length/\k=(y,a):=fun i k hk=>by
  by_cases hi:i<K.length
  ·rw[List.getElem?_append_left hi] at hk;exact .inl ⟨hk,hi⟩
  ·have:i<(K++[(y,a)]).length:=(List.getElem?_eq_some_iff.1 hk).1
   simp at this
   obtain rfl:i=K.length:=by omega
   simp at hk
   exact .inr ⟨rfl,hk.symm⟩
 refine⟨by simpa[World.setCell] using h.lt,fun i k hk=>?_,fun i k hk=>?_,fun i hi=>?_,fun i hi=>(World.frozen?_setCell _ _ _ _).trans ((World.frozen?_setCell _ _ _ _).trans (h.free i hi)),by simp;omega,h.most⟩
 ·rcases hcase i k hk with ⟨hk,hi⟩ | ⟨rfl,rfl⟩
  ·rw[hother _ (by omega) (by omega)];exact h.num i k hk
  ·exact hn0
 ·rcases hcase i k hk with ⟨hk,hi⟩ | ⟨rfl,rfl⟩
  ·have e:=hother (i*2+1) (by omega) (by omega)
   simp only[<-Nat.add_assoc] at e
   rw[e];exact h.ahd i k hk
  ·exact hn1
 ·by_cases h1:i=K.length*2
  ·subst h1;rw[hn0];rfl
  ·by_cases h2:i=K.length*2+1
   ·subst h2;rw[<-Nat.add_assoc,hn1];rfl
   ·rw[hother i h1 h2];exact h.spare i hi
def c3P (w:World)(b g g':Nat)(lv:Value)(K:List (Int×Int))(w':World):Prop:=PSl w' b g' lv K/\(∃ S,a0h S w w'/\b∉S/\∀ i,i∈S->i=g)/\(g'=g\/w.heap.size<=g')
theorem a4E (ty:TypeId)(w:World)(b g:Nat)(lv:Value)(K:List (Int×Int))(hb:b<w.heap.size)(h:PSl w b g lv K)(hl:K.length<8796093022208)(ad:Addr)(y a:Int)(hy:∀ j u,[Value.int .i64 y,.int .i64 a][j]? = some u->w.cell? (ad.add j)=some u):
 ∃ g' off' cap' w',(Builtin.append_ #[76,76] ty #[lv,.slice (some ad) 1 1]).run Tryz.prog w=.ok (.slice (some ⟨g',off',none⟩) (K.length+1) cap') w' /\
  c3P w b g g' (.slice (some ⟨g',off',none⟩) (K.length+1) cap') (K++[(y,a)]) w':=by
 obtain⟨i0,hi,hz0,hz1,hz2⟩:=info_parts a8E
 have hmax:∀ n old,n<=8796093022208->grownCap w n old 78<=maxLen:=fun n old hn=>grownCap_le_maxLen w n old _ (by simp only[maxLen];omega)
 have grown:∀ (old:Nat),PAt (w.drew.alloc (.cells ((prs K).toArray++#[.int .i64 y,.int .i64 a]++Builtin.zeroCells (Value.agg #[.int .i64 0,.int .i64 0]).cells (grownCap w (K.length+1) old 78-(K.length+1))) 78)) w.heap.size 0 (grownCap w (K.length+1) old 78) (K++[(y,a)]):=by
  intro old
  have hge:=grownCap_ge w (K.length+1) old 78
  refine b1M (Box.ofBlock (t:=78) (cur:=(prs K).toArray++#[.int .i64 y,.int .i64 a]++Builtin.zeroCells (Value.agg #[.int .i64 0,.int .i64 0]).cells (grownCap w (K.length+1) old 78-(K.length+1))) (a4Y w.drew _)) ?_ ?_ (hmax _ _ (by omega))
  ·simp[a1b,size_zeroCells,Value.cells];omega
  ·exact⟨_,by simp[b1K,prs];rfl⟩
 have gturn:∀ (S:List Nat) (o:Obj),a0h S w (w.drew.alloc o):=fun _ o=>a0h.of_below (((ZD _ _).drew).alloc (ZB _) _)
 rcases h with ⟨rfl,rfl,hg⟩ | ⟨hgb,off,cap,rfl,h⟩
 ·have hr:=run_append_nil (P:=Tryz.prog) w 76 ty 78 i0 (.agg #[.int .i64 0,.int .i64 0]) Tryz.underlying76 hi hz0 ad 1 1 [.int .i64 y,.int .i64 a] (by rw[hz1];rfl) hy (by decide) (by decide) (by rw[hz2];decide)
  exact⟨w.heap.size,0,_,_,hr,.inr ⟨by omega,0,_,rfl,by simpa[prs] using grown 0⟩,⟨[],gturn _ _,by simp,by simp⟩,.inr (ZB _)⟩
 ·by_cases hc:K.length+1<=cap
  ·have hr:=run_append_room_cells (P:=Tryz.prog) w 76 ty 78 i0 Tryz.underlying76 hi g off K.length cap ad 1 1 [.int .i64 y,.int .i64 a] (by rw[hz1];rfl) hy (by simp[Value.oneCell']) hc (fun j hj=>by
    have:j<2:=by simpa using hj
    rw[hz1,Nat.add_assoc];exact h.spare _ (by omega)) (fun j hj=>by
    have:j<2:=by simpa using hj
    rw[hz1,Nat.add_assoc];exact h.free _ (by omega))
   rw[hz1] at hr
   refine⟨g,off,cap,_,hr,.inr ⟨hgb,off,cap,by simp,?_⟩,⟨[g],?_,by simpa using Ne.symm hgb,by simp⟩,.inl rfl⟩
   ·simpa[World.setCells] using h.snoc y a (by omega)
   ·simpa[World.setCells] using (a0h.set (S:=[g]) w ⟨g,off+K.length*2,none⟩ (.int .i64 y) (by simp)).andSet ⟨g,off+K.length*2+1,none⟩ (.int .i64 a) (.inl (by simp))
  ·have hr:=run_append_grow (P:=Tryz.prog) w 76 ty 78 i0 (.agg #[.int .i64 0,.int .i64 0]) Tryz.underlying76 hi hz0 ⟨g,off,none⟩ K.length cap (prs K) (by rw[hz1];exact a1b K) (fun j v hv=>by
    have:=h.cells j v hv
    by_cases hj:j=0
    ·subst hj;simpa[Addr.add] using this
    ·simpa[Addr.add,hj] using this) ad 1 1 [.int .i64 y,.int .i64 a] (by rw[hz1];rfl) hy (by have:=h.le;omega) (by omega) (growslice_fits (by have:=h.le;omega) (by rw[hz2];omega))
   exact⟨w.heap.size,0,_,_,hr,.inr ⟨by omega,0,_,by simp,grown cap⟩,⟨[],gturn _ _,by simp,by simp⟩,.inr (ZB _)⟩
def RdP (w:World)(v:Value)(A:List Pr):Prop:=∃ (a:Option Addr) (c:Nat),v=.slice a A.length c/\(A=[]\/∃ g off,a=some ⟨g,off,none⟩/\g<w.heap.size/\∀ i x,A[i]? = some x->w.cell? ⟨g,off+i*2,none⟩=some (.int .i64 x.1)/\w.cell? ⟨g,off+i*2+1,none⟩=some (.int .i64 x.2))
theorem RdP.next {w w':World}{v:Value}{A:List Pr}(h:RdP w v A)(t:Below w.heap.size w w'):RdP w' v A:=by
 obtain⟨a,c,e,h | ⟨g,off,e2,hg,h⟩⟩:=h
 ·exact⟨a,c,e,.inl h⟩
 ·exact⟨a,c,e,.inr ⟨g,off,e2,ZA hg t.size,fun i x hx=>⟨(t.cell (p:=⟨g,off+i*2,none⟩) hg).trans (h i x hx).1,(t.cell (p:=⟨g,off+i*2+1,none⟩) hg).trans (h i x hx).2⟩⟩⟩
def PLs (w:World)(ok:Nat->Prop)(lv:Value)(L:List Pr):Prop:=(lv=.slice none 0 0/\L=[])\/∃ g off cap,ok g/\lv=.slice (some ⟨g,off,none⟩) L.length cap/\PAt w g off cap L
theorem PLs.shape {w:World}{ok:Nat->Prop}{lv:Value}{L:List Pr}(h:PLs w ok lv L):∃ a c,lv=.slice a L.length c:=by
 rcases h with ⟨rfl,rfl⟩ | ⟨g,off,cap,_,e,_⟩
 ·exact⟨none,0,rfl⟩
 ·exact⟨_,_,e⟩
theorem PLs.rd {w:World}{ok:Nat->Prop}{lv:Value}{L:List Pr}(h:PLs w ok lv L):RdP w lv L:=by
 rcases h with ⟨rfl,rfl⟩ | ⟨g,off,cap,_,rfl,h⟩
 ·exact⟨none,0,rfl,.inl rfl⟩
 ·exact⟨_,cap,rfl,.inr ⟨g,off,rfl,h.lt,fun i x hx=>⟨h.num i x hx,h.ahd i x hx⟩⟩⟩
def a7S (w:World)(ok:Nat->Prop)(lv:Value)(L:List Pr)(w':World):Prop:=(∃ g' off cap,(ok g'\/w.heap.size<=g')/\lv=.slice (some ⟨g',off,none⟩) L.length cap/\PAt w' g' off cap L)/\∃ S,a0h S w w'/\∀ i,i∈S->ok i
theorem a5S (ty:TypeId)(w:World)(ok:Nat->Prop)(lv:Value)(L:List Pr)(h:PLs w ok lv L)(hl:L.length<8796093022208)(y:Pr):
 ∃ a c w',(Builtin.append_ #[76,76] ty #[lv,.slice (some ⟨w.heap.size,0,none⟩) 1 1]).run Tryz.prog (w.alloc (.cells #[.int .i64 y.1,.int .i64 y.2] 78))=.ok (.slice a (L.length+1) c) w'/\a7S w ok (.slice a (L.length+1) c) (L++[y]) w':=by
 have hb:Below w.heap.size w (w.alloc (.cells #[.int .i64 y.1,.int .i64 y.2] 78)):=(ZD _ _).alloc (ZB _) _
 have hy:=a4I w (.int .i64 y.1) (.int .i64 y.2) 78
 have hs:(w.alloc (.cells #[.int .i64 y.1,.int .i64 y.2] 78)).heap.size=w.heap.size+1:=by simp
 rcases h with ⟨rfl,rfl⟩ | ⟨gl,off,cap,hok,rfl,h⟩
 ·obtain⟨g',off',cap',w',h1,h2,⟨S,t,s1,s2⟩,h5⟩:=a4E ty (w.alloc (.cells #[.int .i64 y.1,.int .i64 y.2] 78)) w.heap.size w.heap.size (.slice none 0 0) [] (by omega) (.inl ⟨rfl,rfl,rfl⟩) (by simp) ⟨w.heap.size,0,none⟩ y.1 y.2 hy
  rcases h2 with ⟨e,_,_⟩ | ⟨hne,o2,c2,e2,h2⟩
  ·cases e
  refine⟨_,_,w',h1,⟨g',o2,c2,.inr (by omega),by simpa using e2,h2⟩,[],?_,by simp⟩
  exact(a0h.of_below hb).trans t (fun i hi=>.inr (by have:=s2 i hi;omega))
 ·have hgl:=h.lt
  obtain⟨g',off',cap',w',h1,h2,⟨S,t,s1,s2⟩,h5⟩:=a4E ty (w.alloc (.cells #[.int .i64 y.1,.int .i64 y.2] 78)) w.heap.size gl (.slice (some ⟨gl,off,none⟩) L.length cap) L (by omega) (.inr ⟨by omega,off,cap,rfl,h.turn (S:=[]) (a0h.of_below hb) (by simp)⟩) hl ⟨w.heap.size,0,none⟩ y.1 y.2 hy
  rcases h2 with ⟨e,_,_⟩ | ⟨hne,o2,c2,e2,h2⟩
  ·cases e
  refine⟨_,_,w',h1,⟨g',o2,c2,?_,by simpa using e2,h2⟩,[gl],(a0h.of_below hb).trans t (fun i hi=>.inl (by have:=s2 i hi;simp[this])),by simpa using hok⟩
  rcases h5 with e | e
  ·exact .inl (e ▸ hok)
  ·exact .inr (by omega)
theorem a4o (w0 w:World){ops:Array Oper}{rest:List Oper}{o:Oper}{a:Act}{Q:Exit->Act->World->Prop}(hgd:o.guard=none)(s x:Operand)
 (hop:o.op=Op.call {callee:=Callee.builtin Builtin.append,args:=#[s,x],argTypes:=#[76,76]}) (ok:Nat->Prop) (lv:Value) (L:List Pr) (y:Pr) (hw:w=w0.alloc (.cells #[.int .i64 y.1,.int .i64 y.2] 78)) (hs:a.eval s=lv) (h:PLs w0 ok lv L) (hl:L.length<8796093022208)
 (hx:a.eval x=.slice (some ⟨w0.heap.size,0,none⟩) 1 1)
 (hK:∀ b c w',a7S w0 ok (.slice b (L.length+1) c) (L++[y]) w'->wpList Tryz.prog ops Q rest (a.put o.dst (.slice b (L.length+1) c)) w') :
 wpList Tryz.prog ops Q (o::rest) a w:=by
 refine wpList_plain hgd fun K hK'=>?_
 subst hw
 obtain⟨b,c,w',hrun,r⟩:=a5S o.type w0 ok lv L h hl y
 unfold Oper.wp
 simp[execOp,hop,resolve,invoke,builtin,hs,hx,hrun,Result.andThen]
 exact hK' _ _ (hK b c w' r)
theorem a7S.base {w w':World}{B:Nat}{lv:Value}{L:List Pr}(h:a7S w (fun g=>B<=g) lv L w')(hB:B<=w.heap.size):PLs w' (fun g=>B<=g) lv L/\Below B w w':=by
 obtain⟨⟨g,off,cap,ho,e,h⟩,S,t,hS⟩:=h
 exact⟨.inr ⟨g,off,cap,by omega,e,h⟩,t.below hS hB⟩
theorem b1f.base8 {w w':World}{B:Nat}{lv:Value}{L:List Int}(h:b1f w (fun g=>B<=g) lv L w')(hB:B<=w.heap.size):Ls w' (fun g=>B<=g) lv L/\Below B w w':=by
 obtain⟨⟨g,ho,h⟩,S,t,hS⟩:=h
 exact⟨.inr ⟨g,by omega,h⟩,t.below hS hB⟩
set_option maxRecDepth 20000 in
theorem b1m (t at' span:Int)(w:World)(h:at'<=t)(ht:a1n t)(ha:a1n at')(s1:1<=span)(s2:span<=604800):
 Calls Tryz.prog 190 #[.int .i64 t,.int .i64 at',.int .i64 span] w fun e w'=>e=.returned (.bool (decide (t-at'<span)))/\w=w':=by
 obtain⟨t1,t2⟩:=ht
 obtain⟨a1,a2⟩:=ha
 by_cases h0:0<=at'
 ·have hw:IntKind.i64.wrap (t-at')=t-at':=by rw[IntKind.wrap_i64];omega
  go_enter Tryz.func190,Tryz.ntmps190
  go_wp2_with fail
  go_ret
  exact⟨rfl,rfl⟩
 ·by_cases h1:t<0
  ·have hw:IntKind.i64.wrap (t-at')=t-at':=by rw[IntKind.wrap_i64];omega
   go_enter Tryz.func190,Tryz.ntmps190
   go_wp2_with fail
   go_ret
   exact⟨rfl,rfl⟩
  ·have hn:IntKind.i64.wrap (-span) = -span:=by rw[IntKind.wrap_i64];omega
   by_cases h2 : -span<=at'
   ·by_cases h3:t<span
    ·have hw:IntKind.i64.wrap (t-at')=t-at':=by rw[IntKind.wrap_i64];omega
     go_enter Tryz.func190,Tryz.ntmps190
     go_wp2_with fail
     go_ret
     exact⟨rfl,rfl⟩
    ·have hd:decide (t-at'<span)=false:=decide_eq_false (by omega)
     rw[hd]
     clear hd
     go_enter Tryz.func190,Tryz.ntmps190
     go_wp2_with fail
     go_ret
     exact⟨rfl,rfl⟩
   ·have hd:decide (t-at'<span)=false:=decide_eq_false (by omega)
    rw[hd]
    clear hd
    go_enter Tryz.func190,Tryz.ntmps190
    go_wp2_with fail
    go_ret
    exact⟨rfl,rfl⟩
def a3A (span t:Int)(A:List Pr):List Pr:=(A.drop (A.length-4096)).filter (fun s=>decide (t-s.1<span))
theorem a8F {A:List Pr}{st k:Nat}{x:Pr}(hx:A[k]? = some x)(h:st<=k):(A.drop st).take (k+1-st)=(A.drop st).take (k-st)++[x]:=by
 rw[show k+1-st=(k-st)+1 by omega,List.take_add_one,List.getElem?_drop,show st+(k-st)=k by omega,hx]
 rfl
structure c2d (A:List Pr)(t span:Int)(n st:Nat)(w:World)(k:Nat)(lv:Value)(wr:World):Prop where
 le:k<=n
 ge:st<=k
 ls:PLs wr (fun g=>w.heap.size<=g) lv (((A.drop st).take (k-st)).filter (fun s=>decide (t-s.1<span)))
 bel:Below w.heap.size w wr
set_option maxRecDepth 20000 in
set_option maxHeartbeats 1000000 in
theorem c3F (v:Value)(A:List Pr)(t span:Int)(w:World)(hv:RdP w v A)(hl:A.length<8796093022208)(hA:∀ x,x∈A->x.1<=t/\a1n x.1)(ht:a1n t)(s1:1<=span)(s2:span<=604800):
 Calls Tryz.prog 102 #[v,.int .i64 t,.int .i64 span] w fun e w'=>∃ lv,e=.returned lv/\PLs w' (fun g=>w.heap.size<=g) lv (a3A span t A)/\Below w.heap.size w w':=by
 obtain⟨a,c,rfl,hv⟩:=hv
 obtain⟨n,hn⟩:∃ n,n=A.length:=⟨_,rfl⟩
 obtain⟨st,hst⟩:∃ st:Nat,st=n-4096:=⟨_,rfl⟩
 have hw:IntKind.i64.wrap ((n:Int)-4096)=(n:Int)-4096:=by rw[IntKind.wrap_i64];omega
 have hsn:st<=n:=by omega
 have hn4:n-st<=4096:=by omega
 have hnl:n<8796093022208:=by omega
 rw[<-hn]
 have HV:=hid hv
 have HN:=hid hn
 have HA:=hid hA
 have HST:=hid hst
 clear hv hn hA hst hl
 go_enter Tryz.func102,Tryz.ntmps102
 go_wp2_with fail
 all_goals (
  go_loopw [7,8] (fun lv i wr=>∃ k:Nat,i=.int .i64 k/\c2d A t span n st w k lv wr) (fun _ i _=>n-(intOf i).toNat)
  case atStart=>
   refine⟨st,?_,hsn,ZB _,.inl ⟨rfl,by simp⟩,ZD _ _⟩
   have:=HST.out
   simp
   omega
  case round=>
   obtain⟨k,rfl,hk⟩:=hrel
   obtain⟨k1,k2,k3,k4⟩:=hk
   obtain⟨R,hR⟩:∃ R,R=((A.drop st).take (k-st)).filter (fun s=>decide (t-s.1<span)):=⟨_,rfl⟩
   rw[<-hR] at k3
   have HK:=hid k3
   have HB:=hid k4
   have HR:=hid hR
   have hRl:R.length<=4096:=by
    rw[hR]
    exact ZC (List.length_filter_le _ _) (by simp;omega)
   obtain⟨ao,co,hlv⟩:=k3.shape
   subst hlv
   clear k3 k4 hR
   by_cases hkn:k=n
   ·subst hkn
    go_wp2_with fail
    go_ret
    refine⟨_,rfl,?_,HB.out⟩
    have e:a3A span t A=R:=by
     rw[HR.out,a3A,<-HN.out,<-HST.out,List.take_of_length_le (by simp;have:=HN.out;omega)]
    rw[e]
    exact HK.out
   ·have hkl:k<n:=by omega
    have hkl':(k:Int)<(n:Int):=by omega
    obtain⟨x,hx⟩:∃ x,A[k]? = some x:=⟨_,List.getElem?_eq_getElem (by have:=HN.out;omega)⟩
    rcases HV.out with h0 | ⟨gl,off,rfl,hgl,hcell⟩
    ·rw[h0] at hx;simp at hx
    obtain⟨o0,o1⟩:=hcell k x hx
    have q0:=(HB.out.cell (p:=⟨gl,off+k*2,none⟩) hgl).trans o0
    have q1:=(HB.out.cell (p:=⟨gl,off+k*2+1,none⟩) hgl).trans o1
    have hglr:=ZA hgl HB.out.size
    obtain⟨xt,xin⟩:=HA.out x (List.mem_of_getElem? hx)
    have HX:=hid hx
    clear hcell o0 o1 hkn hx
    go_wp2_with fail
    refine ZE (b1m t x.1 span wr xt ht xin s1 s2) ?_
    rintro e w1 ⟨rfl,rfl⟩
    cases hd:decide (t-x.1<span) with
    | true=>
      have HD:=hid hd
      clear hd
      go_wp2_with (at_builtin;refine a4o wr _ rfl _ _ rfl (fun g=>w.heap.size<=g) (.slice ao R.length co) R x rfl rfl HK.out (by omega) rfl ?_;intro b2 c2 w2 hgr;obtain⟨hls2,hbw2⟩:=hgr.base HB.out.size;have HL2:=hid hls2;have HB2:=hid hbw2;clear hgr hls2 hbw2)
      go_roundw
      case rel=>exact⟨k+1,by simp,by omega,by omega,by rw[a8F HX.out k2,List.filter_append,<-HR.out];simpa[HD.out] using HL2.out,HB.out.trans HB2.out⟩
      case measure=>simp[intOf];omega
    | false=>
      have HD:=hid hd
      clear hd
      go_wp2_with fail
      go_roundw
      case rel=>exact⟨k+1,by simp,by omega,by omega,by rw[a8F HX.out k2,List.filter_append,<-HR.out];simpa[HD.out] using HK.out,HB.out⟩
      case measure=>simp[intOf];omega)
theorem Ls.rd8 {w:World}{ok:Nat->Prop}{lv:Value}{L:List Int}(h:Ls w ok lv L):Rd w lv L:=by
 rcases h with ⟨rfl,rfl⟩ | ⟨gl,_,h⟩
 ·exact⟨none,0,rfl,.inl rfl⟩
 ·exact h.rd
theorem b2L {A:List Pr}{k:Nat}{x:Pr}(hx:A[k]? = some x):a0Z (A.take (k+1))=a0Z (A.take k)++[x.2]:=by
 rw[List.take_add_one,hx];simp[a0Z]
set_option maxRecDepth 20000 in
set_option maxHeartbeats 1000000 in
theorem b9X (v:Value)(A:List Pr)(w:World)(hv:RdP w v A)(hl:A.length<8796093022208):
 Calls Tryz.prog 101 #[v] w fun e w'=>∃ lv,e=.returned lv/\Ls w' (fun g=>w.heap.size<=g) lv (a0Z A)/\Below w.heap.size w w':=by
 obtain⟨a,c,rfl,hv⟩:=hv
 obtain⟨n,hn⟩:∃ n,n=A.length:=⟨_,rfl⟩
 rw[<-hn] at hl ⊢
 have HV:=hid hv
 have HN:=hid hn
 clear hv hn
 go_enter Tryz.func101,Tryz.ntmps101
 go_wp2_with fail
 go_loopw [3,4] (fun lv i wr=>∃ k:Nat,i=.int .i64 k/\k<=n/\Ls wr (fun g=>w.heap.size<=g) lv (a0Z (A.take k))/\Below w.heap.size w wr) (fun _ i _=>n-(intOf i).toNat)
 case atStart=>exact⟨0,rfl,by omega,.inl ⟨rfl,by simp[a0Z]⟩,ZD _ _⟩
 case round=>
  obtain⟨k,rfl,k1,k3,k4⟩:=hrel
  obtain⟨R,hR⟩:∃ R,R=a0Z (A.take k):=⟨_,rfl⟩
  rw[<-hR] at k3
  have HK:=hid k3
  have HB:=hid k4
  have hRl:R.length<=n:=by rw[hR];simp[a0Z];omega
  have HR:=hid hR
  obtain⟨ao,co,hlv⟩:=k3.shape
  subst hlv
  clear k3 k4 hR
  by_cases hkn:k=n
  ·subst hkn
   go_wp2_with fail
   go_ret
   refine⟨_,rfl,?_,HB.out⟩
   have e:a0Z A=R:=by rw[HR.out,List.take_of_length_le (by have:=HN.out;omega)]
   rw[e]
   exact HK.out
  ·have hkl:k<n:=by omega
   have hkl':(k:Int)<(n:Int):=by omega
   obtain⟨x,hx⟩:∃ x,A[k]? = some x:=⟨_,List.getElem?_eq_getElem (by have:=HN.out;omega)⟩
   rcases HV.out with h0 | ⟨gl,off,rfl,hgl,hcell⟩
   ·rw[h0] at hx;simp at hx
   obtain⟨o0,o1⟩:=hcell k x hx
   have q1:=(HB.out.cell (p:=⟨gl,off+k*2+1,none⟩) hgl).trans o1
   have hglr:=ZA hgl HB.out.size
   have HX:=hid hx
   clear hcell o0 o1 hkn hx
   go_wp2_with (at_builtin;refine a4L wr _ rfl _ _ rfl (fun g=>w.heap.size<=g) (.slice ao R.length co) R x.2 rfl rfl HK.out (by omega) rfl ?_;intro b2 c2 w2 hgr;obtain⟨hls2,hbw2⟩:=hgr.base8 HB.out.size;have HL2:=hid hls2;have HB2:=hid hbw2;clear hgr hls2 hbw2)
   go_roundw
   case rel=>exact⟨k+1,by simp,by omega,by rw[b2L HX.out,<-HR.out];simpa using HL2.out,HB.out.trans HB2.out⟩
   case measure=>simp[intOf];omega
theorem b7s (w:World):a7T w false (.slice none 0 0) [] 0:=⟨b3S w,by simp[Dgs],by simp[b2w],by decide⟩
theorem a7T.set8 {w:World}{neg:Bool}{s:Value}{l:List Int}{n:Int}(h:a7T w neg s l n){p:Addr}(u:Value)(hp:∀ x,w.cell? p≠some (.int .i64 x)):a7T (w.setCell p u) neg s l n:=⟨h.isD.setCell u hp,h.dg,h.tr,h.num⟩
set_option maxRecDepth 20000 in
set_option maxHeartbeats 1000000 in
theorem c1C (v:Value)(V:List Int)(w:World)(hv:Rd w v V)(hin:∀ x,x∈V->a1n x)(hl:V.length<=4096):
 Calls Tryz.prog 103 #[v] w (a5c w V.sum):=by
 obtain⟨a,c,rfl,hv⟩:=hv
 obtain⟨n,hn⟩:∃ n,n=V.length:=⟨_,rfl⟩
 rw[<-hn] at hl ⊢
 have HV:=hid hv
 have HN:=hid hn
 have HI:=hid hin
 clear hv hn hin
 obtain⟨b1,b2,bB⟩:=a0n w 164 164 [.bool false,.slice none 0 0] [.bool false,.slice none 0 0]
 obtain⟨W,hW⟩:∃ W,W=(w.alloc (.cells #[.bool false,.slice none 0 0] 164)).alloc (.cells #[.bool false,.slice none 0 0] 164):=⟨_,rfl⟩
 rw[<-hW] at b1 b2 bB
 have H1:=hid b1
 have H2:=hid b2
 have HBB:=hid bB
 clear b1 b2 bB
 go_enter Tryz.func103,Tryz.ntmps103
 go_upto_region 2 with fail
 rw[<-hW]
 clear hW
 go_wp2_with fail
 go_loopw [4] (fun i wr=>∃ (k:Nat) (neg:Bool) (sv:Value) (l:List Int),i=.int .i64 k/\k<=n/\Box wr w.heap.size [.bool false,.slice none 0 0]/\Box wr (w.heap.size+1) [.bool neg,sv]/\a7T wr neg sv l (V.take k).sum/\Below w.heap.size w wr) (fun i _=>n-(intOf i).toNat)
 case atStart=>exact⟨0,false,.slice none 0 0,[],rfl,by omega,H1.out,H2.out,by simpa using b7s W,HBB.out⟩
 case round=>
  obtain⟨k,neg,sv,l,rfl,k1,x1,x2,x3,x4⟩:=hrel
  obtain⟨aa,ca,hsv,-⟩:=x3.isD
  obtain⟨p0,p1,p2,p3⟩:=x1.two
  obtain⟨y0,y1,y2,y3⟩:=x2.two
  have l1:=x1.lt
  have l2:=x2.lt
  have HX1:=hid x1
  have HX2:=hid x2
  have HX3:=hid x3
  have HX4:=hid x4
  by_cases hkn:k=n
  ·subst hkn
   have o:=((x1.set 0 (by simp) (.bool neg)).set 1 (by simp) sv).two
   have o0:=o.1
   have o1:=o.2.1
   have f1:∀ u,(wr.setCell ⟨w.heap.size,0,none⟩ u).frozen? ⟨w.heap.size,1,none⟩=false:=fun u=>(World.frozen?_setCell _ _ _ _).trans p3
   subst hsv
   clear x1 x2 x3 x4 o
   go_wp2_with fail
   refine bodyPost_ret (v:=.agg #[.bool neg,.slice aa l.length ca]) (by simp[results,Tryz.results103,go_sem,o0,o1]) rfl ⟨neg,_,l,rfl,?_,?_⟩
   ·have h:=HX3.out
    rw[List.take_of_length_le (by have:=HN.out;omega)] at h
    have m1:(wr.setCell ⟨w.heap.size,0,none⟩ (.bool neg)).cell? ⟨w.heap.size,1,none⟩=some (.slice none 0 0):=((HX1.out.set 0 (by simp) (.bool neg)).cell 1 _ rfl)
    exact(h.set8 _ (fun x e=>by rw[p0] at e;cases e)).set8 _ (fun x e=>by rw[m1] at e;cases e)
   ·exact(HX4.out.setCell (ZB _) _).setCell (ZB _) _
  ·have hkl:k<n:=by omega
   have hkl':(k:Int)<(n:Int):=by omega
   obtain⟨x,hx⟩:∃ x,V[k]? = some x:=⟨_,List.getElem?_eq_getElem (by have:=HN.out;omega)⟩
   rcases HV.out with h0 | ⟨gl,off,rfl,hgl,hcell⟩
   ·rw[h0] at hx;simp at hx
   have q0:=(x4.cell (p:=⟨gl,off+k,none⟩) hgl).trans (hcell k x hx)
   have hglr:=ZA hgl x4.size
   have hxin:=HI.out x (List.mem_of_getElem? hx)
   have hsum:(V.take (k+1)).sum=(V.take k).sum+x:=by rw[List.take_add_one,hx];simp
   have hbd:=a2b (V:=V.take k) (fun y hy=>HI.out y (List.mem_of_mem_take hy))
   have hll:(V.take k).length<=4096:=by simp;omega
   have hlen:l.length<=500:=by have:=x3.len8 (by omega) (by omega);omega
   have HS:=hid hsum
   generalize (V.take k).sum=T at *
   have HX:=hid hx
   clear hcell hkn hx x1 x2 x3 x4 hbd hll hsum p0 p1 p2 p3
   subst hsv
   go_wp2_with fail
   go_region_with (first|(go_at_call 192;refine ZE (c2a x hxin.1 hxin.2 _) ?_;rintro e w1 ⟨n1,s1,l1',rfl,v1,hb1⟩;have k0:=(hb1.cell (p:=⟨w.heap.size+1,0,none⟩) l2).trans y0;have k1':=(hb1.cell (p:=⟨w.heap.size+1,1,none⟩) l2).trans y1;have k2:=(hb1.frozen (p:=⟨w.heap.size+1,0,none⟩) l2).trans y2;have k3:=(hb1.frozen (p:=⟨w.heap.size+1,1,none⟩) l2).trans y3;have k4:=ZA l2 hb1.size;have V1:=hid v1;have B1:=hid hb1;obtain⟨a1,c1,hs1,-⟩:=v1.isD;subst hs1;clear v1 hb1)|(go_at_call 191;refine ZE (b7C neg n1 _ _ l l1' T x _ (HX3.out.later (by exact((a0Y wr 1).trans B1.out))) V1.out hlen (by have:=V1.out.len8 (by have:=hxin.1;omega) (by have:=hxin.2;omega);omega)) ?_;rintro e w2 ⟨n2,s2,l2',rfl,v2,hb2⟩;have j0:=(hb2.cell (p:=⟨w.heap.size+1,0,none⟩) k4).trans k0;have j1:=(hb2.cell (p:=⟨w.heap.size+1,1,none⟩) k4).trans k1';have j2:=(hb2.frozen (p:=⟨w.heap.size+1,0,none⟩) k4).trans k2;have j3:∀ u,(w2.setCell ⟨w.heap.size+1,0,none⟩ u).frozen? ⟨w.heap.size+1,1,none⟩=false:=(fun u=>(World.frozen?_setCell _ _ _ _).trans ((hb2.frozen (p:=⟨w.heap.size+1,1,none⟩) k4).trans k3));have V2:=hid v2;have B2:=hid hb2;obtain⟨a2,c2,hs2,-⟩:=v2.isD;subst hs2;clear v2 hb2))
   all_goals go_wp2_with fail
   all_goals (
    have bb:Below wr.heap.size wr w2:=((a0Y wr 1).trans B1.out).trans (B2.out.mono (ZC (ZB _) B1.out.size))
    have g1:=HX1.out.next bb
    have g2:=HX2.out.next bb
    have m1:(w2.setCell ⟨w.heap.size+1,0,none⟩ (.bool n2)).cell? ⟨w.heap.size+1,1,none⟩=some (.slice aa l.length ca):=(g2.set 0 (by simp) (.bool n2)).cell 1 _ rfl
    refine⟨⟨k+1,n2,_,l2',by simp,by omega,(g1.other (by omega)).other (by omega),by simpa using (g2.set 0 (by simp) (.bool n2)).set 1 (by simp) (.slice a2 l2'.length c2),?_,((HX4.out.trans (bb.mono HX4.out.size)).setCell (by simp) _).setCell (by simp) _⟩,by simp[intOf];omega⟩
    rw[HS.out]
    exact(V2.out.set8 _ (fun x e=>by rw[j0] at e;cases e)).set8 _ (fun x e=>by rw[m1] at e;cases e))
theorem a7j {Z:List Int}{k:Nat}{x v:Int}(hx:Z[k]? = some x):low v (Z.take (k+1))=low v (Z.take k)+(if x<v then 1 else 0):=by
 rw[List.take_add_one,hx]
 unfold low
 rw[List.countP_append]
 by_cases h:x<v<;>simp[h]
theorem a7E {Z:List Int}{k:Nat}{x v:Int}(hx:Z[k]? = some x):eqs v (Z.take (k+1))=eqs v (Z.take k)+(if x=v then 1 else 0):=by
 rw[List.take_add_one,hx]
 unfold eqs
 rw[List.countP_append]
 by_cases h:x=v<;>simp[h]
def b1i (L:List Int)(y:Int)(k:Nat):Prop:=∀ t x,t<k->L[t]? = some x->x≠y
theorem a5K {L:List Int}{y x:Int}{k:Nat}(h:b1i L y k)(hx:L[k]? = some x)(hn:x≠y):b1i L y (k+1):=by
 intro t z ht hz
 by_cases e:t=k
 ·subst e;rw[hx] at hz;cases hz;exact hn
 ·exact h t z (by omega) hz
theorem b2v {L:List Int}{y:Int}(h:b1i L y L.length):y∉L:=by
 intro hm
 obtain⟨t,ht⟩:=List.getElem?_of_mem hm
 exact h t y (List.getElem?_eq_some_iff.1 ht).1 ht rfl
set_option maxRecDepth 20000 in
set_option maxHeartbeats 2000000 in
theorem b9Z (v:Value)(L:List Int)(i:Nat)(y:Int)(w:World)(hv:Rd w v L)(hy:(a4D L)[i]? = some y)(hl:L.length<4611686018427387904):
 Calls Tryz.prog 194 #[v,.int .i64 (i:Nat)] w fun e w'=>e=.returned (.tuple #[.int .i64 y,.bool true])/\∃ m,w'=w.drewN m:=by
 have hi:i<L.length:=by have:=(List.getElem?_eq_some_iff.1 hy).1;rwa [a1z] at this
 obtain⟨a,c,rfl,e | ⟨g,off,rfl,hg,hcell⟩⟩:=hv
 ·rw[e] at hi;simp at hi
 obtain⟨n,hn⟩:∃ n,n=L.length:=⟨_,rfl⟩
 rw[<-hn] at hl hi ⊢
 have HY:=hid hy
 have HN:=hid hn
 have HC:=hid hcell
 clear hy hn hcell
 have hi0:¬(i:Int)<0:=by omega
 have hi1:¬(n:Int)<=(i:Int):=by omega
 go_enter Tryz.func194,Tryz.ntmps194
 go_wp2_with fail
 go_loopw [6] (fun p wr=>∃ k m:Nat,p=.int .i64 (k:Nat)/\k<=n/\b1i L y k/\wr=w.drewN m) (fun p _=>n-(intOf p).toNat)
 case atStart=>exact⟨0,0,rfl,by omega,fun t x ht=>absurd ht (Nat.not_lt_zero _),rfl⟩
 case round=>
  obtain⟨k,m,rfl,hk,hbf,rfl⟩:=hrel
  have HBF:=hid hbf
  clear hbf
  by_cases hlt:k<n
  ·obtain⟨x,hx⟩:∃ x,L[k]? = some x:=⟨_,List.getElem?_eq_getElem (by have:=HN.out;omega)⟩
   have dk:=HC.out k x hx
   have hlt':(k:Int)<(n:Int):=by omega
   have HX:=hid hx
   clear hx
   go_wp2_with fail
   go_loopw [7,8,9] (fun p7 p8 p9 wr=>∃ j m:Nat,p7=.int .i64 (low x (L.take j):Nat)/\p8=.int .i64 (eqs x (L.take j):Nat)/\p9=.int .i64 (j:Nat)/\j<=n/\wr=w.drewN m) (fun _ _ p _=>n-(intOf p).toNat)
   case atStart=>exact⟨0,m,rfl,rfl,rfl,by omega,rfl⟩
   case round=>
    obtain⟨j,m2,rfl,rfl,rfl,hj,rfl⟩:=hrel
    have hlo:low x (L.take j)<=j:=by have:=List.countP_le_length (p:=fun z=>decide (z<x)) (l:=L.take j);unfold low;simp only[List.length_take] at this;omega
    have heq:eqs x (L.take j)<=j:=by have:=List.countP_le_length (p:=fun z=>decide (z=x)) (l:=L.take j);unfold eqs;simp only[List.length_take] at this;omega
    obtain⟨lo,elo⟩:∃ lo,lo=low x (L.take j):=⟨_,rfl⟩
    obtain⟨eq,eeq⟩:∃ eq,eq=eqs x (L.take j):=⟨_,rfl⟩
    rw[<-elo] at hlo ⊢
    rw[<-eeq] at heq ⊢
    have HLO:=hid elo
    have HEQ:=hid eeq
    clear elo eeq
    by_cases hjn:j<n
    ·obtain⟨z,hz⟩:∃ z,L[j]? = some z:=⟨_,List.getElem?_eq_getElem (by have:=HN.out;omega)⟩
     have dj:=HC.out j z hz
     have hjn':(j:Int)<(n:Int):=by omega
     have HZ:=hid hz
     clear hz
     by_cases h1:z<x
     ·have h2:¬ z=x:=by omega
      have h2':(z==x)=false:=by simpa using h2
      go_wp2_with fail
      go_quiet (fail)
      go_wp2_with fail
      go_quiet (fail)
      go_wp2_with fail
      exact⟨⟨j+1,_,by rw[a7j HZ.out,if_pos h1,<-HLO.out];simp,by rw[a7E HZ.out,if_neg h2,<-HEQ.out];simp,by simp,by omega,rfl⟩,by simp[intOf];omega⟩
     ·by_cases h2:z=x
      ·subst h2
       go_wp2_with fail
       go_quiet (fail)
       go_wp2_with fail
       go_quiet (fail)
       go_wp2_with fail
       exact⟨⟨j+1,_,by rw[a7j HZ.out,if_neg (Int.not_lt.2 h1),<-HLO.out];simp,by rw[a7E HZ.out,if_pos rfl,<-HEQ.out];simp,by simp,by omega,rfl⟩,by simp[intOf];omega⟩
      ·have h2':(z==x)=false:=by simpa using h2
       go_wp2_with fail
       go_quiet (fail)
       go_wp2_with fail
       go_quiet (fail)
       go_wp2_with fail
       exact⟨⟨j+1,_,by rw[a7j HZ.out,if_neg (Int.not_lt.2 h1),<-HLO.out];simp,by rw[a7E HZ.out,if_neg h2,<-HEQ.out];simp,by simp,by omega,rfl⟩,by simp[intOf];omega⟩
    ·obtain rfl:j=n:=by omega
     have hL:L.take j=L:=List.take_of_length_le (by have:=HN.out;omega)
     have hiff:=c1T HY.out x
     have elo:=HLO.out
     have eeq:=HEQ.out
     rw[hL] at elo eeq
     rw[<-elo,<-eeq] at hiff
     clear elo eeq hL
     by_cases hxy:x=y
     ·subst hxy
      have h3:=hiff.2 rfl
      have h4:(lo:Int)<=(i:Int):=by omega
      have h5:(i:Int)<(lo:Int)+(eq:Int):=by omega
      clear hiff h3
      go_wp2_with fail
      go_ret2
      exact⟨rfl,_,rfl⟩
     ·have h3:¬(lo<=i/\i<lo+eq):=fun h=>hxy (hiff.1 h)
      have HXY:=hid hxy
      clear hiff hxy
      by_cases h4:lo<=i
      ·have h4':(lo:Int)<=(i:Int):=by omega
       have h5:¬(i:Int)<(lo:Int)+(eq:Int):=by omega
       clear h3 h4
       go_wp2_with fail
       exact⟨⟨k+1,m2,by simp,by omega,a5K HBF.out HX.out HXY.out,rfl⟩,by simp[intOf];omega⟩
      ·have h4':¬(lo:Int)<=(i:Int):=by omega
       clear h3 h4
       go_wp2_with fail
       exact⟨⟨k+1,m2,by simp,by omega,a5K HBF.out HX.out HXY.out,rfl⟩,by simp[intOf];omega⟩
  ·obtain rfl:k=n:=by omega
   exact absurd ((a1Y L).mem_iff.1 (List.mem_of_getElem? HY.out)) (b2v (HN.out ▸ HBF.out))
set_option maxRecDepth 20000 in
set_option maxHeartbeats 2000000 in
theorem b9Y (v:Value)(L:List Int)(p:Int)(y:Int)(w:World)(hv:Rd w v L)(h1:1<=p)(h2:p<=100000000)(hl:L.length<2147483648)(hy:(a4D L)[a1u p L.length-1]? = some y):
 Calls Tryz.prog 106 #[v,.int .i64 p] w fun e w'=>e=.returned (.tuple #[.int .i64 y,.bool true])/\∃ m,w'=w.drewN m:=by
 have hk:a1u p L.length-1<L.length:=by have:=(List.getElem?_eq_some_iff.1 hy).1;rwa [a1z] at this
 have HA:=hid (b9Z v L _ y w hv hy (by omega))
 obtain⟨a,c,rfl,-⟩:=hv
 obtain⟨n1,n2,n3⟩:=a1N h1 h2 (show 0<L.length by omega)
 have h4:p*(L.length:Int)<=100000000*(L.length:Int):=Int.mul_le_mul_of_nonneg_right h2 (by omega)
 have h3:(L.length:Int)<=p*(L.length:Int):=by
  have:=Int.mul_le_mul_of_nonneg_right h1 (show (0:Int)<=(L.length:Int) by omega)
  omega
 obtain⟨n,hn⟩:∃ n,n=L.length:=⟨_,rfl⟩
 rw[<-hn] at HA hk n1 n2 n3 h3 h4 hl ⊢
 obtain⟨t,ht⟩:∃ t,t=a1u p n:=⟨_,rfl⟩
 rw[<-ht] at HA hk n1 n2 n3
 have hb:((n:Int)==0)=false:=by simp;omega
 have h5:¬ p<1:=by omega
 have h6:¬ 100000000<p:=by omega
 have hpn:0<=p*(n:Int):=by omega
 have hpm:p*(n:Int)<214748364800000000:=by omega
 have HN:=hid n3
 clear hn ht hy n3
 go_enter Tryz.func106,Tryz.ntmps106
 go_wp2_with fail
 go_loopw [6] (fun q wr=>∃ k:Nat,q=.int .i64 (k:Nat)/\k<=t/\wr=w) (fun q _=>t-(intOf q).toNat)
 case atStart=>exact⟨0,rfl,by omega,rfl⟩
 case round=>
  obtain⟨k,rfl,hkt,rfl⟩:=hrel
  by_cases hlt:k<t
  ·have h7:(k:Int)*100000000<p*(n:Int):=by have:=HN.out;omega
   go_wp2_with fail
   go_roundw
   case rel=>exact⟨k+1,by simp,by omega,by trivial⟩
   case measure=>simp[intOf];omega
  ·obtain rfl:k=t:=by omega
   have h7:¬(k:Int)*100000000<p*(n:Int):=by have:=HN.out;omega
   rw[show ((k-1:Nat):Int)=(k:Int)-1 by omega] at HA
   go_wp2_with fail
   refine ZE HA.out ?_
   rintro e w1 ⟨rfl,m1,rfl⟩
   go_wp2_with fail
   go_ret2
   exact⟨rfl,_,rfl⟩
theorem b4a {s t:Int}{A:List Pr}(h:∀ x,x∈A->x.1<=t/\a1n x.1/\a1n x.2):∀ x,x∈a0Z (a3A s t A)->a1n x:=by
 intro x hx
 obtain⟨y,hy,rfl⟩:=List.mem_map.1 hx
 exact(h y (List.mem_of_mem_drop (List.mem_filter.1 hy).1)).2.2
theorem b2c (s t:Int)(A:List Pr):(a0Z (a3A s t A)).length<=4096:=by
 have:(a3A s t A).length<=(A.drop (A.length-4096)).length:=List.length_filter_le _ _
 simp[a0Z] at this ⊢
 omega
set_option maxRecDepth 20000 in
set_option maxHeartbeats 4000000 in
theorem c3E (m a s p:Int)(v:Value)(A:List Pr)(t:Int)(w:World)(hv:RdP w v A)(hl:A.length<8796093022208)(hA:∀ x,x∈A->x.1<=t/\a1n x.1/\a1n x.2)(ht:a1n t)(hr:a6F m a s p):
 Calls Tryz.prog 59 #[tv m a s p,v,.int .i64 t] w fun e w'=>e=.returned (rv (a0A a p (a0Z (a3A s t A))))/\Below w.heap.size w w':=by
 obtain⟨-,a1,a2,s1,s2,hp,-⟩:=hr
 have hin:=b4a (s:=s) hA
 have hlen:=b2c s t A
 obtain⟨b1,b2,bB⟩:=a0n w 63 84 [.int .i64 m,.int .i64 a,.int .i64 s,.int .i64 p] [.int .i64 0,.int .i64 0]
 obtain⟨W,hW⟩:∃ W,W=(w.alloc (.cells #[.int .i64 m,.int .i64 a,.int .i64 s,.int .i64 p] 63)).alloc (.cells #[.int .i64 0,.int .i64 0] 84):=⟨_,rfl⟩
 rw[<-hW] at b1 b2 bB
 have HHd:=hid (c3F v A t s W (hv.next bB) hl (fun x hx=>⟨(hA x hx).1,(hA x hx).2.1⟩) ht s1 s2)
 obtain⟨av,cv,hvv,-⟩:=hv
 subst hvv
 have HB1:=hid b1
 have HB2:=hid b2
 have HBB:=hid bB
 have c2:=b1.cell 2 _ rfl
 have lw:=b1.lt
 generalize hH:a3A s t A=Hd at *
 obtain⟨V,hVe⟩:∃ V,V=a0Z Hd:=⟨_,rfl⟩
 rw[<-hVe] at hin hlen ⊢
 have HVE:=hid hVe
 have hHl:Hd.length<8796093022208:=by rw[hVe] at hlen;simp[a0Z] at hlen;omega
 clear b1 b2 bB hA hH hl hVe
 simp only[tv]
 generalize hx:a0A a p V=x
 have HX:=hid hx
 clear hx
 go_enter Tryz.func59,Tryz.ntmps59
 go_upto_region 1 with fail
 rw[<-hW]
 clear hW
 go_wp2_with fail
 refine ZE HHd.out ?_
 rintro e w1 ⟨lv,rfl,hpl,hb1⟩
 obtain⟨al,cl,hlv⟩:=hpl.shape
 subst hlv
 have HPL:=hid hpl.rd
 have H1:=hid hb1
 clear hpl hb1
 go_wp2_with fail
 refine ZE (b9X _ Hd w1 HPL.out hHl) ?_
 rw[<-HVE.out]
 rintro e w2 ⟨lv,rfl,hls,hb2⟩
 obtain⟨a2',c2',hlv⟩:=hls.shape
 subst hlv
 have HLS:=hid hls.rd8
 have H2:=hid hb2
 clear hls hb2
 go_wp2_with fail
 refine ZE (c1C _ V w2 HLS.out hin hlen) ?_
 rintro e w3 ⟨neg,sv,l,rfl,hV3,hb3⟩
 obtain⟨sa,cs',hsv,-⟩:=hV3.isD
 subst hsv
 have hbd:=a2b hin
 have hl8:l.length<=400:=hV3.len8 (by omega) (by omega)
 have hb4:Below w3.heap.size w3 (w3.alloc (.cells #[.bool neg,.slice sa l.length cs'] 164)):=(ZD _ _).alloc (ZB _) _
 have hN4:=Box.new w3 [.bool neg,.slice sa l.length cs'] 164
 obtain⟨w4,hw4⟩:∃ w4,w4=w3.alloc (.cells #[.bool neg,.slice sa l.length cs'] 164):=⟨_,rfl⟩
 rw[<-hw4] at hb4 hN4
 have hBall:Below W.heap.size W w4:=((H1.out.trans (H2.out.mono H1.out.size)).trans (hb3.mono (ZC H1.out.size H2.out.size))).trans (hb4.mono (ZC (ZC H1.out.size H2.out.size) hb3.size))
 have hV4:=hV3.later hb4
 have hLS4:=(HLS.out.next hb3).next hb4
 have hR4:=HB2.out.next hBall
 have hT4:=HB1.out.next hBall
 have HB4:=hid (HBB.out.trans (hBall.mono HBB.out.size))
 have HV4:=hid hV4
 have HL4:=hid hLS4
 have HR4:=hid hR4
 clear c2 lw
 have e1:=hT4.cell 1 _ rfl
 have e3:=hT4.cell 3 _ rfl
 have lw:=hT4.lt
 have g0:=hN4.cell 0 _ rfl
 have g1:=hN4.cell 1 _ rfl
 have gl:=hN4.lt
 clear hb3 hb4 hN4 hBall hV3 hV4 hLS4 hR4 hT4 H1 H2 HPL HLS HHd HB1 HB2 HBB
 go_upto_region 3 with fail
 rw[<-hw4]
 clear hw4
 generalize w3.heap.size=g at *
 have hwl:IntKind.i64.wrap ((V.length:Int)*1000000)=(V.length:Int)*1000000:=by rw[IntKind.wrap_i64];omega
 by_cases h1:a=1
 ·subst h1
  have hx:=HX.out
  rw[a0A,if_pos rfl] at hx
  go_wp2_with fail
  refine ZE (b0v neg _ l V.sum w4 HV4.out) ?_
  rintro e w9 ⟨y,tb,rfl,t1,t2,hb9⟩
  by_cases hf : -9223372036854775808<=V.sum/\V.sum<9223372036854775808
  ·rw[if_pos hf] at hx
   obtain rfl:tb=true:=t1.2 hf
   obtain rfl:y=V.sum:=t2 rfl
   subst hx
   clear t1 t2 hf hbd
   have hR2:=HR4.out.next hb9
   have z0:=hR2.cell 0 _ rfl
   have z1:=hR2.cell 1 _ rfl
   have z2:=hR2.free 0 (by simp)
   have z3:∀ u,(w9.setCell ⟨w.heap.size+1,0,none⟩ u).frozen? ⟨w.heap.size+1,1,none⟩=false:=fun u=>(World.frozen?_setCell _ _ _ _).trans (hR2.free 1 (by simp))
   have o:=fun u v=>((hR2.set 0 (by simp) u).set 1 (by simp) v).two
   have o0:=fun u v=>(o u v).1
   have o1:=fun u v=>(o u v).2.1
   have H2:=hid hb9
   clear hR2 o hb9
   go_wp2_with fail
   refine bodyPost_ret (v:=rv _) (by simp[results,Tryz.results59,go_sem,o0,o1,rv]) rfl ⟨rfl,?_⟩
   exact((HB4.out.trans (H2.out.mono HB4.out.size)).setCell (by simp) _).setCell (by simp) _
  ·rw[if_neg hf] at hx
   have htb:tb=false:=by
    cases tb with
    | false=>rfl
    | true=>exact absurd (t1.1 rfl) hf
   subst htb
   subst hx
   clear t1 t2 hf hbd
   have hR2:=HR4.out.next hb9
   have z0:=hR2.cell 0 _ rfl
   have z1:=hR2.cell 1 _ rfl
   have z2:=hR2.free 0 (by simp)
   have z3:∀ u,(w9.setCell ⟨w.heap.size+1,0,none⟩ u).frozen? ⟨w.heap.size+1,1,none⟩=false:=fun u=>(World.frozen?_setCell _ _ _ _).trans (hR2.free 1 (by simp))
   have o:=fun u v=>((hR2.set 0 (by simp) u).set 1 (by simp) v).two
   have o0:=fun u v=>(o u v).1
   have o1:=fun u v=>(o u v).2.1
   have H2:=hid hb9
   clear hR2 o hb9
   go_wp2_with fail
   refine bodyPost_ret (v:=rv _) (by simp[results,Tryz.results59,go_sem,o0,o1,rv]) rfl ⟨rfl,?_⟩
   exact((HB4.out.trans (H2.out.mono HB4.out.size)).setCell (by simp) _).setCell (by simp) _
 ·have h1':(a==1)=false:=by simpa using h1
  by_cases h5:a=5
  ·subst h5
   have hx:=HX.out
   rw[a0A,if_neg (by decide),if_pos rfl] at hx
   subst hx
   have hb9:=ZD w4.heap.size w4
   obtain⟨w9,hw9⟩:∃ w9,w9=w4:=⟨_,rfl⟩
   subst hw9
   clear h1 hbd
   have hR2:=HR4.out.next hb9
   have z0:=hR2.cell 0 _ rfl
   have z1:=hR2.cell 1 _ rfl
   have z2:=hR2.free 0 (by simp)
   have z3:∀ u,(w9.setCell ⟨w.heap.size+1,0,none⟩ u).frozen? ⟨w.heap.size+1,1,none⟩=false:=fun u=>(World.frozen?_setCell _ _ _ _).trans (hR2.free 1 (by simp))
   have o:=fun u v=>((hR2.set 0 (by simp) u).set 1 (by simp) v).two
   have o0:=fun u v=>(o u v).1
   have o1:=fun u v=>(o u v).2.1
   have H2:=hid hb9
   clear hR2 o hb9
   go_wp2_with fail
   refine bodyPost_ret (v:=rv _) (by simp[results,Tryz.results59,go_sem,o0,o1,rv]) rfl ⟨rfl,?_⟩
   exact((HB4.out.trans (H2.out.mono HB4.out.size)).setCell (by simp) _).setCell (by simp) _
  ·have h5':(a==5)=false:=by simpa using h5
   by_cases hv0:V=[]
   ·have hx:=HX.out
    rw[a0A,if_neg h1,if_neg h5,if_pos hv0] at hx
    subst hx
    have hn0:V.length=0:=by rw[hv0];rfl
    have hn0':((V.length:Int)==0)=true:=by simp[hn0]
    have hb9:=ZD w4.heap.size w4
    obtain⟨w9,hw9⟩:∃ w9,w9=w4:=⟨_,rfl⟩
    subst hw9
    clear h1 h5 hbd hv0
    have hR2:=HR4.out.next hb9
    have z0:=hR2.cell 0 _ rfl
    have z1:=hR2.cell 1 _ rfl
    have z2:=hR2.free 0 (by simp)
    have z3:∀ u,(w9.setCell ⟨w.heap.size+1,0,none⟩ u).frozen? ⟨w.heap.size+1,1,none⟩=false:=fun u=>(World.frozen?_setCell _ _ _ _).trans (hR2.free 1 (by simp))
    have o:=fun u v=>((hR2.set 0 (by simp) u).set 1 (by simp) v).two
    have o0:=fun u v=>(o u v).1
    have o1:=fun u v=>(o u v).2.1
    have H2:=hid hb9
    clear hR2 o hb9
    go_wp2_with fail
    refine bodyPost_ret (v:=rv _) (by simp[results,Tryz.results59,go_sem,o0,o1,rv]) rfl ⟨rfl,?_⟩
    exact((HB4.out.trans (H2.out.mono HB4.out.size)).setCell (by simp) _).setCell (by simp) _
   ·have hpos:0<V.length:=List.length_pos_iff.2 hv0
    have hn0':((V.length:Int)==0)=false:=by simp;exact hv0
    by_cases h2:a=2
    ·subst h2
     have hx:=HX.out
     rw[a0A,if_neg h1,if_neg h5,if_neg hv0,if_pos rfl] at hx
     have hm:=a9G hin hv0
     have HM:=hid hm
     have HMn:=hid (b3n neg _ l V.sum (V.length:Int) w4 HV4.out hl8 (by omega) (by omega))
     have HHX:=hid hx
     clear h1 h5 hbd hv0 hm hx
     go_wp2_with fail
     refine ZE HMn.out ?_
     rintro e w9 ⟨y,tb,rfl,t1,t2,hb9⟩
     obtain rfl:tb=true:=t1.2 HM.out
     have hx:=HHX.out
     rw[<-t2 rfl] at hx
     subst hx
     clear t1 t2 HHX
     have hR2:=HR4.out.next hb9
     have z0:=hR2.cell 0 _ rfl
     have z1:=hR2.cell 1 _ rfl
     have z2:=hR2.free 0 (by simp)
     have z3:∀ u,(w9.setCell ⟨w.heap.size+1,0,none⟩ u).frozen? ⟨w.heap.size+1,1,none⟩=false:=fun u=>(World.frozen?_setCell _ _ _ _).trans (hR2.free 1 (by simp))
     have o:=fun u v=>((hR2.set 0 (by simp) u).set 1 (by simp) v).two
     have o0:=fun u v=>(o u v).1
     have o1:=fun u v=>(o u v).2.1
     have H2:=hid hb9
     clear hR2 o hb9
     go_wp2_with fail
     refine bodyPost_ret (v:=rv _) (by simp[results,Tryz.results59,go_sem,o0,o1,rv]) rfl ⟨rfl,?_⟩
     exact((HB4.out.trans (H2.out.mono HB4.out.size)).setCell (by simp) _).setCell (by simp) _
    ·have h2':(a==2)=false:=by simpa using h2
     by_cases h6:a=6
     ·subst h6
      obtain⟨p1,p2⟩:=hp rfl
      obtain⟨n1,n2,-⟩:=a1N p1 p2 hpos
      obtain⟨y,hy⟩:∃ y,(a4D V)[a1u p V.length-1]? = some y:=⟨_,List.getElem?_eq_getElem (by rw[a1z];omega)⟩
      have hx:=HX.out
      rw[a0A,if_neg h1,if_neg h5,if_neg hv0,if_neg h2,if_neg (by decide),if_neg (by decide),hy] at hx
      subst hx
      have HBy:=hid (b9Y _ V p y w4 HL4.out p1 p2 (by omega) hy)
      clear h1 h5 hbd hv0 h2 hp p1 p2 n1 n2 hy
      go_wp2_with fail
      refine ZE HBy.out ?_
      rintro e w9 ⟨rfl,km,e9⟩
      have hb9:Below w4.heap.size w4 w9:=e9 ▸ a0Y w4 km
      clear e9
      have hR2:=HR4.out.next hb9
      have z0:=hR2.cell 0 _ rfl
      have z1:=hR2.cell 1 _ rfl
      have z2:=hR2.free 0 (by simp)
      have z3:∀ u,(w9.setCell ⟨w.heap.size+1,0,none⟩ u).frozen? ⟨w.heap.size+1,1,none⟩=false:=fun u=>(World.frozen?_setCell _ _ _ _).trans (hR2.free 1 (by simp))
      have o:=fun u v=>((hR2.set 0 (by simp) u).set 1 (by simp) v).two
      have o0:=fun u v=>(o u v).1
      have o1:=fun u v=>(o u v).2.1
      have H2:=hid hb9
      clear hR2 o hb9
      go_wp2_with fail
      refine bodyPost_ret (v:=rv _) (by simp[results,Tryz.results59,go_sem,o0,o1,rv]) rfl ⟨rfl,?_⟩
      exact((HB4.out.trans (H2.out.mono HB4.out.size)).setCell (by simp) _).setCell (by simp) _
     ·have h6':(a==6)=false:=by simpa using h6
      obtain⟨h,ha⟩:∃ h:Bool,(a=3/\h=false)\/(a=4/\h=true):=by
       by_cases h3:a=3
       ·exact⟨false,.inl ⟨h3,rfl⟩⟩
       ·exact⟨true,.inr ⟨by omega,rfl⟩⟩
      obtain⟨y,K,hy⟩:∃ y K,kept h V=y::K:=by
       cases hk:kept h V with
       | nil=>exact absurd hk (b3Q h hv0)
       | cons y K=>exact⟨y,K,rfl⟩
      have hx:=HX.out
      rw[a0A,if_neg h1,if_neg h5,if_neg hv0,if_neg h2] at hx
      have hx2:((0,y):Int×Int)=x:=by
       rw[<-hx]
       rcases ha with ⟨rfl,rfl⟩ | ⟨rfl,rfl⟩
       ·rw[if_pos rfl,hy];rfl
       ·rw[if_neg (by decide),if_pos rfl,hy];rfl
      have HBs:=hid (b4k h _ V y K w4 HL4.out hy (by omega))
      clear hx
      subst hx2
      have h4':(a==4)=h:=by rcases ha with ⟨rfl,rfl⟩ | ⟨rfl,rfl⟩<;>rfl
      clear h1 h5 hbd hv0 h2 h6 hy ha
      go_wp2_with fail
      refine ZE HBs.out ?_
      rintro e w9 ⟨rfl,e9⟩
      have hb9:Below w4.heap.size w4 w9:=e9 ▸ ZD _ _
      clear e9
      have hR2:=HR4.out.next hb9
      have z0:=hR2.cell 0 _ rfl
      have z1:=hR2.cell 1 _ rfl
      have z2:=hR2.free 0 (by simp)
      have z3:∀ u,(w9.setCell ⟨w.heap.size+1,0,none⟩ u).frozen? ⟨w.heap.size+1,1,none⟩=false:=fun u=>(World.frozen?_setCell _ _ _ _).trans (hR2.free 1 (by simp))
      have o:=fun u v=>((hR2.set 0 (by simp) u).set 1 (by simp) v).two
      have o0:=fun u v=>(o u v).1
      have o1:=fun u v=>(o u v).2.1
      have H2:=hid hb9
      clear hR2 o hb9
      go_wp2_with fail
      refine bodyPost_ret (v:=rv _) (by simp[results,Tryz.results59,go_sem,o0,o1,rv]) rfl ⟨rfl,?_⟩
      exact((HB4.out.trans (H2.out.mono HB4.out.size)).setCell (by simp) _).setCell (by simp) _
end Go.Proofs.YtbddbnjhmdbkbaaGreatDoor
