import Derived.Test.YtbddbnjhmdbkbaaGreatDoorMbM
import Derived.Test.YtbddbnjhmdbkbaaGreatDoorMhD
import Derived.Laws.CopyRow
import Derived.Laws.IdiomCopy
import Derived.Deep.RegionLaw
section
namespace Go.Proofs.YtbddbnjhmdbkbaaGreatDoor
def Asc (S:List Int):Prop:=S.Pairwise (fun a b=>a<=b)
def cnt (v:Int)(S:List Int):Nat:=S.countP (fun x=>decide (x<=v))
def ins (v:Int)(S:List Int):List Int:=S.take (cnt v S)++v::S.drop (cnt v S)
def rem (v:Int)(S:List Int):List Int:=S.take (cnt v S-1)++S.drop (cnt v S)
def a4D (L:List Int):List Int:=L.foldl (fun S v=>ins v S) []
theorem a4H (v:Int)(S:List Int):cnt v S<=S.length:=List.countP_le_length
theorem b0X (v x:Int)(S:List Int):cnt v (x::S)=cnt v S+(if x<=v then 1 else 0):=by
 unfold cnt
 rw[List.countP_cons]
 by_cases h:x<=v<;>simp[h]
theorem b7g {v:Int}{S:List Int}(h:∀ x,x∈S->v<x):cnt v S=0:=by
 unfold cnt
 rw[List.countP_eq_zero]
 intro x hx
 have:=h x hx
 simp;omega
theorem a2y {S:List Int}(h:Asc S)(v:Int):∀ (i:Nat) (x:Int),S[i]? = some x->(x<=v↔i<cnt v S):=by
 induction S with
 | nil=>intro i x hx;simp at hx
 | cons y S ih=>
   intro i x hx
   have h':Asc S:=(List.pairwise_cons.1 h).2
   have hy:=(List.pairwise_cons.1 h).1
   by_cases hyv:y<=v
   ·rw[b0X,if_pos hyv]
    cases i with
    | zero=>simp at hx;subst hx;constructor
            ·intro _;omega
            ·intro _;exact hyv
    | succ i=>simp at hx;rw[ih h' i x hx];omega
   ·rw[b0X,if_neg hyv,b7g (fun z hz=>by have:=hy z hz;omega)]
    have hyx:y<=x:=by
     cases i with
     | zero=>simp at hx;omega
     | succ i=>simp at hx;exact hy x (List.mem_of_getElem? hx)
    constructor
    ·intro hh;omega
    ·intro hh;omega
theorem c0w {S:List Int}(h:Asc S){i j:Nat}{x y:Int}(hij:i<=j)(hx:S[i]? = some x)(hy:S[j]? = some y):x<=y:=by
 have hj:=(List.getElem?_eq_some_iff.1 hy).1
 have h1:=(a2y h y j y hy).1 (Int.le_refl _)
 exact(a2y h y i x hx).2 (by omega)
theorem b0H (v:Int)(S:List Int):(ins v S).Perm (v::S):=by
 unfold ins
 refine List.perm_middle.trans ?_
 rw[List.take_append_drop]
theorem a7R {S:List Int}(h:Asc S)(v:Int):(∀ x,x∈S.take (cnt v S)->x<=v)/\(∀ x,x∈S.drop (cnt v S)->v<x):=by
 constructor
 ·intro x hx
  obtain⟨i,hi⟩:=List.getElem?_of_mem hx
  have hil:i<(S.take (cnt v S)).length:=(List.getElem?_eq_some_iff.1 hi).1
  rw[List.getElem?_take_of_lt (by simp at hil;omega)] at hi
  exact(a2y h v i x hi).2 (by simp at hil;omega)
 ·intro x hx
  obtain⟨i,hi⟩:=List.getElem?_of_mem hx
  rw[List.getElem?_drop] at hi
  have:=(a2y h v _ x hi)
  omega
theorem b9E {S:List Int}(h:Asc S)(v:Int):Asc (ins v S):=by
 obtain⟨h1,h2⟩:=a7R h v
 have hs:Asc (S.take (cnt v S)++S.drop (cnt v S)):=by rw[List.take_append_drop];exact h
 obtain⟨p1,p2,p3⟩:=List.pairwise_append.1 hs
 unfold ins Asc
 rw[List.pairwise_append]
 refine⟨p1,List.pairwise_cons.2 ⟨fun x hx=>by have:=h2 x hx;omega,p2⟩,fun a ha b hb=>?_⟩
 rcases List.mem_cons.1 hb with rfl | hb
 ·exact h1 a ha
 ·exact p3 a ha b hb
theorem a4v (v:Int)(S:List Int):(ins v S).length=S.length+1:=(b0H v S).length_eq
theorem b5I (L:List Int)(v:Int):a4D (L++[v])=ins v (a4D L):=by simp[a4D]
theorem a3D (L:List Int):Asc (a4D L):=by
 have h:∀ (L S:List Int),Asc S->Asc (L.foldl (fun S v=>ins v S) S):=fun L=>by
  induction L with
  | nil=>intro S h;exact h
  | cons x L ih=>intro S h;exact ih _ (b9E h x)
 exact h L [] List.Pairwise.nil
theorem a1Y (L:List Int):(a4D L).Perm L:=by
 have h:∀ (L S:List Int),(L.foldl (fun S v=>ins v S) S).Perm (S++L):=fun L=>by
  induction L with
  | nil=>intro S;simp
  | cons x L ih=>
    intro S
    refine(ih (ins x S)).trans ?_
    refine((b0H x S).append_right L).trans ?_
    rw[List.cons_append]
    exact List.perm_middle.symm
 have:=h L []
 rwa [List.nil_append] at this
theorem a1z (L:List Int):(a4D L).length=L.length:=(a1Y L).length_eq
theorem c0v {A B:List Int}(hA:Asc A)(hB:Asc B)(h:A.Perm B):A=B:=h.eq_of_pairwise (fun _ _ _ _ h1 h2=>Int.le_antisymm h1 h2) hA hB
theorem b0W {A B:List Int}(h:A.Perm B)(v:Int):cnt v A=cnt v B:=h.countP_eq _
theorem b3i {S:List Int}(h:Asc S){v:Int}(hv:v∈S):0<cnt v S/\S[cnt v S-1]? = some v:=by
 obtain⟨i,hi⟩:=List.getElem?_of_mem hv
 have h1:=(a2y h v i v hi).1 (Int.le_refl _)
 have hl:=a4H v S
 have hlt:cnt v S-1<S.length:=by omega
 refine⟨by omega,?_⟩
 have h2:S[cnt v S-1]? = some S[cnt v S-1]:=List.getElem?_eq_getElem hlt
 have h3:=(a2y h v _ _ h2).2 (by omega)
 have h4:=c0w h (by omega) hi h2
 rw[h2]
 congr 1
 omega
theorem b0u {S:List Int}(h:Asc S){v:Int}(hv:v∈S):(v::rem v S).Perm S:=by
 obtain⟨h1,h2⟩:=b3i h hv
 have hl:=a4H v S
 have e:S=S.take (cnt v S-1)++v::S.drop (cnt v S):=by
  have hd:=List.drop_eq_getElem_cons (l:=S) (i:=cnt v S-1) (by omega)
  have hg:S[cnt v S-1]=v:=by
   have:=List.getElem?_eq_getElem (l:=S) (i:=cnt v S-1) (by omega)
   rw[h2] at this
   exact(Option.some.inj this).symm
  rw[hg,show cnt v S-1+1=cnt v S by omega] at hd
  rw[<-hd,List.take_append_drop]
 have:=(List.perm_middle (a:=v) (l₁:=S.take (cnt v S-1)) (l₂:=S.drop (cnt v S))).symm
 rw[<-e] at this
 exact this
theorem b8V {S:List Int}(h:Asc S)(v:Int):Asc (rem v S):=by
 have hs:(rem v S).Sublist S:=by
  conv=>rhs;rw[<-List.take_append_drop (cnt v S) S]
  exact List.Sublist.append (List.take_sublist_take_left (by omega)) (List.Sublist.refl _)
 exact List.Pairwise.sublist hs h
theorem a4r {S:List Int}(h:Asc S){v:Int}(hv:v∈S):(rem v S).length+1=S.length:=by simpa using (b0u h hv).length_eq
theorem b8U {L:List Int}{v:Int}(hv:v∈L):rem v (a4D L)=a4D (L.erase v):=by
 have hv':v∈a4D L:=(a1Y L).mem_iff.2 hv
 refine c0v (b8V (a3D L) v) (a3D _) ?_
 have h1:=b0u (a3D L) hv'
 have h2:(v::rem v (a4D L)).Perm (v::a4D (L.erase v)):=h1.trans ((a1Y L).trans ((List.perm_cons_erase hv).trans ((a1Y _).symm.cons v)))
 exact(List.perm_cons v).1 h2
def low (v:Int)(S:List Int):Nat:=S.countP (fun x=>decide (x<v))
def eqs (v:Int)(S:List Int):Nat:=S.countP (fun x=>decide (x=v))
theorem c1u (v:Int)(S:List Int):low v S=cnt (v-1) S:=by
 unfold low cnt
 congr 1
 funext x
 simp only[decide_eq_decide]
 omega
theorem b9z (v:Int)(S:List Int):low v S+eqs v S=cnt v S:=by
 induction S with
 | nil=>rfl
 | cons x S ih=>
   unfold low eqs cnt at ih ⊢
   simp only[List.countP_cons]
   rcases Int.lt_trichotomy x v with h | h | h
   ·have h1:¬ x=v:=by omega
    have h2:x<=v:=by omega
    simp[h,h1,h2];omega
   ·subst h
    simp;omega
   ·have h1:¬ x=v:=by omega
    have h2:¬ x<=v:=by omega
    have h3:¬ x<v:=by omega
    simp[h1,h2,h3];omega
theorem c1T {L:List Int}{i:Nat}{x:Int}(hx:(a4D L)[i]? = some x)(y:Int):low y L<=i/\i<low y L+eqs y L↔y=x:=by
 have h1:=a2y (a3D L) (y-1) i x hx
 have h2:=a2y (a3D L) y i x hx
 rw[b9z,c1u,<-b0W (a1Y L),<-b0W (a1Y L)]
 omega
end Go.Proofs.YtbddbnjhmdbkbaaGreatDoor
end
section
namespace Go.Proofs.YtbddbnjhmdbkbaaGreatDoor
open Go.RowKit
structure BAt (w:World)(g:Nat)(lv:Value)(S J:List Int):Prop where
 val:lv=.slice (some ⟨g,0,none⟩) S.length (S.length+J.length)
 blk:Blk w g (S++J)
 most:S.length+J.length<=maxLen
theorem BAt.turn {T:List Nat}{w w':World}{g:Nat}{lv:Value}{S J:List Int}(h:BAt w g lv S J)(t:a0h T w w')(hn:g∉T):BAt w' g lv S J:=⟨h.val,h.blk.turn t hn,h.most⟩
theorem BAt.next {w w':World}{g:Nat}{lv:Value}{S J:List Int}(h:BAt w g lv S J)(t:Below w.heap.size w w'):BAt w' g lv S J:=⟨h.val,h.blk.next t,h.most⟩
theorem BAt.cell {w:World}{g:Nat}{lv:Value}{S J:List Int}(h:BAt w g lv S J){i:Nat}{x:Int}(hx:S[i]? = some x):w.cell? ⟨g,i,none⟩=some (.int .i64 x):=by
 have hi:i<S.length:=(List.getElem?_eq_some_iff.1 hx).1
 exact a3o h.blk.box (by rw[List.getElem?_append_left hi];exact hx)
theorem BAt.rd {w:World}{g:Nat}{lv:Value}{S J:List Int}(h:BAt w g lv S J):Rd w lv S:=
 ⟨_,_,h.val,.inr ⟨g,0,rfl,h.blk.lt,fun i x hx=>by rw[Nat.zero_add];exact h.cell hx⟩⟩
theorem a5y (A B:List Int):a1C (A++B)=a1C A++a1C B:=by simp[a1C]
theorem a1x (A:List Int):(a1C A).length=A.length:=by simp[a1C]
theorem b0G {A:List Int}{j:Nat}{u:Value}(h:(a1C A)[j]? = some u):∃ x,A[j]? = some x/\Value.int .i64 x=u:=by simpa[a1C] using h
theorem b0F (A:List Int):∀ u∈a1C A,u.oneCell'=true:=by
 intro u hu
 obtain⟨x,_,rfl⟩:∃ x,x∈A/\Value.int .i64 x=u:=by simpa[a1C] using hu
 rfl
theorem a5u (w:World)(a:Addr):(loadCells a 0).run Tryz.prog w=.ok #[] w:=run_loadCells_list (P:=Tryz.prog) w a [] (by simp)
theorem b1j (n:Nat):(Builtin.zeroCells (Value.int .i64 0).cells n).toList=a1C (List.replicate n 0):=by
 apply List.ext_getElem
 ·simp[Builtin.zeroCells,a1C,Value.cells]
 ·intro i h1 h2
  simp[Builtin.zeroCells,a1C,Value.cells,Nat.mod_one]
theorem a8U (w:World)(A:List Int)(n:Nat):Blk (w.drew.alloc (.cells ((a1C A).toArray++Builtin.zeroCells (Value.int .i64 0).cells n) 2)) w.heap.size (A++List.replicate n 0):=by
 show _=some (Obj.cells (a1C (A++List.replicate n 0)).toArray 2 (0,0))
 have e:=a4Y w.drew (.cells ((a1C A).toArray++Builtin.zeroCells (Value.int .i64 0).cells n) 2)
 rw[show w.drew.heap.size=w.heap.size from rfl] at e
 rw[e,a5y,<-b1j]
 simp
theorem a8V (g:Nat):∀ (A:List Int) (w:World) (l:List Int) (k:Nat),Blk w g l->k+A.length<=l.length->Blk (w.setCells g k (a1C A)) g (l.take k++A++l.drop (k+A.length))
 | [],w,l,k,h,_=>by simpa[a1C,World.setCells] using h
 | x::A,w,l,k,h,hl=>by
   have:=a8V g A (w.setCell ⟨g,k,none⟩ (.int .i64 x)) (l.set k x) (k+1) (h.put k x) (by simp at hl ⊢;omega)
   have e:(l.set k x).take (k+1)++A++(l.set k x).drop (k+1+A.length)=l.take k++(x::A)++l.drop (k+(x::A).length):=by
    simp only[List.length_cons] at hl ⊢
    have e1:(l.set k x).take (k+1)=l.take k++[x]:=by
     rw[List.take_add_one,List.getElem?_set_self (by omega),List.take_set_of_le (ZB _)]
     rfl
    have e2:(l.set k x).drop (k+1+A.length)=l.drop (k+(A.length+1)):=by
     rw[List.drop_set_of_lt (by omega)]
     congr 1
     omega
    rw[e1,e2]
    simp
   rw[e] at this
   exact this
theorem a6a (g:Nat):∀ (A:List Value) (w:World) (k:Nat),a0h [g] w (w.setCells g k A)
 | [],w,_=>a0h.refl _ w
 | x::A,w,k=>(a0h.set (S:=[g]) w ⟨g,k,none⟩ x (by simp)).trans (a6a g A _ (k+1)) (fun i hi=>.inl hi)
def Apd (w:World)(g:Nat)(lv0 lv:Value)(S:List Int)(w':World):Prop:=
 (lv=.slice none 0 0/\S=[]/\w'=w)\/(∃ J,BAt w' g lv S J/\a0h [g] w w'/\lv0≠.slice none 0 0)\/(∃ g' J,BAt w' g' lv S J/\Below w.heap.size w w'/\w.heap.size<=g')
set_option maxRecDepth 20000 in
theorem a8k (ty:TypeId)(w:World)(g:Nat)(lv:Value)(S:List Int)(h:(lv=.slice none 0 0/\S=[])\/∃ J,BAt w g lv S J)(vs:Value)(A:List Int)(hA:Rd w vs A)(hl:S.length+A.length<17592186044416):
 ∃ lv' w',(Builtin.append_ #[52,52] ty #[lv,vs]).run Tryz.prog w=.ok lv' w'/\Apd w g lv lv' (S++A) w':=by
 obtain⟨i0,hi,hz0,hz1,hz2⟩:=info_parts a7r
 have hmax:∀ n old,n<=17592186044416->grownCap w n old 2<=maxLen:=fun n old hn=>grownCap_le_maxLen w n old _ (by simp only[maxLen];omega)
 have hgb:∀ o:Obj,Below w.heap.size w (w.drew.alloc o):=fun o=>((ZD _ _).drew).alloc (ZB _) _
 obtain⟨a,c,rfl,hA⟩:=hA
 rcases hA with rfl | ⟨ga,offa,rfl,hga,hA⟩
 ·rcases h with ⟨rfl,rfl⟩ | ⟨J,h⟩
  ·refine⟨.slice none 0 0,w,?_,.inl ⟨rfl,rfl,rfl⟩⟩
   have hu:=run_underlying (P:=Tryz.prog) Tryz.underlying52
   cases a<;>simp[Builtin.append_,hu,sizeOf,typeInfo,hi,Builtin.lenOf,Builtin.firstCells,a5u]
  ·refine⟨lv,w,?_,.inr (.inl ⟨J,by rw[List.append_nil];exact h,a0h.refl _ _,by rw[h.val];intro e;cases e⟩)⟩
   have hu:=run_underlying (P:=Tryz.prog) Tryz.underlying52
   rw[h.val]
   cases a<;>simp[Builtin.append_,hu,sizeOf,typeInfo,hi,Builtin.lenOf,Builtin.firstCells,storeCells,a5u]
 ·have hA':∀ j u,(a1C A)[j]? = some u->w.cell? ((⟨ga,offa,none⟩:Addr).add j)=some u:=fun j u hu=>by
   obtain⟨x,hx,rfl⟩:∃ x,A[j]? = some x/\Value.int .i64 x=u:=b0G hu
   have:=hA j x hx
   by_cases hj:j=0
   ·subst hj;simpa[Addr.add] using this
   ·simpa[Addr.add,hj] using this
  rcases h with ⟨rfl,rfl⟩ | ⟨J,h⟩
  ·by_cases hA0:A=[]
   ·subst hA0
    refine⟨.slice none 0 0,w,?_,.inl ⟨rfl,rfl,rfl⟩⟩
    have hu:=run_underlying (P:=Tryz.prog) Tryz.underlying52
    simp[Builtin.append_,hu,sizeOf,typeInfo,hi,Builtin.lenOf,Builtin.firstCells,a5u]
   ·have hpos:=List.length_pos_iff.2 hA0
    simp only[List.length_nil,Nat.zero_add] at hl
    have hr:=run_append_nil (P:=Tryz.prog) w 52 ty 2 i0 (.int .i64 0) Tryz.underlying52 hi hz0 ⟨ga,offa,none⟩ A.length c (a1C A) (by rw[hz1,a1x,Nat.mul_one]) hA' hpos (by omega) (by rw[hz2];omega)
    have hge:=grownCap_ge w A.length 0 2
    have hm:=hmax A.length 0 (by omega)
    refine⟨_,_,hr,.inr (.inr ⟨w.heap.size,List.replicate (grownCap w A.length 0 2-A.length) 0,⟨?_,?_,?_⟩,hgb _,ZB _⟩)⟩
    ·simp only[List.nil_append,List.length_replicate]
     congr 1
     omega
    ·simpa using a8U w A _
    ·simp only[List.nil_append,List.length_replicate]
     omega
  ·have hm:=h.most
   by_cases hc:A.length<=J.length
   ·have hsp:∀ j,j<A.length->(w.cell? ⟨g,S.length+j,none⟩).isSome=true/\w.frozen? ⟨g,S.length+j,none⟩=false:=fun j hj=>by
     refine⟨?_,a7Q h.blk.box (by simp;omega)⟩
     rw[a3o h.blk.box (List.getElem?_eq_getElem (l:=S++J) (i:=S.length+j) (by simp;omega))]
     rfl
    have hr:=run_append_room_cells (P:=Tryz.prog) w 52 ty 2 i0 Tryz.underlying52 hi g 0 S.length (S.length+J.length) ⟨ga,offa,none⟩ A.length c (a1C A) (by rw[hz1,a1x,Nat.mul_one]) hA' (b0F _) (by omega) (fun j hj=>by
     rw[a1x] at hj
     rw[hz1,Nat.mul_one,Nat.zero_add];exact(hsp j hj).1) (fun j hj=>by
     rw[a1x] at hj
     rw[hz1,Nat.mul_one,Nat.zero_add];exact(hsp j hj).2)
    rw[hz1,Nat.mul_one,Nat.zero_add,<-h.val] at hr
    have hb:=a8V g A w (S++J) S.length h.blk (by simp;omega)
    have e:(S++J).take S.length++A++(S++J).drop (S.length+A.length)=S++A++J.drop A.length:=by
     rw[List.take_left,List.drop_length_add_append]
    rw[e] at hb
    refine⟨_,_,hr,.inr (.inl ⟨J.drop A.length,⟨?_,hb,?_⟩,a6a g _ w _,by rw[h.val];intro e;cases e⟩)⟩
    ·simp only[List.length_append,List.length_drop]
     congr 1
     omega
    ·simp only[List.length_append,List.length_drop]
     omega
   ·have hr:=run_append_grow (P:=Tryz.prog) w 52 ty 2 i0 (.int .i64 0) Tryz.underlying52 hi hz0 ⟨g,0,none⟩ S.length (S.length+J.length) (a1C S) (by rw[hz1,a1x,Nat.mul_one]) (fun j v hv=>by
     obtain⟨x,hx,rfl⟩:∃ x,S[j]? = some x/\Value.int .i64 x=v:=by simpa[a1C] using hv
     have:=h.cell hx
     by_cases hj:j=0
     ·subst hj;simpa[Addr.add] using this
     ·simpa[Addr.add,hj] using this) ⟨ga,offa,none⟩ A.length c (a1C A) (by rw[hz1,a1x,Nat.mul_one]) hA' (by omega) (by omega) (growslice_fits (by omega) (by rw[hz2];omega))
    rw[<-h.val] at hr
    have hge:=grownCap_ge w (S.length+A.length) (S.length+J.length) 2
    have hm2:=hmax (S.length+A.length) (S.length+J.length) (by omega)
    refine⟨_,_,hr,.inr (.inr ⟨w.heap.size,List.replicate (grownCap w (S.length+A.length) (S.length+J.length) 2-(S.length+A.length)) 0,⟨?_,?_,?_⟩,hgb _,ZB _⟩)⟩
    ·simp only[List.length_append,List.length_replicate]
     congr 1
     omega
    ·have:=a8U w (S++A) (grownCap w (S.length+A.length) (S.length+J.length) 2-(S.length+A.length))
     rw[a5y] at this
     simpa using this
    ·simp only[List.length_append,List.length_replicate]
     omega
theorem Apd.shape {w w':World}{g:Nat}{lv0 lv:Value}{S:List Int}(h:Apd w g lv0 lv S w'):∃ a c,lv=.slice a S.length c:=by
 rcases h with ⟨rfl,rfl,_⟩ | ⟨J,h,_⟩ | ⟨g',J,h,_⟩
 ·exact⟨none,0,rfl⟩
 ·exact⟨_,_,h.val⟩
 ·exact⟨_,_,h.val⟩
theorem a2U (w:World){ops:Array Oper}{rest:List Oper}{o:Oper}{a:Act}{Q:Exit->Act->World->Prop}(hgd:o.guard=none)(s x:Operand)
 (hop:o.op=Op.call {callee:=Callee.builtin Builtin.append,args:=#[s,x],argTypes:=#[52,52]}) (g:Nat) (lv:Value) (S:List Int) (hs:a.eval s=lv) (h:(lv=.slice none 0 0/\S=[])\/∃ J,BAt w g lv S J)
 (vs:Value) (A:List Int) (hx:a.eval x=vs) (hA:Rd w vs A) (hl:S.length+A.length<17592186044416)
 (hK:∀ lv' w',Apd w g lv lv' (S++A) w'->wpList Tryz.prog ops Q rest (a.put o.dst lv') w') :
 wpList Tryz.prog ops Q (o::rest) a w:=by
 refine wpList_plain hgd fun K hK'=>?_
 obtain⟨lv',w',hrun,r⟩:=a8k o.type w g lv S h vs A hA hl
 unfold Oper.wp
 simp[execOp,hop,resolve,invoke,builtin,hs,hx,hrun,Result.andThen]
 exact hK' _ _ (hK lv' w' r)
def mv (l:List Int)(off so n:Nat):List Int:=l.take off++((l.drop so).take n++l.drop (off+n))
theorem b9r (l:List Int)(off so:Nat):mv l off so 0=l:=by simp[mv]
theorem b5C (w:World)(g:Nat)(cs:Array Value):a0h [g] w (w.setRow g cs):=
 ⟨rfl,rfl,rfl,by simp[World.setRow],fun k _ hn=>setRow_other w g k cs (by simpa using hn)⟩
theorem b1t (ty:TypeId)(w:World)(g:Nat)(l:List Int)(h:Blk w g l)(dp sp:Option Addr)(dLen dCap sLen sCap off so n:Nat)(hn:n=Nat.min sLen dLen)(hpos:0<n->dp=some ⟨g,off,none⟩/\sp=some ⟨g,so,none⟩)(hoff:off+n<=l.length)(hso:so+n<=l.length):
 ∃ w',(Builtin.copy_ #[52,52] ty #[.slice dp dLen dCap,.slice sp sLen sCap]).run Tryz.prog w=.ok (goInt n) w'/\Blk w' g (mv l off so n)/\a0h [g] w w':=by
 obtain⟨i0,hi,hz0,hz1,hz2⟩:=info_parts a7r
 have hsz:(Tryz.prog.info? 2).map (·.size)=some 1:=by rw[hi];simp[hz1]
 by_cases h0:n=0
 ·subst h0
  have hr:=run_copy_none (P:=Tryz.prog) w 52 52 ty 2 dp sp dLen dCap sLen sCap Tryz.underlying52 hsz hn.symm
  exact⟨w,hr,by rw[b9r];exact h,a0h.refl _ _⟩
 ·obtain⟨rfl,rfl⟩:=hpos (by omega)
  have hlen:(a1C ((l.drop so).take n)).length=n:=by rw[a1x];simp;omega
  have hr:=run_copy_row (P:=Tryz.prog) w 52 52 ty 2 g off dLen dCap ⟨g,so,none⟩ sLen sCap (a1C l).toArray 2 (a1C ((l.drop so).take n)) Tryz.underlying52 hsz h (by rw[hlen,hn]) (fun j v hv=>by
   obtain⟨x,hx,rfl⟩:∃ x,((l.drop so).take n)[j]? = some x/\Value.int .i64 x=v:=b0G hv
   have hj:j<((l.drop so).take n).length:=(List.getElem?_eq_some_iff.1 hx).1
   rw[List.getElem?_take_of_lt (by simp at hj;omega),List.getElem?_drop] at hx
   have:=a3o h.box hx
   by_cases hj:j=0
   ·subst hj;simpa[Addr.add] using this
   ·simpa[Addr.add,hj] using this) (by rw[hlen];simp[a1C];omega) (b0F _)
  rw[hlen] at hr
  refine⟨_,hr,?_,b5C w g _⟩
  have e:=setRow_heap w g _ ((a1C l).toArray.toList.take off++a1C ((l.drop so).take n)++(a1C l).toArray.toList.drop (off+n)).toArray 2 _ h
  unfold Blk
  rw[e,mv]
  simp[a1C,List.map_take,List.map_drop]
theorem a2g {ops:Array Oper}{o:Oper}{a:Act}{w:World}{K:Act->World->Prop}{Q:Exit->Act->World->Prop}{E:Prop}(hgd:o.guard=none)(d s:Operand)
 (ho:o.op=.call {callee:=.builtin .copy,args:=#[d,s],argTypes:=#[52,52]}) (dp sp:Option Addr) (dLen dCap sLen sCap:Nat) (hd:a.eval d=.slice dp dLen dCap) (hs:a.eval s=.slice sp sLen sCap)
 (g:Nat) (l:List Int) (h:Blk w g l) (off so n:Nat) (hn:n=Nat.min sLen dLen) (hpos:0<n->dp=some ⟨g,off,none⟩/\sp=some ⟨g,so,none⟩) (hoff:off+n<=l.length) (hso:so+n<=l.length)
 (hK:∀ w',Hid (Blk w' g (mv l off so n))->a0h [g] w w'->K (a.put o.dst (goInt n)) w') :
 if Region.wanted o (yielded ops a.tmps)=true then Oper.wp Tryz.prog o a w K Q else E:=by
 have hw:Region.wanted o (yielded ops a.tmps)=true:=by simp[Region.wanted,hgd]
 rw[if_pos hw]
 obtain⟨w',hrun,h1,h2⟩:=b1t o.type w g l h dp sp dLen dCap sLen sCap off so n hn hpos hoff hso
 unfold Oper.wp
 simp[execOp,ho,resolve,invoke,builtin,hd,hs,hrun,Result.andThen]
 exact hK w' h1 h2
theorem b7X {S J:List Int}{v:Int}:(mv ((S++[v])++J) (cnt v S+1) (cnt v S) (S.length-cnt v S)).set (cnt v S) v=ins v S++J:=by
 have hc:=a4H v S
 obtain⟨c,hcc⟩:∃ c,c=cnt v S:=⟨_,rfl⟩
 unfold ins mv
 rw[<-hcc] at hc ⊢
 have e1:((S++[v]++J).drop c).take (S.length-c)=S.drop c:=by
  rw[List.append_assoc,List.drop_append_of_le_length (by omega),List.take_append_of_le_length (by simp)]
  exact List.take_of_length_le (by simp)
 have e2:(S++[v]++J).drop (c+1+(S.length-c))=J:=by
  rw[show c+1+(S.length-c)=(S++[v]).length by simp;omega]
  exact List.drop_left
 have e3:((S++[v]++J).take (c+1)).set c v=S.take c++[v]:=by
  rw[List.take_add_one,List.set_append_right _ _ (by simp;omega)]
  obtain⟨u,hg⟩:∃ u,(S++[v]++J)[c]? = some u:=⟨_,List.getElem?_eq_getElem (by simp;omega)⟩
  have ht:(S++[v]++J).take c=S.take c:=by rw[List.append_assoc,List.take_append_of_le_length hc]
  rw[hg,ht]
  simp[Nat.min_eq_left hc]
 rw[e1,e2,List.set_append_left _ _ (by simp;omega),e3]
 simp
theorem c1p {S J:List Int}{v:Int}(hc:0<cnt v S):mv (S++J) (cnt v S-1) (cnt v S) (S.length-cnt v S)=rem v S++(S++J).drop (S.length-1):=by
 have hl:=a4H v S
 obtain⟨c,hcc⟩:∃ c,c=cnt v S:=⟨_,rfl⟩
 unfold rem mv
 rw[<-hcc] at hc hl ⊢
 have e1:(S++J).take (c-1)=S.take (c-1):=List.take_append_of_le_length (by omega)
 have e2:((S++J).drop c).take (S.length-c)=S.drop c:=by
  rw[List.drop_append_of_le_length (by omega),List.take_append_of_le_length (by simp)]
  exact List.take_of_length_le (by simp)
 rw[e1,e2,List.append_assoc,show c-1+(S.length-c)=S.length-1 by omega]
structure b5r (w:World)(b g:Nat)(lv:Value)(S:List Int):Prop where
 box:Box w b [lv]
 sl:(lv=.slice none 0 0/\S=[]/\g=b)\/(g≠b/\∃ J,BAt w g lv S J)
def Rk (w:World)(b g:Nat)(S:List Int):Prop:=∃ lv,b5r w b g lv S
theorem Box.single {w:World}{g:Nat}{v0:Value}(h:Box w g [v0]):w.cell? ⟨g,0,none⟩=some v0/\w.frozen? ⟨g,0,none⟩=false:=⟨h.cell 0 _ rfl,h.free 0 (by simp)⟩
theorem b5r.shape {w:World}{b g:Nat}{lv:Value}{S:List Int}(h:b5r w b g lv S):∃ a c,lv=.slice a S.length c:=by
 rcases h.sl with ⟨rfl,rfl,_⟩ | ⟨_,J,h⟩
 ·exact⟨none,0,rfl⟩
 ·exact⟨_,_,h.val⟩
theorem b5r.rd {w:World}{b g:Nat}{lv:Value}{S:List Int}(h:b5r w b g lv S):Rd w lv S:=by
 rcases h.sl with ⟨rfl,rfl,_⟩ | ⟨_,J,h⟩
 ·exact⟨none,0,rfl,.inl rfl⟩
 ·exact h.rd
theorem Rk.turn {T:List Nat}{w w':World}{b g:Nat}{S:List Int}(h:Rk w b g S)(t:a0h T w w')(hb:b∉T)(hg:g∉T):Rk w' b g S:=by
 obtain⟨lv,h⟩:=h
 refine⟨lv,h.box.turn t hb,?_⟩
 rcases h.sl with h | ⟨hn,J,h⟩
 ·exact .inl h
 ·exact .inr ⟨hn,J,h.turn t hg⟩
theorem Rk.next {w w':World}{b g:Nat}{S:List Int}(h:Rk w b g S)(t:Below w.heap.size w w'):Rk w' b g S:=h.turn (T:=[]) (a0h.of_below t) (by simp) (by simp)
theorem Rk.lt {w:World}{b g:Nat}{S:List Int}(h:Rk w b g S):b<w.heap.size:=by obtain⟨lv,h⟩:=h;exact h.box.lt
theorem Rk.glt {w:World}{b g:Nat}{S:List Int}(h:Rk w b g S):g<w.heap.size:=by
 obtain⟨lv,h⟩:=h
 rcases h.sl with ⟨_,_,e⟩ | ⟨_,J,e⟩
 ·rw[e];exact h.box.lt
 ·exact e.blk.lt
theorem c2h (b g:Nat)(S:List Int)(w:World)(x:Rk w b g S):
 Calls Tryz.prog 278 #[.pointer (some ⟨b,0,none⟩)] w fun e w'=>e=.returned (.int .i64 (S.length:Nat))/\w=w':=by
 obtain⟨lv,x⟩:=x
 obtain⟨c0,f0⟩:=x.box.single
 have hlt:=x.box.lt
 obtain⟨a,c,hv⟩:=x.shape
 subst hv
 clear x
 go_enter Tryz.func278,Tryz.ntmps278
 go_wp2_with fail
 go_ret
 exact⟨rfl,rfl⟩
theorem b6e (w:World):Calls Tryz.prog 278 #[.pointer none] w fun e w'=>e=.returned (.int .i64 0)/\w=w':=by
 go_enter Tryz.func278,Tryz.ntmps278
 go_wp2_with fail
 go_ret
 exact⟨rfl,rfl⟩
theorem c4m (w:World):Calls Tryz.prog 182 #[] w fun e w'=>e=.returned (.pointer (some ⟨w.heap.size,0,none⟩))/\Rk w' w.heap.size w.heap.size []/\Below w.heap.size w w':=by
 go_enter Tryz.func182,Tryz.ntmps182
 go_wp2_with fail
 go_ret
 exact⟨rfl,⟨.slice none 0 0,Box.new w [.slice none 0 0] _,.inl ⟨rfl,rfl,rfl⟩⟩,(ZD _ _).alloc (ZB _) _⟩
theorem b2M (br bv b g n cap:Nat)(v x:Int)(i:Nat)(w:World)(hi:i<n)(hr:w.cell? ⟨br,0,none⟩=some (.pointer (some ⟨b,0,none⟩)))(hv:w.cell? ⟨bv,0,none⟩=some (.int .i64 v))
 (hb:w.cell? ⟨b,0,none⟩=some (.slice (some ⟨g,0,none⟩) n cap)) (hc:w.cell? ⟨g,i,none⟩=some (.int .i64 x)) :
 Calls Tryz.prog 287 #[.int .i64 (i:Nat),.pointer (some ⟨br,0,none⟩),.pointer (some ⟨bv,0,none⟩)] w fun e w'=>e=.returned (.bool (decide (v<x)))/\∃ q,w'=w.drewN q:=by
 have hi':(i:Int)<(n:Int):=by omega
 go_enter Tryz.func287,Tryz.ntmps287
 go_wp2_with fail
 go_quiet (fail)
 go_wp2_with fail
 go_ret
 exact⟨rfl,_,rfl⟩
def Cut (p:Nat->Bool)(n c:Nat):Prop:=c<=n/\(∀ t,t<c->p t=false)/\∀ t,c<=t->t<n->p t=true
def b2x (p:Nat->Bool)(n lo hi:Nat):Prop:=lo<=hi/\hi<=n/\(∀ t,t<lo->p t=false)/\∀ t,hi<=t->t<n->p t=true
theorem b3B {p:Nat->Bool}{n c lo hi m:Nat}(hc:Cut p n c)(h:b2x p n lo hi)(hm:lo<=m/\m<hi)(hp:p m=false):b2x p n (m+1) hi:=by
 obtain⟨h1,h2,h3,h4⟩:=h
 obtain⟨c1,c2,c3⟩:=hc
 have hmc:m<c:=by
  rcases Nat.lt_or_ge m c with h | h
  ·exact h
  ·have:=c3 m h (by omega);rw[hp] at this;cases this
 exact⟨by omega,h2,fun t ht=>c2 t (by omega),h4⟩
theorem b1P {p:Nat->Bool}{n c lo hi m:Nat}(hc:Cut p n c)(h:b2x p n lo hi)(hm:lo<=m/\m<hi)(hp:p m=true):b2x p n lo m:=by
 obtain⟨h1,h2,h3,h4⟩:=h
 obtain⟨c1,c2,c3⟩:=hc
 have hmc:c<=m:=by
  rcases Nat.lt_or_ge m c with h | h
  ·have:=c2 m h;rw[hp] at this;cases this
  ·exact h
 exact⟨hm.1,by omega,h3,fun t h5 h6=>c3 t (by omega) h6⟩
theorem b3C {p:Nat->Bool}{n c k:Nat}(hc:Cut p n c)(h:b2x p n k k):k=c:=by
 obtain⟨h1,h2,h3,h4⟩:=h
 obtain⟨c1,c2,c3⟩:=hc
 rcases Nat.lt_trichotomy k c with h | h | h
 ·have a:=h4 k (ZB _) (by omega);rw[c2 k h] at a;cases a
 ·exact h
 ·have a:=h3 c h;rw[c3 c (ZB _) (by omega)] at a;cases a
set_option maxRecDepth 20000 in
set_option maxHeartbeats 1000000 in
theorem b7U (cb:Array Value)(n c:Nat)(p:Nat->Bool)(w:World)(hn:n<4611686018427387904)(hc:Cut p n c)
 (hf:∀ m i,i<n->Calls Tryz.prog 287 (#[.int .i64 (i:Nat)]++cb) (w.drewN m) fun e w'=>e=.returned (.bool (p i))/\∃ q,w'=(w.drewN m).drewN q) :
 Calls Tryz.prog 286 #[.int .i64 (n:Nat),.func (.func 287) #[] cb] w fun e w'=>e=.returned (.int .i64 (c:Nat))/\∃ q,w'=w.drewN q:=by
 have HF:=hid hf
 have HC:=hid hc
 clear hf hc
 go_enter Tryz.func286,Tryz.ntmps286
 go_wp2_with fail
 go_loopw [5,6] (fun x y wr=>∃ lo hi m:Nat,x=.int .i64 (lo:Nat)/\y=.int .i64 (hi:Nat)/\b2x p n lo hi/\wr=w.drewN m) (fun x y _=>(intOf y).toNat-(intOf x).toNat)
 case atStart=>exact⟨0,n,0,rfl,rfl,⟨Nat.zero_le _,ZB _,fun t ht=>absurd ht (Nat.not_lt_zero _),fun t h1 h2=>absurd h2 (by omega)⟩,rfl⟩
 case round=>
  obtain⟨lo,hi,m,rfl,rfl,hN,rfl⟩:=hrel
  have h1:lo<=hi:=hN.1
  have h2:hi<=n:=hN.2.1
  have HN:=hid hN
  clear hN
  by_cases hlt:lo<hi
  ·have hq:=HF.out m ((lo+hi)/2) (by omega)
   have hlt':(lo:Int)<(hi:Int):=by omega
   rw[show (((lo+hi)/2:Nat):Int)=((lo:Int)+(hi:Int))/2 by omega] at hq
   have HQ:=hid hq
   clear hq
   go_wp2_with fail
   refine ZE HQ.out ?_
   rintro e w1 ⟨rfl,q,rfl⟩
   cases hp:p ((lo+hi)/2) with
   | false=>
     have HP:=hid hp
     clear hp
     go_wp2_with fail
     go_roundw
     case rel=>exact⟨(lo+hi)/2+1,hi,m+q,by rw[show ((lo:Int)+(hi:Int))/2+1=(((lo+hi)/2+1:Nat):Int) by omega],rfl,b3B HC.out HN.out (by omega) HP.out,rfl⟩
     case measure=>simp[intOf];omega
   | true=>
     have HP:=hid hp
     clear hp
     go_wp2_with fail
     go_roundw
     case rel=>exact⟨lo,(lo+hi)/2,m+q,rfl,by rw[show ((lo:Int)+(hi:Int))/2=(((lo+hi)/2:Nat):Int) by omega],b1P HC.out HN.out (by omega) HP.out,rfl⟩
     case measure=>simp[intOf];omega
  ·obtain rfl:hi=lo:=by omega
   go_wp2_with fail
   go_ret
   obtain rfl:=b3C HC.out HN.out
   exact⟨rfl,_,rfl⟩
theorem b2m {S:List Int}(h:Asc S)(v:Int):Cut (fun i=>decide (v<S.getD i 0)) S.length (cnt v S):=by
 have hg:∀ t,t<S.length->S[t]? = some (S.getD t 0):=fun t ht=>by rw[List.getElem?_eq_getElem ht];simp[ht]
 have hl:=a4H v S
 refine⟨hl,fun t ht=>?_,fun t h1 h2=>?_⟩
 ·have:=(a2y h v t _ (hg t (by omega))).2 ht
  simp only[decide_eq_false_iff_not]
  omega
 ·have:=a2y h v t _ (hg t h2)
  simp only[decide_eq_true_eq]
  omega
theorem Box.drewN {w:World}{g:Nat}{vs:List Value}(h:Box w g vs)(m:Nat):Box (w.drewN m) g vs:=h.alike rfl
set_option maxRecDepth 20000 in
set_option maxHeartbeats 1000000 in
theorem c1f (b g:Nat)(S:List Int)(v:Int)(w:World)(x:Rk w b g S)(ha:Asc S)(hl:S.length<4611686018427387904):
 Calls Tryz.prog 274 #[.pointer (some ⟨b,0,none⟩),.int .i64 v] w fun e w'=>e=.returned (.int .i64 (cnt v S:Nat))/\Below w.heap.size w w':=by
 obtain⟨B1,B2,hB⟩:=a0n w 212 2 [.pointer (some ⟨b,0,none⟩)] [.int .i64 v]
 obtain⟨W,hW⟩:∃ W,W=(w.alloc (.cells #[.pointer (some ⟨b,0,none⟩)] 212)).alloc (.cells #[.int .i64 v] 2):=⟨_,rfl⟩
 have hX:=x.next (w':=W) (by rw[hW];exact hB)
 have hasks:∀ m i,i<S.length->Calls Tryz.prog 287 (#[.int .i64 (i:Nat)]++#[.pointer (some ⟨w.heap.size,0,none⟩),.pointer (some ⟨w.heap.size+1,0,none⟩)]) (W.drewN m) fun e w'=>e=.returned (.bool (decide (v<S.getD i 0)))/\∃ q,w'=(W.drewN m).drewN q:=by
  intro m i hi
  obtain⟨lv,hx⟩:=hX.next (a0Y W m)
  rcases hx.sl with ⟨_,e,_⟩ | ⟨_,J,hs⟩
  ·rw[e] at hi;simp at hi
  ·have c0:=hx.box.single.1
   rw[hs.val] at c0
   exact b2M w.heap.size (w.heap.size+1) b g S.length _ v _ i (W.drewN m) hi ((B1.drewN m).cell 0 _ rfl |> fun e=>by rw[hW];exact e) ((B2.drewN m).cell 0 _ rfl |> fun e=>by rw[hW];exact e) c0 (hs.cell (by rw[List.getElem?_eq_getElem hi];simp[hi]))
 have HS:=hid (b7U #[.pointer (some ⟨w.heap.size,0,none⟩),.pointer (some ⟨w.heap.size+1,0,none⟩)] S.length (cnt v S) (fun i=>decide (v<S.getD i 0)) W hl (b2m ha v) hasks)
 have HX:=hid hX
 have HB:=hid (show Below w.heap.size w W by rw[hW];exact hB)
 have hlt:=x.lt
 have d1:=B1.cell 0 _ rfl
 have HW:=hid hW
 clear B1 B2 hB hX hasks x hW
 go_enter Tryz.func274,Tryz.ntmps274
 go_wp2_with fail
 rw[<-HW.out]
 refine ZE (c2h b g S W HX.out) ?_
 rintro e w1 ⟨rfl,rfl⟩
 go_wp2_with fail
 refine ZE HS.out ?_
 rintro e w1 ⟨rfl,q,rfl⟩
 go_wp2_with fail
 go_ret
 exact⟨rfl,HB.out.trans ((a0I [] W q).below (by simp) HB.out.size)⟩
set_option maxRecDepth 20000 in
theorem b3l (v:Int)(w:World):Calls Tryz.prog 274 #[.pointer none,.int .i64 v] w fun e w'=>e=.returned (.int .i64 0)/\Below w.heap.size w w':=by
 obtain⟨B1,B2,hB⟩:=a0n w 212 2 [.pointer none] [.int .i64 v]
 obtain⟨W,hW⟩:∃ W,W=(w.alloc (.cells #[.pointer none] 212)).alloc (.cells #[.int .i64 v] 2):=⟨_,rfl⟩
 have HS:=hid (b7U #[.pointer (some ⟨w.heap.size,0,none⟩),.pointer (some ⟨w.heap.size+1,0,none⟩)] 0 0 (fun _=>false) W (by omega) ⟨ZB _,fun _ _=>rfl,fun _ _ h=>absurd h (Nat.not_lt_zero _)⟩ (fun _ _ h=>absurd h (Nat.not_lt_zero _)))
 have HB:=hid (show Below w.heap.size w W by rw[hW];exact hB)
 have d1:=B1.cell 0 _ rfl
 have HW:=hid hW
 clear B1 B2 hB hW
 go_enter Tryz.func274,Tryz.ntmps274
 go_wp2_with fail
 rw[<-HW.out]
 refine ZE (b6e W) ?_
 rintro e w1 ⟨rfl,rfl⟩
 go_wp2_with fail
 refine ZE HS.out ?_
 rintro e w1 ⟨rfl,q,rfl⟩
 go_wp2_with fail
 go_ret
 exact⟨rfl,HB.out.trans ((a0I [] W q).below (by simp) HB.out.size)⟩
def b5s (w:World)(lv:Value)(S:List Int)(w':World):Prop:=((lv=.slice none 0 0/\S=[])\/∃ g J,BAt w' g lv S J/\w.heap.size<=g)/\Below w.heap.size w w'
theorem a9J {w w':World}{g:Nat}{lv:Value}{S:List Int}(h:Apd w g (.slice none 0 0) lv S w'):b5s w lv S w':=by
 rcases h with ⟨rfl,rfl,rfl⟩ | ⟨J,_,_,h⟩ | ⟨g',J,h1,h2,h3⟩
 ·exact⟨.inl ⟨rfl,rfl⟩,ZD _ _⟩
 ·exact absurd rfl h
 ·exact⟨.inr ⟨g',J,h1,h3⟩,h2⟩
theorem b5s.rd {w w':World}{lv:Value}{S:List Int}(h:b5s w lv S w'):Rd w' lv S:=by
 rcases h with ⟨⟨rfl,rfl⟩ | ⟨g,J,h,_⟩,_⟩
 ·exact⟨none,0,rfl,.inl rfl⟩
 ·exact h.rd
theorem c1g (lv:Value)(S:List Int)(w:World)(h:Rd w lv S)(hl:S.length<17592186044416):
 Calls Tryz.prog 288 #[lv] w fun e w'=>∃ lv',e=.returned lv'/\b5s w lv' S w':=by
 have HX:=hid h
 obtain⟨a,c,hv,_⟩:=h
 subst hv
 go_enter Tryz.func288,Tryz.ntmps288
 go_wp2_with (at_builtin;refine a2U _ rfl _ _ rfl w.heap.size (.slice none 0 0) [] rfl (.inl ⟨rfl,rfl⟩) (.slice a S.length c) S rfl HX.out (by simpa using hl) ?_;intro lv1 w1 h1;rw[List.nil_append] at h1;have HA:=hid (a9J h1);obtain⟨a1,c1,hv1⟩:=h1.shape;subst hv1;clear h1)
 go_ret
 exact⟨_,rfl,HA.out⟩
set_option maxRecDepth 20000 in
theorem b9c (b g:Nat)(S:List Int)(k:Nat)(y:Int)(w:World)(x:Rk w b g S)(hy:S[k]? = some y):
 Calls Tryz.prog 279 #[.pointer (some ⟨b,0,none⟩),.int .i64 (k:Nat)] w fun e w'=>e=.returned (.tuple #[.int .i64 y,.bool true])/\w=w':=by
 have HL:=hid (c2h b g S w x)
 have hk:k<S.length:=(List.getElem?_eq_some_iff.1 hy).1
 obtain⟨lv,x⟩:=x
 obtain⟨c0,f0⟩:=x.box.single
 have hlt:=x.box.lt
 rcases x.sl with ⟨_,e,_⟩ | ⟨_,J,hs⟩
 ·rw[e] at hk;simp at hk
 rw[hs.val] at c0
 have d0:=hs.cell hy
 obtain⟨n,hn⟩:∃ n,n=S.length:=⟨_,rfl⟩
 rw[<-hn] at HL c0 hk
 have hk':(k:Int)<(n:Int):=by omega
 have hk0:¬(k:Int)<0:=by omega
 clear x hs hn hy
 go_enter Tryz.func279,Tryz.ntmps279
 go_wp2_with fail
 refine ZE HL.out ?_
 rintro e w1 ⟨rfl,rfl⟩
 go_wp2_with fail
 go_ret2
 exact⟨rfl,rfl⟩
theorem c1j (b g:Nat)(S:List Int)(p:Int)(w:World)(x:Rk w b g S)(hp:S=[]\/p<1\/100000000<p):
 Calls Tryz.prog 249 #[.pointer (some ⟨b,0,none⟩),.int .i64 p] w fun e w'=>e=.returned (.tuple #[.int .i64 0,.bool false])/\w=w':=by
 have HL:=hid (c2h b g S w x)
 clear x
 obtain⟨n,hn⟩:∃ n,n=S.length:=⟨_,rfl⟩
 have hp':n=0\/p<1\/100000000<p:=hp.imp_left (fun e=>by rw[hn,e];rfl)
 rw[<-hn] at HL
 clear hn hp
 by_cases h0:n=0
 ·subst h0
  go_enter Tryz.func249,Tryz.ntmps249
  go_wp2_with fail
  refine ZE HL.out ?_
  rintro e w1 ⟨rfl,rfl⟩
  go_wp2_with fail
  go_ret2
  exact⟨rfl,rfl⟩
 ·have hb:((n:Int)==0)=false:=by simp;omega
  by_cases h1:p<1
  ·go_enter Tryz.func249,Tryz.ntmps249
   go_wp2_with fail
   refine ZE HL.out ?_
   rintro e w1 ⟨rfl,rfl⟩
   go_wp2_with fail
   go_ret2
   exact⟨rfl,rfl⟩
  ·have h2:100000000<p:=by omega
   clear hp'
   go_enter Tryz.func249,Tryz.ntmps249
   go_wp2_with fail
   refine ZE HL.out ?_
   rintro e w1 ⟨rfl,rfl⟩
   go_wp2_with fail
   go_ret2
   exact⟨rfl,rfl⟩
def a1u (p:Int)(n:Nat):Nat:=((p*(n:Int)+99999999)/100000000).toNat
theorem a1N {p:Int}{n:Nat}(h1:1<=p)(h2:p<=100000000)(hn:0<n):1<=a1u p n/\a1u p n<=n/\((a1u p n:Nat):Int)=(p*(n:Int)+99999999)/100000000:=by
 have h3:(n:Int)<=p*(n:Int):=by
  have:=Int.mul_le_mul_of_nonneg_right h1 (show (0:Int)<=(n:Int) by omega)
  omega
 have h4:p*(n:Int)<=100000000*(n:Int):=Int.mul_le_mul_of_nonneg_right h2 (by omega)
 unfold a1u
 generalize p*(n:Int)=m at h3 h4
 omega
set_option maxRecDepth 20000 in
theorem b9b (b g:Nat)(S:List Int)(p:Int)(y:Int)(w:World)(x:Rk w b g S)(h1:1<=p)(h2:p<=100000000)(hl:S.length<2147483648)(hy:S[a1u p S.length-1]? = some y):
 Calls Tryz.prog 249 #[.pointer (some ⟨b,0,none⟩),.int .i64 p] w fun e w'=>e=.returned (.tuple #[.int .i64 y,.bool true])/\w=w':=by
 have HL:=hid (c2h b g S w x)
 have HA:=hid (b9c b g S _ y w x hy)
 have hk:a1u p S.length-1<S.length:=(List.getElem?_eq_some_iff.1 hy).1
 obtain⟨n1,n2,n3⟩:=a1N h1 h2 (show 0<S.length by omega)
 have h4:p*(S.length:Int)<=100000000*(S.length:Int):=Int.mul_le_mul_of_nonneg_right h2 (by omega)
 have h3:(S.length:Int)<=p*(S.length:Int):=by
  have:=Int.mul_le_mul_of_nonneg_right h1 (show (0:Int)<=(S.length:Int) by omega)
  omega
 obtain⟨n,hn⟩:∃ n,n=S.length:=⟨_,rfl⟩
 rw[<-hn] at HL HA hk n1 n2 n3 h3 h4 hl
 obtain⟨k,hkk⟩:∃ k,k=a1u p n:=⟨_,rfl⟩
 rw[<-hkk] at HA hk n1 n2 n3
 have hb:((n:Int)==0)=false:=by simp;omega
 have h5:¬ p<1:=by omega
 have h6:¬ 100000000<p:=by omega
 have hpn:0<=p*(n:Int):=by omega
 have hpm:p*(n:Int)<214748364800000000:=by omega
 rw[show ((k-1:Nat):Int)=(p*(n:Int)+100000000-1)/100000000-1 by rw[show p*(n:Int)+100000000-1=p*(n:Int)+99999999 by omega,<-n3];omega] at HA
 clear x hn hkk hy n3
 go_enter Tryz.func249,Tryz.ntmps249
 go_wp2_with fail
 refine ZE HL.out ?_
 rintro e w1 ⟨rfl,rfl⟩
 go_wp2_with fail
 refine ZE HL.out ?_
 rintro e w1 ⟨rfl,rfl⟩
 go_wp2_with fail
 refine ZE HA.out ?_
 rintro e w1 ⟨rfl,rfl⟩
 go_wp2_with fail
 go_ret2
 exact⟨rfl,rfl⟩
theorem a8P (w:World)(v:Int):Rd (w.alloc (.cells #[.int .i64 v] 2)) (.slice (some ⟨w.heap.size,0,none⟩) 1 1) [v]:=by
 refine⟨_,1,rfl,.inr ⟨w.heap.size,0,rfl,by simp,fun i x hx=>?_⟩⟩
 have hi:i<1:=(List.getElem?_eq_some_iff.1 hx).1
 obtain rfl:i=0:=by omega
 simp at hx
 subst hx
 exact(Box.new w [.int .i64 v] 2).cell 0 _ rfl
def a8Z (w:World)(b g:Nat)(S:List Int)(w':World):Prop:=∃ g',Rk w' b g' S/\a0h [b,g] w w'/\(g'=g\/g'=b\/w.heap.size<=g')
theorem b5r.next {w w':World}{b g:Nat}{lv:Value}{S:List Int}(h:b5r w b g lv S)(t:Below w.heap.size w w'):b5r w' b g lv S:=
 ⟨h.box.next t,h.sl.imp_right (fun x=>⟨x.1,x.2.elim fun J y=>⟨J,y.next t⟩⟩)⟩
theorem a0h.undrew {T:List Nat}{w w':World}(h:a0h T w.drew w'):a0h T w w':=⟨h.os,h.tape,h.output,h.size,h.block⟩
theorem b3r {w w1 w2:World}{b g:Nat}{lv lv2:Value}{S:List Int}{v:Int}(x:b5r w1 b g lv S)(hB:Below w.heap.size w w1)(hA:Apd w1 g lv lv2 (S++[v]) w2):
 ∃ g2 J,g2≠b/\BAt w2 g2 lv2 (S++[v]) J/\Box w2 b [lv]/\a0h [b,g] w w2/\(g2=g\/w.heap.size<=g2):=by
 have sz:=hB.size
 rcases hA with ⟨_,e,_⟩ | ⟨J,h1,h2,h3⟩ | ⟨g',J,h1,h2,h3⟩
 ·simp at e
 ·rcases x.sl with ⟨e,_⟩ | ⟨hn,_⟩
  ·exact absurd e h3
  ·exact⟨g,J,hn,h1,x.box.turn h2 (by simpa using Ne.symm hn),(a0h.of_below (S:=[b,g]) hB).trans h2 (by simp),.inl rfl⟩
 ·have:=x.box.lt
  exact⟨g',J,by omega,h1,x.box.next h2,(a0h.of_below (S:=[b,g]) hB).andBelow h2,.inr (by omega)⟩
theorem b1I {w w2:World}{b g g2:Nat}{lv lv2:Value}{S J:List Int}{v:Int}(hA:BAt w2 g2 lv2 (S++[v]) J)(hb:Box w2 b [lv])(ht:a0h [b,g] w w2)(hne:g2≠b):
 Box (w2.setCell ⟨b,0,none⟩ lv2) b [lv2]/\BAt (w2.setCell ⟨b,0,none⟩ lv2) g2 lv2 (S++[v]) J/\a0h [b,g] w (w2.setCell ⟨b,0,none⟩ lv2):=
 ⟨hb.set 0 (by simp) _,hA.turn (a0h.set (S:=[b]) _ _ _ (by simp)) (by simpa using hne),ht.andSet _ _ (.inl (by simp))⟩
theorem a9w {w w3 w4:World}{b g g2 c n:Nat}{lv2:Value}{S J:List Int}{v:Int}(hA:BAt w3 g2 lv2 (S++[v]) J)(hb:Box w3 b [lv2])(ht:a0h [b,g] w w3)(hne:g2≠b)(hg:g2=g\/w.heap.size<=g2)(hc:c=cnt v S)(hn:n=S.length-c)
 (hm:Blk w4 g2 (mv ((S++[v])++J) (c+1) c n)) (h4:a0h [g2] w3 w4) :
 Box w4 b [lv2]/\(∃ u,w4.cell? ⟨g2,c,none⟩=some (.int .i64 u))/\w4.frozen? ⟨g2,c,none⟩=false/\a8Z w b g (ins v S) (w4.setCell ⟨g2,c,none⟩ (.int .i64 v)):=by
 subst hc hn
 have hcl:=a4H v S
 have hb4:=hb.turn h4 (by simpa using Ne.symm hne)
 have hlen:(mv ((S++[v])++J) (cnt v S+1) (cnt v S) (S.length-cnt v S)).length=S.length+1+J.length:=by
  have:=congrArg List.length (b7X (S:=S) (J:=J) (v:=v))
  simpa[a4v] using this
 have hput:=hm.put (cnt v S) v
 rw[b7X] at hput
 have tset:a0h [b,g] w (w4.setCell ⟨g2,cnt v S,none⟩ (.int .i64 v)):=by
  refine(ht.trans h4 (fun i hi=>?_)).andSet _ _ ?_
  ·simp at hi
   subst hi
   rcases hg with e | e
   ·exact .inl (by simp[e])
   ·exact .inr e
  ·rcases hg with e | e
   ·exact .inl (by simp[e])
   ·exact .inr e
 refine⟨hb4,⟨_,a3o hm.box (List.getElem?_eq_getElem (by omega))⟩,a7Q hm.box (by omega),g2,⟨lv2,hb4.other (Ne.symm hne),.inr ⟨hne,J,?_,hput,?_⟩⟩,tset,?_⟩
 ·rw[hA.val,a4v]
  simp
 ·have:=hA.most
  rw[a4v]
  simpa using this
 ·rcases hg with e | e
  ·exact .inl e
  ·exact .inr (.inr e)
set_option maxRecDepth 20000 in
set_option maxHeartbeats 1000000 in
theorem c4l (b g:Nat)(S:List Int)(v:Int)(w:World)(x:Rk w b g S)(ha:Asc S)(hl:S.length<17592186044415):
 Calls Tryz.prog 244 #[.pointer (some ⟨b,0,none⟩),.int .i64 v] w fun e w'=>e=.returned (.tuple #[])/\a8Z w b g (ins v S) w':=by
 have hlt:=x.lt
 have HU:=hid (c1f b g S v w x ha (by omega))
 have HX:=hid x
 have hcl:=a4H v S
 obtain⟨c,hc⟩:∃ c,c=cnt v S:=⟨_,rfl⟩
 rw[<-hc] at HU hcl
 have HC:=hid hc
 clear x ha hc
 go_enter Tryz.func244,Tryz.ntmps244
 go_wp2_with fail
 refine ZE HU.out ?_
 rintro e w1 ⟨rfl,hB⟩
 obtain⟨lv,hx⟩:=HX.out.next hB
 obtain⟨c0,f0⟩:=hx.box.single
 have hlt1:=hx.box.lt
 have HI:=hid hx
 have HB:=hid hB
 obtain⟨a,k,hv⟩:=hx.shape
 subst hv
 clear hx hB
 go_wp2_with (at_builtin;refine a2U _ rfl _ _ rfl g (.slice a S.length k) S rfl (HI.out.sl.elim (fun h=>.inl ⟨h.1,h.2.1⟩) (fun h=>.inr (h.2.elim fun J h=>⟨J,h.next ((ZD _ _).alloc (ZB _) _)⟩))) (.slice (some ⟨w1.heap.size,0,none⟩) 1 1) [v] rfl (a8P w1 v) (by simp;omega) ?_;intro lv2 w2 h2;obtain⟨g2,J,hne,hA2,hb2,ht2,hg2⟩:=b3r (HI.out.next ((ZD _ _).alloc (ZB _) _)) (HB.out.trans (((ZD _ _).alloc (ZB _) _).mono HB.out.size)) h2;have hv2:=hA2.val;subst hv2;obtain⟨d0,e0⟩:=hb2.single;have hlt2:=hb2.lt;have HA2:=hid hA2;have HT2:=hid ht2;have HB2:=hid hb2;clear h2 hA2 ht2 hb2)
 obtain⟨hb3,hA3,ht3⟩:=b1I HA2.out HB2.out HT2.out hne
 simp only[List.length_append,List.length_cons,List.length_nil,Nat.zero_add] at hb3 hA3 ht3
 revert hb3 hA3 ht3
 generalize w2.setCell {block:=b,off:=0} (Value.slice (some {block:=g2,off:=0}) (S.length+1) (S.length+1+J.length))=w3
 intro hb3 hA3 ht3
 clear d0 e0 hlt2 HA2 HT2 HB2
 obtain⟨d0,e0⟩:=hb3.single
 have hlt3:=hb3.lt
 have HB3:=hid hb3
 have HA3:=hid hA3
 have HT3:=hid ht3
 obtain⟨n,hn⟩:∃ n,n=S.length:=⟨_,rfl⟩
 rw[<-hn] at HB3 HA3 d0 hcl hl
 rw[<-hn]
 obtain⟨q,hq⟩:∃ q,q=n+1+J.length:=⟨_,rfl⟩
 rw[<-hq] at HB3 HA3 d0
 rw[<-hq]
 have HNN:=hid hn
 have HQ:=hid hq
 have hqn:n+1<=q:=by omega
 clear hb3 hA3 ht3 hn hq
 have hwr:IntKind.i64.wrap ((c:Int)+1)=(c:Int)+1:=wrap_small _ (by omega) (by omega)
 have hnat:((c:Int)+1).toNat=c+1:=by omega
 have hle:(c:Int)<=(n:Int):=by omega
 have hle1:(c:Int)<=(n:Int)+1:=by omega
 have hge:0<=(c:Int)+1:=by omega
 have hqc:¬ q=c:=by omega
 have hci:(c:Int)<(n:Int)+1:=by omega
 by_cases hcn:c<n
 ·have hqd:¬ q=c+1:=by omega
  go_region_law (refine a2g rfl (.tmp 26) (.tmp 32) rfl (some ⟨g2,c+1,none⟩) (some ⟨g2,c,none⟩) (n-c) (q-(c+1)) (n+1-c) (q-c) (by simp[Act.eval,Act.put]) (by simp[Act.eval,Act.put]) g2 ((S++[v])++J) (HA3.out.blk.alike rfl) (c+1) c (n-c) (by simp only[Nat.min_def];split<;>omega) (fun _=>⟨rfl,rfl⟩) (by have:=HNN.out;simp;omega) (by have:=HNN.out;simp;omega) ?_;intro w4 hm4 ht4;obtain⟨hb4,⟨u4,hu4⟩,hf4,hend⟩:=a9w HA3.out HB3.out HT3.out hne hg2 HC.out (by rw[HNN.out]) hm4.out ht4.undrew;obtain⟨d4,e4⟩:=hb4.single;have hlt4:=hb4.lt;have HE:=hid hend;clear hend hm4 ht4 hb4)
  all_goals go_wp2_with fail
  all_goals go_end0
  all_goals exact⟨rfl,HE.out⟩
 ·by_cases hqd:q=c+1
  ·subst hqd
   go_region_law (refine a2g rfl (.tmp 26) (.tmp 32) rfl (some ⟨g2,0,none⟩) (some ⟨g2,c,none⟩) (n-c) 0 (n+1-c) 1 (by first|(simp[Act.eval,Act.put];done)|(simp[Act.eval,Act.put];omega)) (by first|(simp[Act.eval,Act.put];done)|(simp[Act.eval,Act.put];omega)) g2 ((S++[v])++J) (HA3.out.blk.alike rfl) (c+1) c (n-c) (by simp only[Nat.min_def];split<;>omega) (fun h=>absurd h (by omega)) (by have:=HNN.out;simp;omega) (by have:=HNN.out;simp;omega) ?_;intro w4 hm4 ht4;obtain⟨hb4,⟨u4,hu4⟩,hf4,hend⟩:=a9w HA3.out HB3.out HT3.out hne hg2 HC.out (by rw[HNN.out]) hm4.out ht4.undrew;obtain⟨d4,e4⟩:=hb4.single;have hlt4:=hb4.lt;have HE:=hid hend;clear hend hm4 ht4 hb4)
   all_goals go_wp2_with fail
   all_goals go_end0
   all_goals exact⟨rfl,HE.out⟩
  ·go_region_law (refine a2g rfl (.tmp 26) (.tmp 32) rfl (some ⟨g2,c+1,none⟩) (some ⟨g2,c,none⟩) (n-c) (q-(c+1)) (n+1-c) (q-c) (by first|(simp[Act.eval,Act.put];done)|(simp[Act.eval,Act.put];omega)) (by first|(simp[Act.eval,Act.put];done)|(simp[Act.eval,Act.put];omega)) g2 ((S++[v])++J) (HA3.out.blk.alike rfl) (c+1) c (n-c) (by simp only[Nat.min_def];split<;>omega) (fun h=>absurd h (by omega)) (by have:=HNN.out;simp;omega) (by have:=HNN.out;simp;omega) ?_;intro w4 hm4 ht4;obtain⟨hb4,⟨u4,hu4⟩,hf4,hend⟩:=a9w HA3.out HB3.out HT3.out hne hg2 HC.out (by rw[HNN.out]) hm4.out ht4.undrew;obtain⟨d4,e4⟩:=hb4.single;have hlt4:=hb4.lt;have HE:=hid hend;clear hend hm4 ht4 hb4)
   all_goals go_wp2_with fail
   all_goals go_end0
   all_goals exact⟨rfl,HE.out⟩
theorem a6X (v:Int)(w:World):Calls Tryz.prog 244 #[.pointer none,.int .i64 v] w fun e w'=>e=.returned (.tuple #[])/\w=w':=by
 go_enter Tryz.func244,Tryz.ntmps244
 go_wp2_with fail
 exact bodyPost_ret (results_none rfl _ _ _) rfl ⟨rfl,rfl⟩
theorem a5l (v:Int)(w:World):Calls Tryz.prog 241 #[.pointer none,.int .i64 v] w fun e w'=>e=.returned (.bool false)/\Below w.heap.size w w':=by
 go_enter Tryz.func241,Tryz.ntmps241
 go_wp2_with fail
 refine ZE (b3l v w) ?_
 rintro e w1 ⟨rfl,hB⟩
 have HB:=hid hB
 clear hB
 go_wp2_with fail
 go_ret
 exact⟨rfl,HB.out⟩
theorem b4d {w w1:World}{b g:Nat}{S:List Int}(x:Rk w b g S)(h:Below w.heap.size w w1):a8Z w b g S w1:=⟨g,x.next h,a0h.of_below h,.inl rfl⟩
theorem b2d {w w1:World}{b g:Nat}{lv lv1:Value}{S:List Int}(x:b5r w b g lv S)(h:b5s w lv1 S w1):Box w1 b [lv]/\a8Z w b g S (w1.setCell ⟨b,0,none⟩ lv1):=by
 obtain⟨h,hB⟩:=h
 have hb:=x.box.next hB
 have hlt:=x.box.lt
 refine⟨hb,?_⟩
 have hset:=hb.set 0 (by simp) lv1
 have ht:a0h [b,g] w (w1.setCell ⟨b,0,none⟩ lv1):=(a0h.of_below hB).andSet _ _ (.inl (by simp))
 rcases h with ⟨rfl,rfl⟩ | ⟨g',J,h1,h2⟩
 ·exact⟨b,⟨_,hset,.inl ⟨rfl,rfl,rfl⟩⟩,ht,.inr (.inl rfl)⟩
 ·exact⟨g',⟨_,hset,.inr ⟨by omega,J,h1.turn (a0h.set (S:=[b]) _ _ _ (by simp)) (by simp;omega)⟩⟩,ht,.inr (.inr h2)⟩
theorem b5s.shape {w w':World}{lv:Value}{S:List Int}(h:b5s w lv S w'):∃ a c,lv=.slice a S.length c:=by
 obtain⟨a,c,e,_⟩:=h.rd
 exact⟨a,c,e⟩
theorem b5s.undrew {w w':World}{lv:Value}{S:List Int}{m:Nat}(h:b5s (w.drewN m) lv S w'):b5s w lv S w':=⟨h.1,⟨h.2.os,h.2.tape,h.2.output,h.2.size,h.2.block⟩⟩
set_option maxRecDepth 20000 in
set_option maxHeartbeats 1000000 in
theorem c1h (b g:Nat)(S:List Int)(w:World)(x:Rk w b g S)(hl:S.length<17592186044416):
 Calls Tryz.prog 275 #[.pointer (some ⟨b,0,none⟩)] w fun e w'=>e=.returned (.tuple #[])/\a8Z w b g S w':=by
 obtain⟨lv,x⟩:=x
 obtain⟨c0,f0⟩:=x.box.single
 have hlt:=x.box.lt
 have HI:=hid x
 have hm:∃ a k,lv=.slice a S.length k/\k<=maxLen:=by
  rcases x.sl with ⟨rfl,rfl,_⟩ | ⟨_,J,h⟩
  ·exact⟨none,0,rfl,by simp[maxLen]⟩
  ·exact⟨_,_,h.val,h.most⟩
 obtain⟨a,k,hv,hk⟩:=hm
 subst hv
 obtain⟨n,hn⟩:∃ n,n=S.length:=⟨_,rfl⟩
 have HM:=hid (fun m=>c1g _ S (w.drewN m) (x.rd.alike rfl) hl)
 rw[<-hn] at c0 HI HM
 simp only[maxLen] at hk
 clear x hn
 by_cases hlk:(n:Int)<(k:Int)/4
 ·go_enter Tryz.func275,Tryz.ntmps275
  go_wp2_with fail
  go_quiet (fail)
  go_wp2_with fail
  refine ZE (HM.out nq) ?_
  rintro e w1 ⟨lv1,rfl,h1⟩
  obtain⟨hbx,hend⟩:=b2d HI.out h1.undrew
  obtain⟨a1,k1,hv1⟩:=h1.shape
  subst hv1
  obtain⟨d0,e0⟩:=hbx.single
  have hlt1:=hbx.lt
  have HE:=hid hend
  clear h1 hend hbx
  go_wp2_with fail
  go_end0
  exact⟨rfl,HE.out⟩
 ·go_enter Tryz.func275,Tryz.ntmps275
  go_wp2_with fail
  go_quiet (fail)
  go_wp2_with fail
  go_end0
  exact⟨rfl,b4d ⟨_,HI.out⟩ (a0Y w _)⟩
theorem a6d {w w3 w4:World}{b g m n q k:Nat}{S J:List Int}{v:Int}(hA:BAt w3 g (.slice (some ⟨g,0,none⟩) n q) S J)(hb:Box w3 b [.slice (some ⟨g,0,none⟩) n q])(hB:Below w.heap.size w w3)(hne:g≠b)(hc:m+1=cnt v S)(hn:n=S.length)(hk:k=n-(m+1))
 (hm:Blk w4 g (mv (S++J) m (m+1) k)) (h4:a0h [g] w3 w4) (ha:Asc S) (hv:v∈S) :
 Box w4 b [.slice (some ⟨g,0,none⟩) n q]/\∀ d,Rk ((w4.drewN d).setCell ⟨b,0,none⟩ (.slice (some ⟨g,0,none⟩) (n-1) q)) b g (rem v S)/\a0h [b,g] w ((w4.drewN d).setCell ⟨b,0,none⟩ (.slice (some ⟨g,0,none⟩) (n-1) q)):=by
 subst hk
 have hb4:=hb.turn h4 (by simpa using Ne.symm hne)
 refine⟨hb4,fun d=>?_⟩
 have hl:=a4r ha hv
 have hq:q=S.length+J.length:=by have:=hA.val;cases this;rfl
 have e:=c1p (S:=S) (J:=J) (v:=v) (by omega)
 rw[<-hc,Nat.add_sub_cancel,<-hn] at e
 rw[e] at hm
 have hb5:=(hb4.drewN d).set 0 (by simp) (.slice (some ⟨g,0,none⟩) (n-1) q)
 have hlen:((S++J).drop (n-1)).length=J.length+1:=by simp;omega
 refine⟨⟨_,hb5,.inr ⟨hne,(S++J).drop (n-1),?_,?_,?_⟩⟩,?_⟩
 ·rw[hlen]
  congr 1<;>omega
 ·exact((hm.alike (w':=w4.drewN d) rfl).turn (a0h.set (S:=[b]) _ _ _ (by simp)) (by simpa using hne))
 ·rw[hlen]
  have:=hA.most
  omega
 ·refine((((a0h.of_below (S:=[b,g]) hB).trans h4 ?_).trans (a0I [] w4 d) (by simp)).andSet _ _ (.inl (by simp)))
  intro i hi
  simp at hi
  subst hi
  exact .inl (by simp)
theorem b0o {w w5 w6:World}{b g:Nat}{S:List Int}(x:a0h [b,g] w w5)(h:a8Z w5 b g S w6):a8Z w b g S w6:=by
 obtain⟨g',h1,h2,h3⟩:=h
 have sz:=x.size
 refine⟨g',h1,x.trans h2 (fun i hi=>.inl hi),?_⟩
 rcases h3 with e | e | e
 ·exact .inl e
 ·exact .inr (.inl e)
 ·exact .inr (.inr (by omega))
set_option maxRecDepth 20000 in
set_option maxHeartbeats 1000000 in
theorem b3m (b g:Nat)(S:List Int)(v:Int)(w:World)(x:Rk w b g S)(ha:Asc S)(hl:S.length<17592186044415)(hv:v∈S):
 Calls Tryz.prog 241 #[.pointer (some ⟨b,0,none⟩),.int .i64 v] w fun e w'=>e=.returned (.bool true)/\a8Z w b g (rem v S) w':=by
 have hlt:=x.lt
 have HU:=hid (c1f b g S v w x ha (by omega))
 have HX:=hid x
 have hcl:=a4H v S
 obtain⟨hpos,hy⟩:=b3i ha hv
 obtain⟨m,hc⟩:∃ m,m+1=cnt v S:=⟨cnt v S-1,by omega⟩
 rw[<-hc] at HU hcl hy
 rw[Nat.add_sub_cancel] at hy
 have HC:=hid hc
 have HY:=hid hy
 have HAS:=hid ha
 have HV:=hid hv
 clear x ha hc hv hy hpos
 go_enter Tryz.func241,Tryz.ntmps241
 go_wp2_with fail
 refine ZE HU.out ?_
 rintro e w1 ⟨rfl,hB⟩
 obtain⟨lv,hx⟩:=HX.out.next hB
 obtain⟨c0,f0⟩:=hx.box.single
 have hlt1:=hx.box.lt
 rcases hx.sl with ⟨_,e,_⟩ | ⟨hne,J,hs⟩
 ·rw[e] at hcl;simp at hcl
 have d0:=hs.cell (HY.out)
 have hval:=hs.val
 have hmost:=hs.most
 obtain⟨n,hn⟩:∃ n,n=S.length:=⟨_,rfl⟩
 obtain⟨q,hq⟩:∃ q,q=n+J.length:=⟨_,rfl⟩
 rw[<-hn] at hval hcl hl hmost
 rw[<-hq] at hval hmost
 subst hval
 simp only[maxLen] at hmost
 have hbx:=hx.box
 have HS:=hid hs
 have HBX:=hid hbx
 have HB:=hid hB
 have HN:=hid hn
 have hnq:n<=q:=by omega
 have hmi:(m:Int)<(n:Int):=by omega
 have hwr:IntKind.i64.wrap ((m:Int)+1)=(m:Int)+1:=wrap_small _ (by omega) (by omega)
 have hnat:((m:Int)+1).toNat=m+1:=by omega
 have hle:(m:Int)<=(n:Int):=by omega
 have hle1:(m:Int)+1<=(n:Int):=by omega
 have hge:0<=(m:Int)+1:=by omega
 have hqc:¬ q=m:=by omega
 have hn1:((n:Int)-1).toNat=n-1:=by omega
 have hn2:0<=(n:Int)-1:=by omega
 have hn3:(n:Int)-1<=(q:Int):=by omega
 have hvb:(v != v)=false:=by simp
 clear hB hx hs hbx hn hq
 go_wp2_with fail
 by_cases hqd:q=m+1
 ·subst hqd
  go_region_law (refine a2g rfl (.tmp 28) (.tmp 35) rfl (some ⟨g,m,none⟩) (some ⟨g,0,none⟩) (n-m) (1) (n-(m+1)) (0) (by first|(simp[Act.eval,Act.put];done)|(simp[Act.eval,Act.put];omega)) (by first|(simp[Act.eval,Act.put];done)|(simp[Act.eval,Act.put];omega)) g (S++J) (HS.out.blk.alike rfl) m (m+1) (n-(m+1)) (by simp only[Nat.min_def];split<;>omega) (fun h=>absurd h (by omega)) (by have:=HN.out;simp;omega) (by have:=HN.out;simp;omega) ?_;intro w4 hm4 ht4;obtain⟨hb4,hend⟩:=a6d HS.out HBX.out HB.out hne HC.out HN.out rfl hm4.out ht4.undrew HAS.out HV.out;obtain⟨d4,e4⟩:=hb4.single;have hlt4:=hb4.lt;have HE:=hid (hend 1);clear hend hm4 ht4 hb4)
  all_goals go_wp2_with fail
  all_goals go_region
  all_goals go_wp2_with fail
  all_goals refine ZE (c1h b g (rem v S) _ HE.out.1 (by have:=a4r HAS.out HV.out;have:=HN.out;omega)) ?_
  all_goals rintro e w6 ⟨rfl,hend⟩
  all_goals have HF:=hid (b0o HE.out.2 hend)
  all_goals clear hend HE
  all_goals go_wp2_with fail
  all_goals go_ret
  all_goals exact⟨rfl,HF.out⟩
 ·go_region_law (refine a2g rfl (.tmp 28) (.tmp 35) rfl (some ⟨g,m,none⟩) (some ⟨g,m+1,none⟩) (n-m) (q-m) (n-(m+1)) (q-(m+1)) (by first|(simp[Act.eval,Act.put];done)|(simp[Act.eval,Act.put];omega)) (by first|(simp[Act.eval,Act.put];done)|(simp[Act.eval,Act.put];omega)) g (S++J) (HS.out.blk.alike rfl) m (m+1) (n-(m+1)) (by simp only[Nat.min_def];split<;>omega) (fun _=>⟨rfl,rfl⟩) (by have:=HN.out;simp;omega) (by have:=HN.out;simp;omega) ?_;intro w4 hm4 ht4;obtain⟨hb4,hend⟩:=a6d HS.out HBX.out HB.out hne HC.out HN.out rfl hm4.out ht4.undrew HAS.out HV.out;obtain⟨d4,e4⟩:=hb4.single;have hlt4:=hb4.lt;have HE:=hid (hend 1);clear hend hm4 ht4 hb4)
  all_goals go_wp2_with fail
  all_goals go_region
  all_goals go_wp2_with fail
  all_goals refine ZE (c1h b g (rem v S) _ HE.out.1 (by have:=a4r HAS.out HV.out;have:=HN.out;omega)) ?_
  all_goals rintro e w6 ⟨rfl,hend⟩
  all_goals have HF:=hid (b0o HE.out.2 hend)
  all_goals clear hend HE
  all_goals go_wp2_with fail
  all_goals go_ret
  all_goals exact⟨rfl,HF.out⟩
end Go.Proofs.YtbddbnjhmdbkbaaGreatDoor
end
