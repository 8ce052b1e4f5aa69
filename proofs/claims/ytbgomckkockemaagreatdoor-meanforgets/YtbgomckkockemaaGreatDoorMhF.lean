import Derived.Test.YtbgomckkockemaaGreatDoorBoxes
import Derived.Test.YtbgomckkockemaaGreatDoorMhD
import Derived.Laws.CopyRow
import Derived.Laws.IdiomCopy
section
namespace Go.Proofs.YtbgomckkockemaaGreatDoor
def Asc (S:List Int):Prop:=S.Pairwise (fun a b=>a<=b)
def cnt (v:Int)(S:List Int):Nat:=S.countP (fun x=>decide (x<=v))
def ins (v:Int)(S:List Int):List Int:=S.take (cnt v S)++v::S.drop (cnt v S)
def rem (v:Int)(S:List Int):List Int:=S.take (cnt v S-1)++S.drop (cnt v S)
def srtN (L:List Int):List Int:=L.foldl (fun S v=>ins v S) []
theorem cnt_le (v:Int)(S:List Int):cnt v S<=S.length:=List.countP_le_length
theorem cnt_cons (v x:Int)(S:List Int):cnt v (x::S)=cnt v S+(if x<=v then 1 else 0):=by
 unfold cnt
 rw[List.countP_cons]
 by_cases h:x<=v<;>simp[h]
theorem cnt_zero {v:Int}{S:List Int}(h:∀ x,x∈S->v<x):cnt v S=0:=by
 unfold cnt
 rw[List.countP_eq_zero]
 intro x hx
 have:=h x hx
 simp;omega
theorem asc_cnt {S:List Int}(h:Asc S)(v:Int):∀ (i:Nat) (x:Int),S[i]? = some x->(x<=v↔i<cnt v S):=by
 induction S with
 | nil=>intro i x hx;simp at hx
 | cons y S ih=>
   intro i x hx
   have h':Asc S:=(List.pairwise_cons.1 h).2
   have hy:=(List.pairwise_cons.1 h).1
   by_cases hyv:y<=v
   ·rw[cnt_cons,if_pos hyv]
    cases i with
    | zero=>simp at hx;subst hx;constructor
            ·intro _;omega
            ·intro _;exact hyv
    | succ i=>simp at hx;rw[ih h' i x hx];omega
   ·rw[cnt_cons,if_neg hyv,cnt_zero (fun z hz=>by have:=hy z hz;omega)]
    have hyx:y<=x:=by
     cases i with
     | zero=>simp at hx;omega
     | succ i=>simp at hx;exact hy x (List.mem_of_getElem? hx)
    constructor
    ·intro hh;omega
    ·intro hh;omega
theorem asc_get {S:List Int}(h:Asc S){i j:Nat}{x y:Int}(hij:i<=j)(hx:S[i]? = some x)(hy:S[j]? = some y):x<=y:=by
 have hj:=(List.getElem?_eq_some_iff.1 hy).1
 have h1:=(asc_cnt h y j y hy).1 (Int.le_refl _)
 exact(asc_cnt h y i x hx).2 (by omega)
theorem ins_perm (v:Int)(S:List Int):(ins v S).Perm (v::S):=by
 unfold ins
 refine List.perm_middle.trans ?_
 rw[List.take_append_drop]
theorem asc_take_drop {S:List Int}(h:Asc S)(v:Int):(∀ x,x∈S.take (cnt v S)->x<=v)/\(∀ x,x∈S.drop (cnt v S)->v<x):=by
 constructor
 ·intro x hx
  obtain⟨i,hi⟩:=List.getElem?_of_mem hx
  have hil:i<(S.take (cnt v S)).length:=(List.getElem?_eq_some_iff.1 hi).1
  rw[List.getElem?_take_of_lt (by simp at hil;omega)] at hi
  exact(asc_cnt h v i x hi).2 (by simp at hil;omega)
 ·intro x hx
  obtain⟨i,hi⟩:=List.getElem?_of_mem hx
  rw[List.getElem?_drop] at hi
  have:=(asc_cnt h v _ x hi)
  omega
theorem ins_asc {S:List Int}(h:Asc S)(v:Int):Asc (ins v S):=by
 obtain⟨h1,h2⟩:=asc_take_drop h v
 have hs:Asc (S.take (cnt v S)++S.drop (cnt v S)):=by rw[List.take_append_drop];exact h
 obtain⟨p1,p2,p3⟩:=List.pairwise_append.1 hs
 unfold ins Asc
 rw[List.pairwise_append]
 refine⟨p1,List.pairwise_cons.2 ⟨fun x hx=>by have:=h2 x hx;omega,p2⟩,fun a ha b hb=>?_⟩
 rcases List.mem_cons.1 hb with rfl | hb
 ·exact h1 a ha
 ·exact p3 a ha b hb
theorem ins_length (v:Int)(S:List Int):(ins v S).length=S.length+1:=(ins_perm v S).length_eq
theorem srt_snoc (L:List Int)(v:Int):srtN (L++[v])=ins v (srtN L):=by simp[srtN]
theorem srt_step {L:List Int}{k:Nat}{x:Int}(hx:L[k]? = some x):srtN (L.take (k+1))=ins x (srtN (L.take k)):=by
 rw[List.take_add_one,hx]
 exact srt_snoc _ _
theorem srt_asc (L:List Int):Asc (srtN L):=by
 have h:∀ (L S:List Int),Asc S->Asc (L.foldl (fun S v=>ins v S) S):=fun L=>by
  induction L with
  | nil=>intro S h;exact h
  | cons x L ih=>intro S h;exact ih _ (ins_asc h x)
 exact h L [] List.Pairwise.nil
theorem srt_perm (L:List Int):(srtN L).Perm L:=by
 have h:∀ (L S:List Int),(L.foldl (fun S v=>ins v S) S).Perm (S++L):=fun L=>by
  induction L with
  | nil=>intro S;simp
  | cons x L ih=>
    intro S
    refine(ih (ins x S)).trans ?_
    refine((ins_perm x S).append_right L).trans ?_
    rw[List.cons_append]
    exact List.perm_middle.symm
 have:=h L []
 rwa [List.nil_append] at this
theorem srt_length (L:List Int):(srtN L).length=L.length:=(srt_perm L).length_eq
theorem asc_one {A B:List Int}(hA:Asc A)(hB:Asc B)(h:A.Perm B):A=B:=h.eq_of_pairwise (fun _ _ _ _ h1 h2=>Int.le_antisymm h1 h2) hA hB
theorem cnt_perm {A B:List Int}(h:A.Perm B)(v:Int):cnt v A=cnt v B:=h.countP_eq _
theorem rem_no {S:List Int}(_h:Asc S){v:Int}(hv:v∉S):cnt v S=0\/∃ x,S[cnt v S-1]? = some x/\x≠v:=by
 by_cases hc:cnt v S=0
 ·exact .inl hc
 ·have hl:=cnt_le v S
  refine .inr ⟨_,List.getElem?_eq_getElem (by omega),?_⟩
  intro e
  exact hv (e ▸ List.getElem_mem _)
theorem rem_yes {S:List Int}(h:Asc S){v:Int}(hv:v∈S):0<cnt v S/\S[cnt v S-1]? = some v:=by
 obtain⟨i,hi⟩:=List.getElem?_of_mem hv
 have h1:=(asc_cnt h v i v hi).1 (Int.le_refl _)
 have hl:=cnt_le v S
 have hlt:cnt v S-1<S.length:=by omega
 refine⟨by omega,?_⟩
 have h2:S[cnt v S-1]? = some S[cnt v S-1]:=List.getElem?_eq_getElem hlt
 have h3:=(asc_cnt h v _ _ h2).2 (by omega)
 have h4:=asc_get h (by omega) hi h2
 rw[h2]
 congr 1
 omega
theorem rem_perm {S:List Int}(h:Asc S){v:Int}(hv:v∈S):(v::rem v S).Perm S:=by
 obtain⟨h1,h2⟩:=rem_yes h hv
 have hl:=cnt_le v S
 have e:S=S.take (cnt v S-1)++v::S.drop (cnt v S):=by
  have hd:=List.drop_eq_getElem_cons (l:=S) (i:=cnt v S-1) (by omega)
  have hg:S[cnt v S-1]=v:=by
   have:=List.getElem?_eq_getElem (l:=S) (i:=cnt v S-1) (by omega)
   rw[h2] at this
   exact(Option.some.inj this).symm
  rw[hg,show cnt v S-1+1=cnt v S by omega] at hd
  rw[<-hd,List.take_append_drop]
 have:=(List.perm_middle (a:=v) (l₁:=S.take (cnt v S-1)) (l₂:=S.drop (cnt v S))).symm
 rw[<-e] at this
 exact this
theorem rem_asc {S:List Int}(h:Asc S)(v:Int):Asc (rem v S):=by
 have hs:(rem v S).Sublist S:=by
  conv=>rhs;rw[<-List.take_append_drop (cnt v S) S]
  exact List.Sublist.append (List.take_sublist_take_left (by omega)) (List.Sublist.refl _)
 exact List.Pairwise.sublist hs h
theorem rem_length {S:List Int}(h:Asc S){v:Int}(hv:v∈S):(rem v S).length+1=S.length:=by simpa using (rem_perm h hv).length_eq
theorem rem_srt {L:List Int}{v:Int}(hv:v∈L):rem v (srtN L)=srtN (L.erase v):=by
 have hv':v∈srtN L:=(srt_perm L).mem_iff.2 hv
 refine asc_one (rem_asc (srt_asc L) v) (srt_asc _) ?_
 have h1:=rem_perm (srt_asc L) hv'
 have h2:(v::rem v (srtN L)).Perm (v::srtN (L.erase v)):=h1.trans ((srt_perm L).trans ((List.perm_cons_erase hv).trans ((srt_perm _).symm.cons v)))
 exact(List.perm_cons v).1 h2
theorem rem_ins {S:List Int}(h:Asc S)(v:Int):rem v (ins v S)=S:=by
 have hm:v∈ins v S:=by simp[ins]
 refine asc_one (rem_asc (ins_asc h v) v) h ?_
 exact(List.perm_cons v).1 ((rem_perm (ins_asc h v) hm).trans (ins_perm v S))
def low (v:Int)(S:List Int):Nat:=S.countP (fun x=>decide (x<v))
def eqs (v:Int)(S:List Int):Nat:=S.countP (fun x=>decide (x=v))
theorem low_eq (v:Int)(S:List Int):low v S=cnt (v-1) S:=by
 unfold low cnt
 congr 1
 funext x
 simp only[decide_eq_decide]
 omega
theorem low_eqs (v:Int)(S:List Int):low v S+eqs v S=cnt v S:=by
 induction S with
 | nil=>rfl
 | cons x S ih=>
   unfold low eqs cnt at ih ⊢
   simp only[List.countP_cons]
   rcases Int.lt_trichotomy x v with h | h | h
   ·have h1:¬ x=v:=by omega
    have h2:x<=v:=by omega
    simp[h,h1,h2];omega
   ·subst h
    simp;omega
   ·have h1:¬ x=v:=by omega
    have h2:¬ x<=v:=by omega
    have h3:¬ x<v:=by omega
    simp[h1,h2,h3];omega
theorem at_iff {L:List Int}{i:Nat}{x:Int}(hx:(srtN L)[i]? = some x)(y:Int):low y L<=i/\i<low y L+eqs y L↔y=x:=by
 have h1:=asc_cnt (srt_asc L) (y-1) i x hx
 have h2:=asc_cnt (srt_asc L) y i x hx
 rw[low_eqs,low_eq,<-cnt_perm (srt_perm L),<-cnt_perm (srt_perm L)]
 omega
theorem count_range (S:List Int)(v:Int):(List.range S.length).countP (fun i=>!decide (v<S.getD i 0))=cnt v S:=by
 have h:S=(List.range S.length).map (fun i=>S.getD i 0):=by
  apply List.ext_getElem
  ·simp
  ·intro i h1 h2
   simp[h1]
 unfold cnt
 conv=>rhs;rw[h]
 rw[List.countP_map]
 congr 1
 funext i
 simp only[Function.comp,<-decide_not,decide_eq_decide]
 omega
end Go.Proofs.YtbgomckkockemaaGreatDoor
end
section
namespace Go.Proofs.YtbgomckkockemaaGreatDoor
open Go.RowKit
structure BAt (w:World)(g:Nat)(lv:Value)(S J:List Int):Prop where
 val:lv=.slice (some ⟨g,0,none⟩) S.length (S.length+J.length)
 blk:Blk w g (S++J)
 most:S.length+J.length<=maxLen
theorem BAt.turn {T:List Nat}{w w':World}{g:Nat}{lv:Value}{S J:List Int}(h:BAt w g lv S J)(t:Turn T w w')(hn:g∉T):BAt w' g lv S J:=⟨h.val,h.blk.turn t hn,h.most⟩
theorem BAt.next {w w':World}{g:Nat}{lv:Value}{S J:List Int}(h:BAt w g lv S J)(t:Below w.heap.size w w'):BAt w' g lv S J:=⟨h.val,h.blk.next t,h.most⟩
theorem BAt.cell {w:World}{g:Nat}{lv:Value}{S J:List Int}(h:BAt w g lv S J){i:Nat}{x:Int}(hx:S[i]? = some x):w.cell? ⟨g,i,none⟩=some (.int .i64 x):=by
 have hi:i<S.length:=(List.getElem?_eq_some_iff.1 hx).1
 exact box_cell h.blk.box (by rw[List.getElem?_append_left hi];exact hx)
theorem BAt.rd {w:World}{g:Nat}{lv:Value}{S J:List Int}(h:BAt w g lv S J):Rd w lv S:=
 ⟨_,_,h.val,.inr ⟨g,0,rfl,h.blk.lt,fun i x hx=>by rw[Nat.zero_add];exact h.cell hx⟩⟩
theorem ints_append (A B:List Int):ints (A++B)=ints A++ints B:=by simp[ints]
theorem ints_length (A:List Int):(ints A).length=A.length:=by simp[ints]
theorem ints_get {A:List Int}{j:Nat}{u:Value}(h:(ints A)[j]? = some u):∃ x,A[j]? = some x/\Value.int .i64 x=u:=by simpa[ints] using h
theorem ints_one (A:List Int):∀ u∈ints A,u.oneCell'=true:=by
 intro u hu
 obtain⟨x,_,rfl⟩:∃ x,x∈A/\Value.int .i64 x=u:=by simpa[ints] using hu
 rfl
theorem load_none (w:World)(a:Addr):(loadCells a 0).run Tryz.prog w=.ok #[] w:=run_loadCells_list (P:=Tryz.prog) w a [] (by simp)
theorem zeros_ints (n:Nat):(Builtin.zeroCells (Value.int .i64 0).cells n).toList=ints (List.replicate n 0):=by
 apply List.ext_getElem
 ·simp[Builtin.zeroCells,ints,Value.cells]
 ·intro i h1 h2
  simp[Builtin.zeroCells,ints,Value.cells,Nat.mod_one]
theorem blk_grown (w:World)(A:List Int)(n:Nat):Blk (w.drew.alloc (.cells ((ints A).toArray++Builtin.zeroCells (Value.int .i64 0).cells n) 2)) w.heap.size (A++List.replicate n 0):=by
 show _=some (Obj.cells (ints (A++List.replicate n 0)).toArray 2 (0,0))
 have e:=heap_new w.drew (.cells ((ints A).toArray++Builtin.zeroCells (Value.int .i64 0).cells n) 2)
 rw[show w.drew.heap.size=w.heap.size from rfl] at e
 rw[e,ints_append,<-zeros_ints]
 simp
theorem blk_cells (g:Nat):∀ (A:List Int) (w:World) (l:List Int) (k:Nat),Blk w g l->k+A.length<=l.length->Blk (w.setCells g k (ints A)) g (l.take k++A++l.drop (k+A.length))
 | [],w,l,k,h,_=>by simpa[ints,World.setCells] using h
 | x::A,w,l,k,h,hl=>by
   have:=blk_cells g A (w.setCell ⟨g,k,none⟩ (.int .i64 x)) (l.set k x) (k+1) (h.put k x) (by simp at hl ⊢;omega)
   have e:(l.set k x).take (k+1)++A++(l.set k x).drop (k+1+A.length)=l.take k++(x::A)++l.drop (k+(x::A).length):=by
    simp only[List.length_cons] at hl ⊢
    have e1:(l.set k x).take (k+1)=l.take k++[x]:=by
     rw[List.take_add_one,List.getElem?_set_self (by omega),List.take_set_of_le (Nat.le_refl _)]
     rfl
    have e2:(l.set k x).drop (k+1+A.length)=l.drop (k+(A.length+1)):=by
     rw[List.drop_set_of_lt (by omega)]
     congr 1
     omega
    rw[e1,e2]
    simp
   rw[e] at this
   exact this
theorem turn_cells (g:Nat):∀ (A:List Value) (w:World) (k:Nat),Turn [g] w (w.setCells g k A)
 | [],w,_=>Turn.refl _ w
 | x::A,w,k=>(Turn.set (S:=[g]) w ⟨g,k,none⟩ x (by simp)).trans (turn_cells g A _ (k+1)) (fun i hi=>.inl hi)
def Apd (w:World)(g:Nat)(lv0 lv:Value)(S:List Int)(w':World):Prop:=
 (lv=.slice none 0 0/\S=[]/\w'=w)\/(∃ J,BAt w' g lv S J/\Turn [g] w w'/\lv0≠.slice none 0 0)\/(∃ g' J,BAt w' g' lv S J/\Below w.heap.size w w'/\w.heap.size<=g')
set_option maxRecDepth 20000 in
theorem run_append_b (ty:TypeId)(w:World)(g:Nat)(lv:Value)(S:List Int)(h:(lv=.slice none 0 0/\S=[])\/∃ J,BAt w g lv S J)(vs:Value)(A:List Int)(hA:Rd w vs A)(hl:S.length+A.length<17592186044416):
 ∃ lv' w',(Builtin.append_ #[114,114] ty #[lv,vs]).run Tryz.prog w=.ok lv' w'/\Apd w g lv lv' (S++A) w':=by
 obtain⟨i0,hi,hz0,hz1,hz2⟩:=info_parts info_i64
 have hmax:∀ n old,n<=17592186044416->grownCap w n old 2<=maxLen:=fun n old hn=>grownCap_le_maxLen w n old _ (by simp only[maxLen];omega)
 have hgb:∀ o:Obj,Below w.heap.size w (w.drew.alloc o):=fun o=>((Below.refl _ _).drew).alloc (Nat.le_refl _) _
 obtain⟨a,c,rfl,hA⟩:=hA
 rcases hA with rfl | ⟨ga,offa,rfl,hga,hA⟩
 ·rcases h with ⟨rfl,rfl⟩ | ⟨J,h⟩
  ·refine⟨.slice none 0 0,w,?_,.inl ⟨rfl,rfl,rfl⟩⟩
   have hu:=run_underlying (P:=Tryz.prog) Tryz.underlying114
   cases a<;>simp[Builtin.append_,hu,sizeOf,typeInfo,hi,Builtin.lenOf,Builtin.firstCells,load_none]
  ·refine⟨lv,w,?_,.inr (.inl ⟨J,by rw[List.append_nil];exact h,Turn.refl _ _,by rw[h.val];intro e;cases e⟩)⟩
   have hu:=run_underlying (P:=Tryz.prog) Tryz.underlying114
   rw[h.val]
   cases a<;>simp[Builtin.append_,hu,sizeOf,typeInfo,hi,Builtin.lenOf,Builtin.firstCells,storeCells,load_none]
 ·have hA':∀ j u,(ints A)[j]? = some u->w.cell? ((⟨ga,offa,none⟩:Addr).add j)=some u:=fun j u hu=>by
   obtain⟨x,hx,rfl⟩:∃ x,A[j]? = some x/\Value.int .i64 x=u:=ints_get hu
   have:=hA j x hx
   by_cases hj:j=0
   ·subst hj;simpa[Addr.add] using this
   ·simpa[Addr.add,hj] using this
  rcases h with ⟨rfl,rfl⟩ | ⟨J,h⟩
  ·by_cases hA0:A=[]
   ·subst hA0
    refine⟨.slice none 0 0,w,?_,.inl ⟨rfl,rfl,rfl⟩⟩
    have hu:=run_underlying (P:=Tryz.prog) Tryz.underlying114
    simp[Builtin.append_,hu,sizeOf,typeInfo,hi,Builtin.lenOf,Builtin.firstCells,load_none]
   ·have hpos:=List.length_pos_iff.2 hA0
    simp only[List.length_nil,Nat.zero_add] at hl
    have hr:=run_append_nil (P:=Tryz.prog) w 114 ty 2 i0 (.int .i64 0) Tryz.underlying114 hi hz0 ⟨ga,offa,none⟩ A.length c (ints A) (by rw[hz1,ints_length,Nat.mul_one]) hA' hpos (by omega) (by rw[hz2];omega)
    have hge:=grownCap_ge w A.length 0 2
    have hm:=hmax A.length 0 (by omega)
    refine⟨_,_,hr,.inr (.inr ⟨w.heap.size,List.replicate (grownCap w A.length 0 2-A.length) 0,⟨?_,?_,?_⟩,hgb _,Nat.le_refl _⟩)⟩
    ·simp only[List.nil_append,List.length_replicate]
     congr 1
     omega
    ·simpa using blk_grown w A _
    ·simp only[List.nil_append,List.length_replicate]
     omega
  ·have hm:=h.most
   by_cases hc:A.length<=J.length
   ·have hsp:∀ j,j<A.length->(w.cell? ⟨g,S.length+j,none⟩).isSome=true/\w.frozen? ⟨g,S.length+j,none⟩=false:=fun j hj=>by
     refine⟨?_,box_free h.blk.box (by simp;omega)⟩
     rw[box_cell h.blk.box (List.getElem?_eq_getElem (l:=S++J) (i:=S.length+j) (by simp;omega))]
     rfl
    have hr:=run_append_room_cells (P:=Tryz.prog) w 114 ty 2 i0 Tryz.underlying114 hi g 0 S.length (S.length+J.length) ⟨ga,offa,none⟩ A.length c (ints A) (by rw[hz1,ints_length,Nat.mul_one]) hA' (ints_one _) (by omega) (fun j hj=>by
     rw[ints_length] at hj
     rw[hz1,Nat.mul_one,Nat.zero_add];exact(hsp j hj).1) (fun j hj=>by
     rw[ints_length] at hj
     rw[hz1,Nat.mul_one,Nat.zero_add];exact(hsp j hj).2)
    rw[hz1,Nat.mul_one,Nat.zero_add,<-h.val] at hr
    have hb:=blk_cells g A w (S++J) S.length h.blk (by simp;omega)
    have e:(S++J).take S.length++A++(S++J).drop (S.length+A.length)=S++A++J.drop A.length:=by
     rw[List.take_left,List.drop_length_add_append]
    rw[e] at hb
    refine⟨_,_,hr,.inr (.inl ⟨J.drop A.length,⟨?_,hb,?_⟩,turn_cells g _ w _,by rw[h.val];intro e;cases e⟩)⟩
    ·simp only[List.length_append,List.length_drop]
     congr 1
     omega
    ·simp only[List.length_append,List.length_drop]
     omega
   ·have hr:=run_append_grow (P:=Tryz.prog) w 114 ty 2 i0 (.int .i64 0) Tryz.underlying114 hi hz0 ⟨g,0,none⟩ S.length (S.length+J.length) (ints S) (by rw[hz1,ints_length,Nat.mul_one]) (fun j v hv=>by
     obtain⟨x,hx,rfl⟩:∃ x,S[j]? = some x/\Value.int .i64 x=v:=by simpa[ints] using hv
     have:=h.cell hx
     by_cases hj:j=0
     ·subst hj;simpa[Addr.add] using this
     ·simpa[Addr.add,hj] using this) ⟨ga,offa,none⟩ A.length c (ints A) (by rw[hz1,ints_length,Nat.mul_one]) hA' (by omega) (by omega) (growslice_fits (by omega) (by rw[hz2];omega))
    rw[<-h.val] at hr
    have hge:=grownCap_ge w (S.length+A.length) (S.length+J.length) 2
    have hm2:=hmax (S.length+A.length) (S.length+J.length) (by omega)
    refine⟨_,_,hr,.inr (.inr ⟨w.heap.size,List.replicate (grownCap w (S.length+A.length) (S.length+J.length) 2-(S.length+A.length)) 0,⟨?_,?_,?_⟩,hgb _,Nat.le_refl _⟩)⟩
    ·simp only[List.length_append,List.length_replicate]
     congr 1
     omega
    ·have:=blk_grown w (S++A) (grownCap w (S.length+A.length) (S.length+J.length) 2-(S.length+A.length))
     rw[ints_append] at this
     simpa using this
    ·simp only[List.length_append,List.length_replicate]
     omega
theorem Apd.shape {w w':World}{g:Nat}{lv0 lv:Value}{S:List Int}(h:Apd w g lv0 lv S w'):∃ a c,lv=.slice a S.length c:=by
 rcases h with ⟨rfl,rfl,_⟩ | ⟨J,h,_⟩ | ⟨g',J,h,_⟩
 ·exact⟨none,0,rfl⟩
 ·exact⟨_,_,h.val⟩
 ·exact⟨_,_,h.val⟩
theorem wpList_append_b (w:World){ops:Array Oper}{rest:List Oper}{o:Oper}{a:Act}{Q:Exit->Act->World->Prop}(hgd:o.guard=none)(s x:Operand)
 (hop:o.op=Op.call {callee:=Callee.builtin Builtin.append,args:=#[s,x],argTypes:=#[114,114]}) (g:Nat) (lv:Value) (S:List Int) (hs:a.eval s=lv) (h:(lv=.slice none 0 0/\S=[])\/∃ J,BAt w g lv S J)
 (vs:Value) (A:List Int) (hx:a.eval x=vs) (hA:Rd w vs A) (hl:S.length+A.length<17592186044416)
 (hK:∀ lv' w',Apd w g lv lv' (S++A) w'->wpList Tryz.prog ops Q rest (a.put o.dst lv') w') :
 wpList Tryz.prog ops Q (o::rest) a w:=by
 refine wpList_plain hgd fun K hK'=>?_
 obtain⟨lv',w',hrun,r⟩:=run_append_b o.type w g lv S h vs A hA hl
 unfold Oper.wp
 simp[execOp,hop,resolve,invoke,builtin,hs,hx,hrun,Result.andThen]
 exact hK' _ _ (hK lv' w' r)
def mv (l:List Int)(off so n:Nat):List Int:=l.take off++((l.drop so).take n++l.drop (off+n))
theorem mv_none (l:List Int)(off so:Nat):mv l off so 0=l:=by simp[mv]
theorem turn_row (w:World)(g:Nat)(cs:Array Value):Turn [g] w (w.setRow g cs):=
 ⟨rfl,rfl,rfl,by simp[World.setRow],fun k _ hn=>setRow_other w g k cs (by simpa using hn)⟩
theorem run_copy_b (ty:TypeId)(w:World)(g:Nat)(l:List Int)(h:Blk w g l)(dp sp:Option Addr)(dLen dCap sLen sCap off so n:Nat)(hn:n=Nat.min sLen dLen)(hpos:0<n->dp=some ⟨g,off,none⟩/\sp=some ⟨g,so,none⟩)(hoff:off+n<=l.length)(hso:so+n<=l.length):
 ∃ w',(Builtin.copy_ #[114,114] ty #[.slice dp dLen dCap,.slice sp sLen sCap]).run Tryz.prog w=.ok (goInt n) w'/\Blk w' g (mv l off so n)/\Turn [g] w w':=by
 obtain⟨i0,hi,hz0,hz1,hz2⟩:=info_parts info_i64
 have hsz:(Tryz.prog.info? 2).map (·.size)=some 1:=by rw[hi];simp[hz1]
 by_cases h0:n=0
 ·subst h0
  have hr:=run_copy_none (P:=Tryz.prog) w 114 114 ty 2 dp sp dLen dCap sLen sCap Tryz.underlying114 hsz hn.symm
  exact⟨w,hr,by rw[mv_none];exact h,Turn.refl _ _⟩
 ·obtain⟨rfl,rfl⟩:=hpos (by omega)
  have hlen:(ints ((l.drop so).take n)).length=n:=by rw[ints_length];simp;omega
  have hr:=run_copy_row (P:=Tryz.prog) w 114 114 ty 2 g off dLen dCap ⟨g,so,none⟩ sLen sCap (ints l).toArray 2 (ints ((l.drop so).take n)) Tryz.underlying114 hsz h (by rw[hlen,hn]) (fun j v hv=>by
   obtain⟨x,hx,rfl⟩:∃ x,((l.drop so).take n)[j]? = some x/\Value.int .i64 x=v:=ints_get hv
   have hj:j<((l.drop so).take n).length:=(List.getElem?_eq_some_iff.1 hx).1
   rw[List.getElem?_take_of_lt (by simp at hj;omega),List.getElem?_drop] at hx
   have:=box_cell h.box hx
   by_cases hj:j=0
   ·subst hj;simpa[Addr.add] using this
   ·simpa[Addr.add,hj] using this) (by rw[hlen];simp[ints];omega) (ints_one _)
  rw[hlen] at hr
  refine⟨_,hr,?_,turn_row w g _⟩
  have e:=setRow_heap w g _ ((ints l).toArray.toList.take off++ints ((l.drop so).take n)++(ints l).toArray.toList.drop (off+n)).toArray 2 _ h
  unfold Blk
  rw[e,mv]
  simp[ints,List.map_take,List.map_drop]
theorem step_copy_b {ops:Array Oper}{o:Oper}{a:Act}{w:World}{K:Act->World->Prop}{Q:Exit->Act->World->Prop}{E:Prop}(hgd:o.guard=none)(d s:Operand)
 (ho:o.op=.call {callee:=.builtin .copy,args:=#[d,s],argTypes:=#[114,114]}) (dp sp:Option Addr) (dLen dCap sLen sCap:Nat) (hd:a.eval d=.slice dp dLen dCap) (hs:a.eval s=.slice sp sLen sCap)
 (g:Nat) (l:List Int) (h:Blk w g l) (off so n:Nat) (hn:n=Nat.min sLen dLen) (hpos:0<n->dp=some ⟨g,off,none⟩/\sp=some ⟨g,so,none⟩) (hoff:off+n<=l.length) (hso:so+n<=l.length)
 (hK:∀ w',Hid (Blk w' g (mv l off so n))->Turn [g] w w'->K (a.put o.dst (goInt n)) w') :
 if Region.wanted o (yielded ops a.tmps)=true then Oper.wp Tryz.prog o a w K Q else E:=by
 have hw:Region.wanted o (yielded ops a.tmps)=true:=by simp[Region.wanted,hgd]
 rw[if_pos hw]
 obtain⟨w',hrun,h1,h2⟩:=run_copy_b o.type w g l h dp sp dLen dCap sLen sCap off so n hn hpos hoff hso
 unfold Oper.wp
 simp[execOp,ho,resolve,invoke,builtin,hd,hs,hrun,Result.andThen]
 exact hK w' h1 h2
theorem mv_ins {S J:List Int}{v:Int}:(mv ((S++[v])++J) (cnt v S+1) (cnt v S) (S.length-cnt v S)).set (cnt v S) v=ins v S++J:=by
 have hc:=cnt_le v S
 obtain⟨c,hcc⟩:∃ c,c=cnt v S:=⟨_,rfl⟩
 unfold ins mv
 rw[<-hcc] at hc ⊢
 have e1:((S++[v]++J).drop c).take (S.length-c)=S.drop c:=by
  rw[List.append_assoc,List.drop_append_of_le_length (by omega),List.take_append_of_le_length (by simp)]
  exact List.take_of_length_le (by simp)
 have e2:(S++[v]++J).drop (c+1+(S.length-c))=J:=by
  rw[show c+1+(S.length-c)=(S++[v]).length by simp;omega]
  exact List.drop_left
 have e3:((S++[v]++J).take (c+1)).set c v=S.take c++[v]:=by
  rw[List.take_add_one,List.set_append_right _ _ (by simp;omega)]
  obtain⟨u,hg⟩:∃ u,(S++[v]++J)[c]? = some u:=⟨_,List.getElem?_eq_getElem (by simp;omega)⟩
  have ht:(S++[v]++J).take c=S.take c:=by rw[List.append_assoc,List.take_append_of_le_length hc]
  rw[hg,ht]
  simp[Nat.min_eq_left hc]
 rw[e1,e2,List.set_append_left _ _ (by simp;omega),e3]
 simp
theorem mv_rem {S J:List Int}{v:Int}(hc:0<cnt v S):mv (S++J) (cnt v S-1) (cnt v S) (S.length-cnt v S)=rem v S++(S++J).drop (S.length-1):=by
 have hl:=cnt_le v S
 obtain⟨c,hcc⟩:∃ c,c=cnt v S:=⟨_,rfl⟩
 unfold rem mv
 rw[<-hcc] at hc hl ⊢
 have e1:(S++J).take (c-1)=S.take (c-1):=List.take_append_of_le_length (by omega)
 have e2:((S++J).drop c).take (S.length-c)=S.drop c:=by
  rw[List.drop_append_of_le_length (by omega),List.take_append_of_le_length (by simp)]
  exact List.take_of_length_le (by simp)
 rw[e1,e2,List.append_assoc,show c-1+(S.length-c)=S.length-1 by omega]
end Go.Proofs.YtbgomckkockemaaGreatDoor
end
