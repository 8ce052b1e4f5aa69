import Derived.Test.YtbgomckkockemaaGreatDoorMoM
import Derived.Test.YtbgomckkockemaaGreatDoorBoxes
section
namespace Go.Proofs.YtbgomckkockemaaGreatDoor
open Go.RowKit
theorem run_append_sl (ty:TypeId)(w:World)(g:Nat)(lv:Value)(L:List Int)(h:Sl w g lv L)(hl:L.length<17592186044416)(ad:Addr)(y:Int)(hy:∀ j u,[Value.int .i64 y][j]? = some u->w.cell? (ad.add j)=some u):
 ∃ g' off' cap' w',(Builtin.append_ #[114,114] ty #[lv,.slice (some ad) 1 1]).run Tryz.prog w=.ok (.slice (some ⟨g',off',none⟩) (L.length+1) cap') w' /\
  Sl w' g' (.slice (some ⟨g',off',none⟩) (L.length+1) cap') (L++[y])/\Turn [g] w w'/\(lv=.slice none 0 0->Turn [] w w'/\w.heap.size<=g')/\(g'=g\/w.heap.size<=g'):=by
 obtain⟨i0,hi,hz0,hz1,hz2⟩:=info_parts info_i64
 have hmax:∀ n old,n<=17592186044416->grownCap w n old 2<=maxLen:=fun n old hn=>grownCap_le_maxLen w n old _ (by simp only[maxLen];omega)
 have grown:∀ (olds:List Int) (old:Nat),olds=L->Sl (w.drew.alloc (.cells ((ints olds).toArray++#[.int .i64 y]++Builtin.zeroCells (Value.int .i64 0).cells (grownCap w (L.length+1) old 2-(L.length+1))) 2)) w.heap.size
  (.slice (some ⟨w.heap.size,0,none⟩) (L.length+1) (grownCap w (L.length+1) old 2)) (L++[y]):=by
  rintro olds old rfl
  have hge:=grownCap_ge w (olds.length+1) old 2
  refine .inr ⟨0,grownCap w (olds.length+1) old 2,by simp,slAt_of_box (Box.ofBlock (t:=2) (cur:=(ints olds).toArray++#[.int .i64 y]++Builtin.zeroCells (Value.int .i64 0).cells (grownCap w (olds.length+1) old 2-(olds.length+1))) (heap_new w.drew _)) ?_ ?_ (hmax _ _ (by omega))⟩
  ·simp[ints,size_zeroCells,Value.cells];omega
  ·exact⟨_,by simp[ints];rfl⟩
 have gturn:∀ (S:List Nat) (o:Obj),Turn S w (w.drew.alloc o):=fun _ o=>Turn.of_below (((Below.refl _ _).drew).alloc (Nat.le_refl _) _)
 rcases h with ⟨rfl,rfl,hg⟩ | ⟨off,cap,rfl,h⟩
 ·have hr:=run_append_nil (P:=Tryz.prog) w 114 ty 2 i0 (.int .i64 0) Tryz.underlying114 hi hz0 ad 1 1 [.int .i64 y] (by rw[hz1];rfl) hy (by decide) (by decide) (by rw[hz2];decide)
  exact⟨w.heap.size,0,_,_,hr,by simpa[ints] using grown [] 0 rfl,gturn _ _,fun _=>⟨gturn _ _,Nat.le_refl _⟩,.inr (Nat.le_refl _)⟩
 ·by_cases hc:L.length+1<=cap
  ·have hr:=run_append_room_cells (P:=Tryz.prog) w 114 ty 2 i0 Tryz.underlying114 hi g off L.length cap ad 1 1 [.int .i64 y] (by rw[hz1];rfl) hy (by simp[Value.oneCell']) hc (fun j hj=>by
    have:j=0:=by simpa using hj
    subst this
    rw[hz1,Nat.mul_one,Nat.add_zero];exact h.spare _ (by omega)) (fun j hj=>by
    have:j=0:=by simpa using hj
    subst this
    rw[hz1,Nat.mul_one,Nat.add_zero];exact h.free _ (by omega))
   rw[hz1,Nat.mul_one] at hr
   refine⟨g,off,cap,_,hr,.inr ⟨off,cap,by simp,h.snoc y (by omega)⟩,Turn.set _ _ _ (by simp),fun e=>(by cases e),.inl rfl⟩
  ·have hr:=run_append_grow (P:=Tryz.prog) w 114 ty 2 i0 (.int .i64 0) Tryz.underlying114 hi hz0 ⟨g,off,none⟩ L.length cap (ints L) (by rw[hz1];simp[ints]) (fun j v hv=>by
    obtain⟨x,hx,rfl⟩:∃ x,L[j]? = some x/\Value.int .i64 x=v:=by simpa[ints] using hv
    have:=h.cell j x hx
    by_cases hj:j=0
    ·subst hj;simpa[Addr.add] using this
    ·simpa[Addr.add,hj] using this) ad 1 1 [.int .i64 y] (by rw[hz1];rfl) hy (by have:=h.le;omega) (by omega) (growslice_fits (by have:=h.le;omega) (by rw[hz2];omega))
   exact⟨w.heap.size,0,_,_,hr,by simpa using grown L cap rfl,gturn _ _,fun e=>(by cases e),.inr (Nat.le_refl _)⟩
theorem wpList_append_sl (w:World){ops:Array Oper}{rest:List Oper}{o:Oper}{a:Act}{Q:Exit->Act->World->Prop}(hgd:o.guard=none)(s x:Operand)
 (hop:o.op=Op.call {callee:=Callee.builtin Builtin.append,args:=#[s,x],argTypes:=#[114,114]}) (g:Nat) (lv:Value) (L:List Int) (hs:a.eval s=lv) (h:Sl w g lv L) (hl:L.length<17592186044416)
 (ad:Addr) (y:Int) (hx:a.eval x=.slice (some ad) 1 1) (hy:∀ j u,[Value.int .i64 y][j]? = some u->w.cell? (ad.add j)=some u)
 (hK:∀ g' off' cap' w',Sl w' g' (.slice (some ⟨g',off',none⟩) (L.length+1) cap') (L++[y])->Turn [g] w w'->(lv=.slice none 0 0->Turn [] w w'/\w.heap.size<=g')->(g'=g\/w.heap.size<=g')->wpList Tryz.prog ops Q rest (a.put o.dst (.slice (some ⟨g',off',none⟩) (L.length+1) cap')) w') :
 wpList Tryz.prog ops Q (o::rest) a w:=by
 refine wpList_plain hgd fun K hK'=>?_
 obtain⟨g',off',cap',w',hrun,r1,r2,r3,r4⟩:=run_append_sl o.type w g lv L h hl ad y hy
 unfold Oper.wp
 simp[execOp,hop,resolve,invoke,builtin,hs,hx,hrun,Result.andThen]
 exact hK' _ _ (hK g' off' cap' w' r1 r2 r3 r4)
end Go.Proofs.YtbgomckkockemaaGreatDoor
end
section
namespace Go.Proofs.YtbgomckkockemaaGreatDoor
def win (h:Bool)(a b:Int):Bool:=if h then decide (b<a) else decide (a<b)
theorem win_trans {h:Bool}{a b c:Int}(x:win h a b=true)(y:win h b c=true):win h a c=true:=by
 cases h<;>simp[win] at *<;>omega
theorem win_self (h:Bool)(a:Int):win h a a=false:=by cases h<;>simp[win]
theorem win_asym {h:Bool}{a b:Int}(x:win h a b=true):win h b a=false:=by cases h<;>simp[win] at *<;>omega
theorem win_eq {h:Bool}{a b:Int}(x:win h a b=false)(y:win h b a=false):a=b:=by cases h<;>simp[win] at *<;>omega
theorem win_lose {h:Bool}{a b c:Int}(x:win h a b=true)(y:win h c b=false):win h a c=true:=by cases h<;>simp[win] at *<;>omega
theorem lose_win {h:Bool}{a b c:Int}(x:win h a c=false)(y:win h a b=true):win h b c=false:=by cases h<;>simp[win] at *<;>omega
theorem win_neg (a b:Int):win true (-a) (-b)=win false a b:=by simp[win]
def bump:List (Int×Nat)->List (Int×Nat)
 | []=>[]
 | k::K=>(k.1,k.2+1)::K
def rep (h:Bool):List Int->List (Int×Nat)
 | []=>[]
 | x::T=>if T.all (win h x) then (x,0)::rep h T else bump (rep h T)
def tot:List (Int×Nat)->Nat
 | []=>0
 | k::K=>k.2+1+tot K
theorem tot_append (A B:List (Int×Nat)):tot (A++B)=tot A+tot B:=by
 induction A with
 | nil=>simp[tot]
 | cons k A ih=>simp only[List.cons_append,tot,ih];omega
theorem bump_ne {K:List (Int×Nat)}(h:K≠[]):bump K≠[]:=by
 cases K with
 | nil=>exact absurd rfl h
 | cons k K=>simp[bump]
theorem bump_fst (K:List (Int×Nat)):(bump K).map Prod.fst=K.map Prod.fst:=by
 cases K with
 | nil=>rfl
 | cons k K=>simp[bump]
theorem rep_ne (h:Bool){L:List Int}(hl:L≠[]):rep h L≠[]:=by
 induction L with
 | nil=>exact absurd rfl hl
 | cons x T ih=>
   unfold rep
   split
   ·simp
   ·refine bump_ne (ih ?_)
    intro e
    subst e
    simp_all
def kept (h:Bool)(L:List Int):List Int:=(rep h L).map Prod.fst
theorem kept_cons (h:Bool)(x:Int)(T:List Int):kept h (x::T)=if T.all (win h x) then x::kept h T else kept h T:=by
 unfold kept
 rw[rep]
 split
 ·simp
 ·exact bump_fst _
theorem kept_mem {h:Bool}{L:List Int}{y:Int}(hy:y∈kept h L):y∈L:=by
 induction L with
 | nil=>simp[kept,rep] at hy
 | cons x T ih=>
   rw[kept_cons] at hy
   split at hy
   ·rcases List.mem_cons.1 hy with rfl | e
    ·simp
    ·exact List.mem_cons_of_mem _ (ih e)
   ·exact List.mem_cons_of_mem _ (ih hy)
theorem kept_sorted (h:Bool)(L:List Int):(kept h L).Pairwise (fun a b=>win h a b=true):=by
 induction L with
 | nil=>simp[kept,rep]
 | cons x T ih=>
   rw[kept_cons]
   split
   ·rename_i ha
    exact List.pairwise_cons.2 ⟨fun y hy=>List.all_eq_true.1 ha y (kept_mem hy),ih⟩
   ·exact ih
theorem kept_length (h:Bool)(L:List Int):(kept h L).length<=L.length:=by
 induction L with
 | nil=>simp[kept,rep]
 | cons x T ih=>
   rw[kept_cons]
   split<;>simp<;>omega
theorem kept_ne (h:Bool){L:List Int}(hl:L≠[]):kept h L≠[]:=by
 intro e
 exact rep_ne h hl (by simpa[kept] using e)
theorem tot_rep (h:Bool)(L:List Int):tot (rep h L)=L.length:=by
 induction L with
 | nil=>simp[rep,tot]
 | cons x T ih=>
   rw[rep]
   split
   ·simp[tot,ih];omega
   ·rename_i ha
    have hne:rep h T≠[]:=rep_ne h (by rintro rfl;simp at ha)
    cases hr:rep h T with
    | nil=>exact absurd hr hne
    | cons k K=>rw[hr] at ih;simp[bump,tot] at ih ⊢;omega
theorem kept_best {h:Bool}{L:List Int}{y:Int}{K:List Int}(e:kept h L=y::K):y∈L/\∀ z,z∈L->win h z y=false:=by
 induction L generalizing y K with
 | nil=>simp[kept,rep] at e
 | cons x T ih=>
   rw[kept_cons] at e
   split at e
   ·rename_i ha
    obtain⟨rfl,rfl⟩:=List.cons.inj e
    refine⟨by simp,fun z hz=>?_⟩
    rcases List.mem_cons.1 hz with rfl | hz
    ·exact win_self _ _
    ·exact win_asym (List.all_eq_true.1 ha z hz)
   ·rename_i ha
    obtain⟨h1,h2⟩:=ih e
    refine⟨List.mem_cons_of_mem _ h1,fun z hz=>?_⟩
    rcases List.mem_cons.1 hz with rfl | hz
    ·cases hw:win h z y with
     | false=>rfl
     | true=>exact absurd (List.all_eq_true.2 fun u hu=>win_lose hw (h2 u hu)) ha
    ·exact h2 z hz
theorem best_one {h:Bool}{L:List Int}{x y:Int}(hx:x∈L)(h1:∀ z,z∈L->win h z x=false)(hy:y∈L)(h2:∀ z,z∈L->win h z y=false):x=y:=win_eq (h2 x hx) (h1 y hy)
theorem all_win {h:Bool}{x y:Int}{T K:List Int}(e:kept h T=y::K):T.all (win h x)=win h x y:=by
 obtain⟨h1,h2⟩:=kept_best e
 cases hw:win h x y with
 | true=>exact List.all_eq_true.2 fun u hu=>win_lose hw (h2 u hu)
 | false=>
   cases ha:T.all (win h x) with
   | false=>rfl
   | true=>rw[List.all_eq_true.1 ha y h1] at hw;cases hw
def stay (h:Bool)(v:Int)(K:List (Int×Nat)):List (Int×Nat):=K.filter (fun k=>win h k.1 v)
def gone (h:Bool)(v:Int)(K:List (Int×Nat)):List (Int×Nat):=K.filter (fun k=>!win h k.1 v)
theorem rep_sorted (h:Bool)(L:List Int):(rep h L).Pairwise (fun a b=>win h a.1 b.1=true):=by
 have:=kept_sorted h L
 unfold kept at this
 exact(List.pairwise_map).1 this
theorem none_stays {h:Bool}{v:Int}{K:List (Int×Nat)}(ha:∀ k,k∈K->win h k.1 v=false):stay h v K=[]/\gone h v K=K:=by
 refine⟨List.filter_eq_nil_iff.2 fun k hk=>by simp[ha k hk],List.filter_eq_self.2 fun k hk=>by simp[ha k hk]⟩
theorem all_stay {h:Bool}{v:Int}{K:List (Int×Nat)}(ha:∀ k,k∈K->win h k.1 v=true):stay h v K=K/\gone h v K=[]:=by
 refine⟨List.filter_eq_self.2 fun k hk=>by simp[ha k hk],List.filter_eq_nil_iff.2 fun k hk=>by simp[ha k hk]⟩
theorem rep_put (h:Bool)(L:List Int)(v:Int):rep h (L++[v])=stay h v (rep h L)++[(v,tot (gone h v (rep h L)))]:=by
 induction L with
 | nil=>simp[rep,stay,gone,tot]
 | cons x T ih=>
   have hs:=rep_sorted h T
   have hm:∀ k,k∈rep h T->k.1∈T:=fun k hk=>kept_mem (h:=h) (List.mem_map_of_mem hk)
   rw[List.cons_append,rep,ih,rep]
   have e1:(T++[v]).all (win h x)=(T.all (win h x)&&win h x v):=by simp
   rw[e1]
   cases ha:T.all (win h x) with
   | true=>
     cases hv:win h x v with
     | true=>simp[stay,gone,hv]
     | false=>
       obtain⟨f1,f2⟩:=none_stays (h:=h) (v:=v) (K:=rep h T) fun k hk=>lose_win hv (List.all_eq_true.1 ha _ (hm k hk))
       obtain⟨f3,f4⟩:=none_stays (h:=h) (v:=v) (K:=(x,0)::rep h T) fun k hk=>by
        rcases List.mem_cons.1 hk with rfl | hk
        ·exact hv
        ·exact lose_win hv (List.all_eq_true.1 ha _ (hm k hk))
       simp only[Bool.and_false,Bool.false_eq_true,if_false,if_true,f1,f2,f3,f4,List.nil_append,bump,tot]
       simp;omega
   | false=>
     have hne:rep h T≠[]:=rep_ne h (by rintro rfl;simp at ha)
     cases hr:rep h T with
     | nil=>exact absurd hr hne
     | cons k K=>
       rw[hr] at hs
       obtain⟨hk1,_⟩:=List.pairwise_cons.1 hs
       simp only[Bool.false_and,Bool.false_eq_true,if_false,bump]
       cases hv:win h k.1 v with
       | true=>simp[stay,gone,hv]
       | false=>
         have hK:∀ j,j∈K->win h j.1 v=false:=fun j hj=>lose_win hv (hk1 j hj)
         obtain⟨f1,f2⟩:=none_stays (h:=h) (v:=v) (K:=k::K) fun j hj=>by
          rcases List.mem_cons.1 hj with rfl | hj
          ·exact hv
          ·exact hK j hj
         obtain⟨f3,f4⟩:=none_stays (h:=h) (v:=v) (K:=(k.1,k.2+1)::K) fun j hj=>by
          rcases List.mem_cons.1 hj with rfl | hj
          ·exact hv
          ·exact hK j hj
         simp only[f1,f2,f3,f4,List.nil_append,tot]
         simp;omega
theorem cut_is {h:Bool}{v:Int}{K A B:List (Int×Nat)}(hs:K.Pairwise (fun a b=>win h a.1 b.1=true))(e:K=A++B)(hB:∀ k,k∈B->win h k.1 v=false)(hA:A=[]\/∃ A' k,A=A'++[k]/\win h k.1 v=true):stay h v K=A/\gone h v K=B:=by
 subst e
 have h1:∀ k,k∈A->win h k.1 v=true:=by
  rcases hA with rfl | ⟨A',k,rfl,hk⟩
  ·simp
  ·intro j hj
   rcases List.mem_append.1 hj with hj | hj
   ·have h2:=(List.pairwise_append.1 (List.pairwise_append.1 hs).1).2.2 j hj k (by simp)
    exact win_trans h2 hk
   ·obtain rfl:j=k:=by simpa using hj
    exact hk
 obtain⟨f1,f2⟩:=all_stay h1
 obtain⟨f3,f4⟩:=none_stays hB
 unfold stay gone at *
 rw[List.filter_append,List.filter_append,f1,f2,f3,f4]
 simp
theorem rep_take {h:Bool}{x:Int}{T:List Int}{k:Int×Nat}{K:List (Int×Nat)}(e:rep h (x::T)=k::K):(k.2=0->rep h T=K)/\(∀ a,k.2=a+1->rep h T=(k.1,a)::K):=by
 rw[rep] at e
 split at e
 ·obtain⟨rfl,rfl⟩:=List.cons.inj e
  exact⟨fun _=>rfl,fun a ha=>by simp at ha⟩
 ·cases hr:rep h T with
  | nil=>rw[hr] at e;simp[bump] at e
  | cons j J=>
    rw[hr] at e
    obtain⟨rfl,rfl⟩:=List.cons.inj e
    refine⟨fun h0=>by simp at h0,fun a ha=>?_⟩
    simp at ha
    rw[<-ha]
theorem kept_neg (L:List Int):kept true (L.map (fun x=>-x))=(kept false L).map (fun x=>-x):=by
 induction L with
 | nil=>rfl
 | cons x T ih=>
   rw[List.map_cons,kept_cons,kept_cons]
   have e:(T.map (fun x=>-x)).all (win true (-x))=T.all (win false x):=by
    rw[List.all_map]
    congr 1
    funext y
    exact win_neg x y
   rw[e]
   split
   ·simp[ih]
   ·exact ih
theorem kept_last (h:Bool)(L:List Int)(v:Int):∃ A,kept h (L++[v])=A++[v]:=by
 unfold kept
 rw[rep_put]
 exact⟨_,by simp;rfl⟩
theorem kept_nil (h:Bool):kept h []=[]:=rfl
end Go.Proofs.YtbgomckkockemaaGreatDoor
end
section
namespace Go.Proofs.YtbgomckkockemaaGreatDoor
open Go.RowKit
structure KAt (w:World)(g off cap:Nat)(K:List (Int×Nat)):Prop where
 lt:g<w.heap.size
 num:∀ i k,K[i]? = some k->w.cell? ⟨g,off+i*2,none⟩=some (.int .i64 k.1)
 ahd:∀ i k,K[i]? = some k->w.cell? ⟨g,off+i*2+1,none⟩=some (.int .i64 (k.2:Nat))
 spare:∀ i,i<cap*2->(w.cell? ⟨g,off+i,none⟩).isSome=true
 free:∀ i,i<cap*2->w.frozen? ⟨g,off+i,none⟩=false
 le:K.length<=cap
 most:cap<=maxLen
theorem KAt.turn {S:List Nat}{w w':World}{g off cap:Nat}{K:List (Int×Nat)}(h:KAt w g off cap K)(t:Turn S w w')(hn:g∉S):KAt w' g off cap K:=
 ⟨Nat.lt_of_lt_of_le h.lt t.size,fun i k hk=>(t.cell (p:=⟨g,off+i*2,none⟩) h.lt hn).trans (h.num i k hk),fun i k hk=>(t.cell (p:=⟨g,off+i*2+1,none⟩) h.lt hn).trans (h.ahd i k hk),fun i hi=>by rw[t.cell (p:=⟨g,off+i,none⟩) h.lt hn];exact h.spare i hi,fun i hi=>(t.frozen (p:=⟨g,off+i,none⟩) h.lt hn).trans (h.free i hi),h.le,h.most⟩
theorem KAt.part {w:World}{g off cap:Nat}{K:List (Int×Nat)}(h:KAt w g off cap K)(n:Nat):KAt w g off cap (K.take n):=by
 have hp:∀ i k,(K.take n)[i]? = some k->K[i]? = some k:=fun i k hk=>by
  have hi:i<(K.take n).length:=(List.getElem?_eq_some_iff.1 hk).1
  rw[List.getElem?_take_of_lt (by simp at hi;omega)] at hk
  exact hk
 exact⟨h.lt,fun i k hk=>h.num i k (hp i k hk),fun i k hk=>h.ahd i k (hp i k hk),h.spare,h.free,by have:=h.le;simp;omega,h.most⟩
def KSl (w:World)(b g:Nat)(lv:Value)(K:List (Int×Nat)):Prop:=(lv=.slice none 0 0/\K=[]/\g=b)\/(g≠b/\∃ off cap,lv=.slice (some ⟨g,off,none⟩) K.length cap/\KAt w g off cap K)
theorem KSl.turn {S:List Nat}{w w':World}{b g:Nat}{lv:Value}{K:List (Int×Nat)}(h:KSl w b g lv K)(t:Turn S w w')(hn:g≠b->g∉S):KSl w' b g lv K:=by
 rcases h with h | ⟨hg,off,cap,e,h⟩
 ·exact .inl h
 ·exact .inr ⟨hg,off,cap,e,h.turn t (hn hg)⟩
theorem KSl.shape {w:World}{b g:Nat}{lv:Value}{K:List (Int×Nat)}(h:KSl w b g lv K):∃ a c,lv=.slice a K.length c:=by
 rcases h with ⟨rfl,rfl,_⟩ | ⟨_,off,cap,e,_⟩
 ·exact⟨none,0,rfl⟩
 ·exact⟨_,_,e⟩
structure MoIs (w:World)(b g:Nat)(h:Bool)(lv:Value)(L:List Int):Prop where
 box:Box w b [.bool h,.int .i64 (L.length:Nat),lv]
 sl:KSl w b g lv (rep h L)
def Mo (w:World)(b g:Nat)(h:Bool)(L:List Int):Prop:=∃ lv,MoIs w b g h lv L
theorem Box.three {w:World}{g:Nat}{v0 v1 v2:Value}(h:Box w g [v0,v1,v2]):w.cell? ⟨g,0,none⟩=some v0/\w.cell? ⟨g,1,none⟩=some v1/\w.cell? ⟨g,2,none⟩=some v2/\w.frozen? ⟨g,0,none⟩=false/\w.frozen? ⟨g,1,none⟩=false/\w.frozen? ⟨g,2,none⟩=false:=
 ⟨h.cell 0 _ rfl,h.cell 1 _ rfl,h.cell 2 _ rfl,h.free 0 (by simp),h.free 1 (by simp),h.free 2 (by simp)⟩
theorem Mo.turn {S:List Nat}{w w':World}{b g:Nat}{h:Bool}{L:List Int}(x:Mo w b g h L)(t:Turn S w w')(hb:b∉S)(hg:g∉S):Mo w' b g h L:=by
 obtain⟨lv,x⟩:=x
 exact⟨lv,x.box.turn t hb,x.sl.turn t (fun _=>hg)⟩
theorem Mo.next {w w':World}{b g:Nat}{h:Bool}{L:List Int}(x:Mo w b g h L)(t:Below w.heap.size w w'):Mo w' b g h L:=x.turn (S:=[]) (Turn.of_below t) (by simp) (by simp)
theorem Mo.lt {w:World}{b g:Nat}{h:Bool}{L:List Int}(x:Mo w b g h L):b<w.heap.size:=by obtain⟨lv,x⟩:=x;exact x.box.lt
theorem Mo.glt {w:World}{b g:Nat}{h:Bool}{L:List Int}(x:Mo w b g h L):g<w.heap.size:=by
 obtain⟨lv,x⟩:=x
 rcases x.sl with ⟨_,_,e⟩ | ⟨_,_,_,_,e⟩
 ·rw[e];exact x.box.lt
 ·exact e.lt
theorem Mo.alike {w w':World}{b g:Nat}{h:Bool}{L:List Int}(x:Mo w b g h L)(e:w'.heap=w.heap):Mo w' b g h L:=x.turn (S:=[]) (w':={w' with os:=w.os,tape:=w.tape,output:=w.output}) ⟨rfl,rfl,rfl,Nat.le_of_eq (by rw[e]),fun k _ _=>by rw[e]⟩ (by simp) (by simp) |> fun y=>by
 obtain⟨lv,y⟩:=y
 exact⟨lv,y.box.alike rfl,by
  rcases y.sl with y | ⟨n,o,c,e1,y⟩
  ·exact .inl y
  ·exact .inr ⟨n,o,c,e1,y.lt,y.num,y.ahd,y.spare,y.free,y.le,y.most⟩⟩
theorem Mo.fits {w:World}{b g:Nat}{h:Bool}{L:List Int}(_x:Mo w b g h L):(rep h L).length<=L.length:=by have:=kept_length h L;simpa[kept] using this
theorem mLen (b g:Nat)(h:Bool)(L:List Int)(w:World)(x:Mo w b g h L):
 Calls Tryz.prog 308 #[.pointer (some ⟨b,0,none⟩)] w fun e w'=>e=.returned (.int .i64 (L.length:Nat))/\w=w':=by
 obtain⟨lv,x⟩:=x
 obtain⟨c0,c1,c2,f0,f1,f2⟩:=x.box.three
 have hlt:=x.box.lt
 go_enter Tryz.func308,Tryz.ntmps308
 go_wp2_with fail
 go_ret
 exact⟨rfl,rfl⟩
theorem mLen_nil (w:World):Calls Tryz.prog 308 #[.pointer none] w fun e w'=>e=.returned (.int .i64 0)/\w=w':=by
 go_enter Tryz.func308,Tryz.ntmps308
 go_wp2_with fail
 go_ret
 exact⟨rfl,rfl⟩
theorem mBest_nil (w:World):Calls Tryz.prog 289 #[.pointer none] w fun e w'=>e=.returned (.tuple #[.int .i64 0,.bool false])/\w=w':=by
 go_enter Tryz.func289,Tryz.ntmps289
 go_wp2_with fail
 refine(mLen_nil w).mono ?_
 rintro e w1 ⟨rfl,rfl⟩
 go_wp2_with fail
 go_ret2
 exact⟨rfl,rfl⟩
theorem mBest_no (b g:Nat)(h:Bool)(w:World)(x:Mo w b g h []):Calls Tryz.prog 289 #[.pointer (some ⟨b,0,none⟩)] w fun e w'=>e=.returned (.tuple #[.int .i64 0,.bool false])/\w=w':=by
 have HX:=hid x
 clear x
 go_enter Tryz.func289,Tryz.ntmps289
 go_wp2_with fail
 refine(mLen b g h [] w HX.out).mono ?_
 rintro e w1 ⟨rfl,rfl⟩
 simp only[List.length_nil]
 go_wp2_with fail
 go_ret2
 exact⟨rfl,rfl⟩
theorem mBest_yes (b g:Nat)(h:Bool)(L:List Int)(y:Int)(K:List Int)(w:World)(x:Mo w b g h L)(hy:kept h L=y::K):
 Calls Tryz.prog 289 #[.pointer (some ⟨b,0,none⟩)] w fun e w'=>e=.returned (.tuple #[.int .i64 y,.bool true])/\w=w':=by
 have HX:=hid x
 have hn:¬(L.length:Int)=0:=by
  intro e
  have:L=[]:=List.eq_nil_of_length_eq_zero (by omega)
  rw[this] at hy;cases hy
 obtain⟨k,J,hk⟩:∃ k J,rep h L=k::J:=by
  cases hr:rep h L with
  | nil=>rw[kept,hr] at hy;cases hy
  | cons k J=>exact⟨k,J,rfl⟩
 have hy1:k.1=y:=by rw[kept,hk] at hy;exact(List.cons.inj hy).1
 obtain⟨lv,x⟩:=x
 obtain⟨c0,c1,c2,f0,f1,f2⟩:=x.box.three
 have hlt:=x.box.lt
 rcases x.sl with ⟨_,e,_⟩ | ⟨hgb,off,cap,rfl,hs⟩
 ·rw[hk] at e;cases e
 have d0:=hs.num 0 k (by rw[hk];rfl)
 rw[Nat.zero_mul,Nat.add_zero,hy1] at d0
 have hpos:0<(rep h L).length:=by rw[hk];simp
 obtain⟨n,hnn⟩:∃ n,n=(rep h L).length:=⟨_,rfl⟩
 rw[<-hnn] at c2 hpos
 have hpos':(0:Int)<(n:Int):=by omega
 clear x hs hk hy hy1 hnn
 go_enter Tryz.func289,Tryz.ntmps289
 go_wp2_with fail
 refine(mLen b g h L w HX.out).mono ?_
 rintro e w1 ⟨rfl,rfl⟩
 go_wp2_with fail
 go_ret2
 exact⟨rfl,rfl⟩
theorem mo_new (w:World)(h:Bool)(t:TypeId):Mo (w.alloc (.cells #[.bool h,.int .i64 0,.slice none 0 0] t)) w.heap.size w.heap.size h []:=⟨.slice none 0 0,Box.new w [.bool h,.int .i64 0,.slice none 0 0] t,.inl ⟨rfl,rfl,rfl⟩⟩
theorem mNew (h:Bool)(w:World):Calls Tryz.prog 230 #[.bool h] w fun e w'=>e=.returned (.pointer (some ⟨w.heap.size,0,none⟩))/\Mo w' w.heap.size w.heap.size h []/\Below w.heap.size w w':=by
 go_enter Tryz.func230,Tryz.ntmps230
 go_wp2_with fail
 go_ret
 exact⟨rfl,mo_new w h _,(Below.refl _ _).alloc (Nat.le_refl _) _⟩
end Go.Proofs.YtbgomckkockemaaGreatDoor
end
