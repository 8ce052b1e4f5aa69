import Derived.Test.YtbddbnjhmdbkbaaGreatDoorMbM
import Derived.WalkMore
section
namespace Go.Proofs.YtbddbnjhmdbkbaaGreatDoor
open Go.RowKit
theorem a3U (ty:TypeId)(w:World)(g:Nat)(lv:Value)(L:List Int)(h:Sl w g lv L)(hl:L.length<17592186044416)(ad:Addr)(y:Int)(hy:∀ j u,[Value.int .i64 y][j]? = some u->w.cell? (ad.add j)=some u):
 ∃ g' off' cap' w',(Builtin.append_ #[52,52] ty #[lv,.slice (some ad) 1 1]).run Tryz.prog w=.ok (.slice (some ⟨g',off',none⟩) (L.length+1) cap') w' /\
  Sl w' g' (.slice (some ⟨g',off',none⟩) (L.length+1) cap') (L++[y])/\a0h [g] w w'/\(lv=.slice none 0 0->a0h [] w w'/\w.heap.size<=g')/\(g'=g\/w.heap.size<=g'):=by
 obtain⟨i0,hi,hz0,hz1,hz2⟩:=info_parts a7r
 have hmax:∀ n old,n<=17592186044416->grownCap w n old 2<=maxLen:=fun n old hn=>grownCap_le_maxLen w n old _ (by simp only[maxLen];omega)
 have grown:∀ (olds:List Int) (old:Nat),olds=L->Sl (w.drew.alloc (.cells ((a1C olds).toArray++#[.int .i64 y]++Builtin.zeroCells (Value.int .i64 0).cells (grownCap w (L.length+1) old 2-(L.length+1))) 2)) w.heap.size
  (.slice (some ⟨w.heap.size,0,none⟩) (L.length+1) (grownCap w (L.length+1) old 2)) (L++[y]):=by
  rintro olds old rfl
  have hge:=grownCap_ge w (olds.length+1) old 2
  refine .inr ⟨0,grownCap w (olds.length+1) old 2,by simp,a9o (Box.ofBlock (t:=2) (cur:=(a1C olds).toArray++#[.int .i64 y]++Builtin.zeroCells (Value.int .i64 0).cells (grownCap w (olds.length+1) old 2-(olds.length+1))) (a4Y w.drew _)) ?_ ?_ (hmax _ _ (by omega))⟩
  ·simp[a1C,size_zeroCells,Value.cells];omega
  ·exact⟨_,by simp[a1C];rfl⟩
 have gturn:∀ (S:List Nat) (o:Obj),a0h S w (w.drew.alloc o):=fun _ o=>a0h.of_below (((ZD _ _).drew).alloc (ZB _) _)
 rcases h with ⟨rfl,rfl,hg⟩ | ⟨off,cap,rfl,h⟩
 ·have hr:=run_append_nil (P:=Tryz.prog) w 52 ty 2 i0 (.int .i64 0) Tryz.underlying52 hi hz0 ad 1 1 [.int .i64 y] (by rw[hz1];rfl) hy (by decide) (by decide) (by rw[hz2];decide)
  exact⟨w.heap.size,0,_,_,hr,by simpa[a1C] using grown [] 0 rfl,gturn _ _,fun _=>⟨gturn _ _,ZB _⟩,.inr (ZB _)⟩
 ·by_cases hc:L.length+1<=cap
  ·have hr:=run_append_room_cells (P:=Tryz.prog) w 52 ty 2 i0 Tryz.underlying52 hi g off L.length cap ad 1 1 [.int .i64 y] (by rw[hz1];rfl) hy (by simp[Value.oneCell']) hc (fun j hj=>by
    have:j=0:=by simpa using hj
    subst this
    rw[hz1,Nat.mul_one,Nat.add_zero];exact h.spare _ (by omega)) (fun j hj=>by
    have:j=0:=by simpa using hj
    subst this
    rw[hz1,Nat.mul_one,Nat.add_zero];exact h.free _ (by omega))
   rw[hz1,Nat.mul_one] at hr
   refine⟨g,off,cap,_,hr,.inr ⟨off,cap,by simp,h.snoc y (by omega)⟩,a0h.set _ _ _ (by simp),fun e=>(by cases e),.inl rfl⟩
  ·have hr:=run_append_grow (P:=Tryz.prog) w 52 ty 2 i0 (.int .i64 0) Tryz.underlying52 hi hz0 ⟨g,off,none⟩ L.length cap (a1C L) (by rw[hz1];simp[a1C]) (fun j v hv=>by
    obtain⟨x,hx,rfl⟩:∃ x,L[j]? = some x/\Value.int .i64 x=v:=by simpa[a1C] using hv
    have:=h.cell j x hx
    by_cases hj:j=0
    ·subst hj;simpa[Addr.add] using this
    ·simpa[Addr.add,hj] using this) ad 1 1 [.int .i64 y] (by rw[hz1];rfl) hy (by have:=h.le;omega) (by omega) (growslice_fits (by have:=h.le;omega) (by rw[hz2];omega))
   exact⟨w.heap.size,0,_,_,hr,by simpa using grown L cap rfl,gturn _ _,fun e=>(by cases e),.inr (ZB _)⟩
end Go.Proofs.YtbddbnjhmdbkbaaGreatDoor
end
section
namespace Go.Proofs.YtbddbnjhmdbkbaaGreatDoor
def win (h:Bool)(a b:Int):Bool:=if h then decide (b<a) else decide (a<b)
theorem a7Z {h:Bool}{a b c:Int}(x:win h a b=true)(y:win h b c=true):win h a c=true:=by
 cases h<;>simp[win] at *<;>omega
theorem a6I (h:Bool)(a:Int):win h a a=false:=by cases h<;>simp[win]
theorem b5x {h:Bool}{a b:Int}(x:win h a b=true):win h b a=false:=by cases h<;>simp[win] at *<;>omega
theorem c0U {h:Bool}{a b:Int}(x:win h a b=false)(y:win h b a=false):a=b:=by cases h<;>simp[win] at *<;>omega
theorem b5w {h:Bool}{a b c:Int}(x:win h a b=true)(y:win h c b=false):win h a c=true:=by cases h<;>simp[win] at *<;>omega
theorem a7k {h:Bool}{a b c:Int}(x:win h a c=false)(y:win h a b=true):win h b c=false:=by cases h<;>simp[win] at *<;>omega
def b7q:List (Int×Nat)->List (Int×Nat)
 | []=>[]
 | k::K=>(k.1,k.2+1)::K
def rep (h:Bool):List Int->List (Int×Nat)
 | []=>[]
 | x::T=>if T.all (win h x) then (x,0)::rep h T else b7q (rep h T)
def tot:List (Int×Nat)->Nat
 | []=>0
 | k::K=>k.2+1+tot K
theorem b1p (A B:List (Int×Nat)):tot (A++B)=tot A+tot B:=by
 induction A with
 | nil=>simp[tot]
 | cons k A ih=>simp only[List.cons_append,tot,ih];omega
theorem c0s {K:List (Int×Nat)}(h:K≠[]):b7q K≠[]:=by
 cases K with
 | nil=>exact absurd rfl h
 | cons k K=>simp[b7q]
theorem b7p (K:List (Int×Nat)):(b7q K).map Prod.fst=K.map Prod.fst:=by
 cases K with
 | nil=>rfl
 | cons k K=>simp[b7q]
theorem a8r (h:Bool){L:List Int}(hl:L≠[]):rep h L≠[]:=by
 induction L with
 | nil=>exact absurd rfl hl
 | cons x T ih=>
   unfold rep
   split
   ·simp
   ·refine c0s (ih ?_)
    intro e
    subst e
    simp_all
def kept (h:Bool)(L:List Int):List Int:=(rep h L).map Prod.fst
theorem a4a (h:Bool)(x:Int)(T:List Int):kept h (x::T)=if T.all (win h x) then x::kept h T else kept h T:=by
 unfold kept
 rw[rep]
 split
 ·simp
 ·exact b7p _
theorem a7q {h:Bool}{L:List Int}{y:Int}(hy:y∈kept h L):y∈L:=by
 induction L with
 | nil=>simp[kept,rep] at hy
 | cons x T ih=>
   rw[a4a] at hy
   split at hy
   ·rcases List.mem_cons.1 hy with rfl | e
    ·simp
    ·exact List.mem_cons_of_mem _ (ih e)
   ·exact List.mem_cons_of_mem _ (ih hy)
theorem a9P (h:Bool)(L:List Int):(kept h L).Pairwise (fun a b=>win h a b=true):=by
 induction L with
 | nil=>simp[kept,rep]
 | cons x T ih=>
   rw[a4a]
   split
   ·rename_i ha
    exact List.pairwise_cons.2 ⟨fun y hy=>List.all_eq_true.1 ha y (a7q hy),ih⟩
   ·exact ih
theorem a3H (h:Bool)(L:List Int):(kept h L).length<=L.length:=by
 induction L with
 | nil=>simp[kept,rep]
 | cons x T ih=>
   rw[a4a]
   split<;>simp<;>omega
theorem b3Q (h:Bool){L:List Int}(hl:L≠[]):kept h L≠[]:=by
 intro e
 exact a8r h hl (by simpa[kept] using e)
theorem b2O (h:Bool)(L:List Int):tot (rep h L)=L.length:=by
 induction L with
 | nil=>simp[rep,tot]
 | cons x T ih=>
   rw[rep]
   split
   ·simp[tot,ih];omega
   ·rename_i ha
    have hne:rep h T≠[]:=a8r h (by rintro rfl;simp at ha)
    cases hr:rep h T with
    | nil=>exact absurd hr hne
    | cons k K=>rw[hr] at ih;simp[b7q,tot] at ih ⊢;omega
theorem b3R {h:Bool}{L:List Int}{y:Int}{K:List Int}(e:kept h L=y::K):y∈L/\∀ z,z∈L->win h z y=false:=by
 induction L generalizing y K with
 | nil=>simp[kept,rep] at e
 | cons x T ih=>
   rw[a4a] at e
   split at e
   ·rename_i ha
    obtain⟨rfl,rfl⟩:=List.cons.inj e
    refine⟨by simp,fun z hz=>?_⟩
    rcases List.mem_cons.1 hz with rfl | hz
    ·exact a6I _ _
    ·exact b5x (List.all_eq_true.1 ha z hz)
   ·rename_i ha
    obtain⟨h1,h2⟩:=ih e
    refine⟨List.mem_cons_of_mem _ h1,fun z hz=>?_⟩
    rcases List.mem_cons.1 hz with rfl | hz
    ·cases hw:win h z y with
     | false=>rfl
     | true=>exact absurd (List.all_eq_true.2 fun u hu=>b5w hw (h2 u hu)) ha
    ·exact h2 z hz
theorem b7t {h:Bool}{L:List Int}{x y:Int}(hx:x∈L)(h1:∀ z,z∈L->win h z x=false)(hy:y∈L)(h2:∀ z,z∈L->win h z y=false):x=y:=c0U (h2 x hx) (h1 y hy)
def b2A (h:Bool)(v:Int)(K:List (Int×Nat)):List (Int×Nat):=K.filter (fun k=>win h k.1 v)
def gone (h:Bool)(v:Int)(K:List (Int×Nat)):List (Int×Nat):=K.filter (fun k=>!win h k.1 v)
theorem a6g (h:Bool)(L:List Int):(rep h L).Pairwise (fun a b=>win h a.1 b.1=true):=by
 have:=a9P h L
 unfold kept at this
 exact(List.pairwise_map).1 this
theorem a2D {h:Bool}{v:Int}{K:List (Int×Nat)}(ha:∀ k,k∈K->win h k.1 v=false):b2A h v K=[]/\gone h v K=K:=by
 refine⟨List.filter_eq_nil_iff.2 fun k hk=>by simp[ha k hk],List.filter_eq_self.2 fun k hk=>by simp[ha k hk]⟩
theorem b7w {h:Bool}{v:Int}{K:List (Int×Nat)}(ha:∀ k,k∈K->win h k.1 v=true):b2A h v K=K/\gone h v K=[]:=by
 refine⟨List.filter_eq_self.2 fun k hk=>by simp[ha k hk],List.filter_eq_nil_iff.2 fun k hk=>by simp[ha k hk]⟩
theorem b8T (h:Bool)(L:List Int)(v:Int):rep h (L++[v])=b2A h v (rep h L)++[(v,tot (gone h v (rep h L)))]:=by
 induction L with
 | nil=>simp[rep,b2A,gone,tot]
 | cons x T ih=>
   have hs:=a6g h T
   have hm:∀ k,k∈rep h T->k.1∈T:=fun k hk=>a7q (h:=h) (List.mem_map_of_mem hk)
   rw[List.cons_append,rep,ih,rep]
   have e1:(T++[v]).all (win h x)=(T.all (win h x)&&win h x v):=by simp
   rw[e1]
   cases ha:T.all (win h x) with
   | true=>
     cases hv:win h x v with
     | true=>simp[b2A,gone,hv]
     | false=>
       obtain⟨f1,f2⟩:=a2D (h:=h) (v:=v) (K:=rep h T) fun k hk=>a7k hv (List.all_eq_true.1 ha _ (hm k hk))
       obtain⟨f3,f4⟩:=a2D (h:=h) (v:=v) (K:=(x,0)::rep h T) fun k hk=>by
        rcases List.mem_cons.1 hk with rfl | hk
        ·exact hv
        ·exact a7k hv (List.all_eq_true.1 ha _ (hm k hk))
       simp only[Bool.and_false,Bool.false_eq_true,if_false,if_true,f1,f2,f3,f4,List.nil_append,b7q,tot]
       simp;omega
   | false=>
     have hne:rep h T≠[]:=a8r h (by rintro rfl;simp at ha)
     cases hr:rep h T with
     | nil=>exact absurd hr hne
     | cons k K=>
       rw[hr] at hs
       obtain⟨hk1,_⟩:=List.pairwise_cons.1 hs
       simp only[Bool.false_and,Bool.false_eq_true,if_false,b7q]
       cases hv:win h k.1 v with
       | true=>simp[b2A,gone,hv]
       | false=>
         have hK:∀ j,j∈K->win h j.1 v=false:=fun j hj=>a7k hv (hk1 j hj)
         obtain⟨f1,f2⟩:=a2D (h:=h) (v:=v) (K:=k::K) fun j hj=>by
          rcases List.mem_cons.1 hj with rfl | hj
          ·exact hv
          ·exact hK j hj
         obtain⟨f3,f4⟩:=a2D (h:=h) (v:=v) (K:=(k.1,k.2+1)::K) fun j hj=>by
          rcases List.mem_cons.1 hj with rfl | hj
          ·exact hv
          ·exact hK j hj
         simp only[f1,f2,f3,f4,List.nil_append,tot]
         simp;omega
theorem c1J {h:Bool}{v:Int}{K A B:List (Int×Nat)}(hs:K.Pairwise (fun a b=>win h a.1 b.1=true))(e:K=A++B)(hB:∀ k,k∈B->win h k.1 v=false)(hA:A=[]\/∃ A' k,A=A'++[k]/\win h k.1 v=true):b2A h v K=A/\gone h v K=B:=by
 subst e
 have h1:∀ k,k∈A->win h k.1 v=true:=by
  rcases hA with rfl | ⟨A',k,rfl,hk⟩
  ·simp
  ·intro j hj
   rcases List.mem_append.1 hj with hj | hj
   ·have h2:=(List.pairwise_append.1 (List.pairwise_append.1 hs).1).2.2 j hj k (by simp)
    exact a7Z h2 hk
   ·obtain rfl:j=k:=by simpa using hj
    exact hk
 obtain⟨f1,f2⟩:=b7w h1
 obtain⟨f3,f4⟩:=a2D hB
 unfold b2A gone at *
 rw[List.filter_append,List.filter_append,f1,f2,f3,f4]
 simp
theorem b5T {h:Bool}{x:Int}{T:List Int}{k:Int×Nat}{K:List (Int×Nat)}(e:rep h (x::T)=k::K):(k.2=0->rep h T=K)/\(∀ a,k.2=a+1->rep h T=(k.1,a)::K):=by
 rw[rep] at e
 split at e
 ·obtain⟨rfl,rfl⟩:=List.cons.inj e
  exact⟨fun _=>rfl,fun a ha=>by simp at ha⟩
 ·cases hr:rep h T with
  | nil=>rw[hr] at e;simp[b7q] at e
  | cons j J=>
    rw[hr] at e
    obtain⟨rfl,rfl⟩:=List.cons.inj e
    refine⟨fun h0=>by simp at h0,fun a ha=>?_⟩
    simp at ha
    rw[<-ha]
end Go.Proofs.YtbddbnjhmdbkbaaGreatDoor
end
section
namespace Go.Proofs.YtbddbnjhmdbkbaaGreatDoor
open Go.RowKit
structure KAt (w:World)(g off cap:Nat)(K:List (Int×Nat)):Prop where
 lt:g<w.heap.size
 num:∀ i k,K[i]? = some k->w.cell? ⟨g,off+i*2,none⟩=some (.int .i64 k.1)
 ahd:∀ i k,K[i]? = some k->w.cell? ⟨g,off+i*2+1,none⟩=some (.int .i64 (k.2:Nat))
 spare:∀ i,i<cap*2->(w.cell? ⟨g,off+i,none⟩).isSome=true
 free:∀ i,i<cap*2->w.frozen? ⟨g,off+i,none⟩=false
 le:K.length<=cap
 most:cap<=maxLen
theorem KAt.turn {S:List Nat}{w w':World}{g off cap:Nat}{K:List (Int×Nat)}(h:KAt w g off cap K)(t:a0h S w w')(hn:g∉S):KAt w' g off cap K:=
 ⟨ZA h.lt t.size,fun i k hk=>(t.cell (p:=⟨g,off+i*2,none⟩) h.lt hn).trans (h.num i k hk),fun i k hk=>(t.cell (p:=⟨g,off+i*2+1,none⟩) h.lt hn).trans (h.ahd i k hk),fun i hi=>by rw[t.cell (p:=⟨g,off+i,none⟩) h.lt hn];exact h.spare i hi,fun i hi=>(t.frozen (p:=⟨g,off+i,none⟩) h.lt hn).trans (h.free i hi),h.le,h.most⟩
theorem KAt.part {w:World}{g off cap:Nat}{K:List (Int×Nat)}(h:KAt w g off cap K)(n:Nat):KAt w g off cap (K.take n):=by
 have hp:∀ i k,(K.take n)[i]? = some k->K[i]? = some k:=fun i k hk=>by
  have hi:i<(K.take n).length:=(List.getElem?_eq_some_iff.1 hk).1
  rw[List.getElem?_take_of_lt (by simp at hi;omega)] at hk
  exact hk
 exact⟨h.lt,fun i k hk=>h.num i k (hp i k hk),fun i k hk=>h.ahd i k (hp i k hk),h.spare,h.free,by have:=h.le;simp;omega,h.most⟩
def KSl (w:World)(b g:Nat)(lv:Value)(K:List (Int×Nat)):Prop:=(lv=.slice none 0 0/\K=[]/\g=b)\/(g≠b/\∃ off cap,lv=.slice (some ⟨g,off,none⟩) K.length cap/\KAt w g off cap K)
theorem KSl.turn {S:List Nat}{w w':World}{b g:Nat}{lv:Value}{K:List (Int×Nat)}(h:KSl w b g lv K)(t:a0h S w w')(hn:g≠b->g∉S):KSl w' b g lv K:=by
 rcases h with h | ⟨hg,off,cap,e,h⟩
 ·exact .inl h
 ·exact .inr ⟨hg,off,cap,e,h.turn t (hn hg)⟩
theorem KSl.shape {w:World}{b g:Nat}{lv:Value}{K:List (Int×Nat)}(h:KSl w b g lv K):∃ a c,lv=.slice a K.length c:=by
 rcases h with ⟨rfl,rfl,_⟩ | ⟨_,off,cap,e,_⟩
 ·exact⟨none,0,rfl⟩
 ·exact⟨_,_,e⟩
structure c4d (w:World)(b g:Nat)(h:Bool)(lv:Value)(L:List Int):Prop where
 box:Box w b [.bool h,.int .i64 (L.length:Nat),lv]
 sl:KSl w b g lv (rep h L)
def Mo (w:World)(b g:Nat)(h:Bool)(L:List Int):Prop:=∃ lv,c4d w b g h lv L
theorem Box.three {w:World}{g:Nat}{v0 v1 v2:Value}(h:Box w g [v0,v1,v2]):w.cell? ⟨g,0,none⟩=some v0/\w.cell? ⟨g,1,none⟩=some v1/\w.cell? ⟨g,2,none⟩=some v2/\w.frozen? ⟨g,0,none⟩=false/\w.frozen? ⟨g,1,none⟩=false/\w.frozen? ⟨g,2,none⟩=false:=
 ⟨h.cell 0 _ rfl,h.cell 1 _ rfl,h.cell 2 _ rfl,h.free 0 (by simp),h.free 1 (by simp),h.free 2 (by simp)⟩
theorem Mo.turn {S:List Nat}{w w':World}{b g:Nat}{h:Bool}{L:List Int}(x:Mo w b g h L)(t:a0h S w w')(hb:b∉S)(hg:g∉S):Mo w' b g h L:=by
 obtain⟨lv,x⟩:=x
 exact⟨lv,x.box.turn t hb,x.sl.turn t (fun _=>hg)⟩
theorem Mo.next {w w':World}{b g:Nat}{h:Bool}{L:List Int}(x:Mo w b g h L)(t:Below w.heap.size w w'):Mo w' b g h L:=x.turn (S:=[]) (a0h.of_below t) (by simp) (by simp)
theorem Mo.lt {w:World}{b g:Nat}{h:Bool}{L:List Int}(x:Mo w b g h L):b<w.heap.size:=by obtain⟨lv,x⟩:=x;exact x.box.lt
theorem Mo.glt {w:World}{b g:Nat}{h:Bool}{L:List Int}(x:Mo w b g h L):g<w.heap.size:=by
 obtain⟨lv,x⟩:=x
 rcases x.sl with ⟨_,_,e⟩ | ⟨_,_,_,_,e⟩
 ·rw[e];exact x.box.lt
 ·exact e.lt
theorem Mo.fits {w:World}{b g:Nat}{h:Bool}{L:List Int}(_x:Mo w b g h L):(rep h L).length<=L.length:=by have:=a3H h L;simpa[kept] using this
theorem c3a (b g:Nat)(h:Bool)(L:List Int)(w:World)(x:Mo w b g h L):
 Calls Tryz.prog 272 #[.pointer (some ⟨b,0,none⟩)] w fun e w'=>e=.returned (.int .i64 (L.length:Nat))/\w=w':=by
 obtain⟨lv,x⟩:=x
 obtain⟨c0,c1,c2,f0,f1,f2⟩:=x.box.three
 have hlt:=x.box.lt
 go_enter Tryz.func272,Tryz.ntmps272
 go_wp2_with fail
 go_ret
 exact⟨rfl,rfl⟩
theorem b6u (w:World):Calls Tryz.prog 272 #[.pointer none] w fun e w'=>e=.returned (.int .i64 0)/\w=w':=by
 go_enter Tryz.func272,Tryz.ntmps272
 go_wp2_with fail
 go_ret
 exact⟨rfl,rfl⟩
theorem b6v (b g:Nat)(h:Bool)(w:World)(x:Mo w b g h []):Calls Tryz.prog 248 #[.pointer (some ⟨b,0,none⟩)] w fun e w'=>e=.returned (.tuple #[.int .i64 0,.bool false])/\w=w':=by
 have HX:=hid x
 clear x
 go_enter Tryz.func248,Tryz.ntmps248
 go_wp2_with fail
 refine(c3a b g h [] w HX.out).mono ?_
 rintro e w1 ⟨rfl,rfl⟩
 simp only[List.length_nil]
 go_wp2_with fail
 go_ret2
 exact⟨rfl,rfl⟩
theorem b3J (b g:Nat)(h:Bool)(L:List Int)(y:Int)(K:List Int)(w:World)(x:Mo w b g h L)(hy:kept h L=y::K):
 Calls Tryz.prog 248 #[.pointer (some ⟨b,0,none⟩)] w fun e w'=>e=.returned (.tuple #[.int .i64 y,.bool true])/\w=w':=by
 have HX:=hid x
 have hn:¬(L.length:Int)=0:=by
  intro e
  have:L=[]:=List.eq_nil_of_length_eq_zero (by omega)
  rw[this] at hy;cases hy
 obtain⟨k,J,hk⟩:∃ k J,rep h L=k::J:=by
  cases hr:rep h L with
  | nil=>rw[kept,hr] at hy;cases hy
  | cons k J=>exact⟨k,J,rfl⟩
 have hy1:k.1=y:=by rw[kept,hk] at hy;exact(List.cons.inj hy).1
 obtain⟨lv,x⟩:=x
 obtain⟨c0,c1,c2,f0,f1,f2⟩:=x.box.three
 have hlt:=x.box.lt
 rcases x.sl with ⟨_,e,_⟩ | ⟨hgb,off,cap,rfl,hs⟩
 ·rw[hk] at e;cases e
 have d0:=hs.num 0 k (by rw[hk];rfl)
 rw[Nat.zero_mul,Nat.add_zero,hy1] at d0
 have hpos:0<(rep h L).length:=by rw[hk];simp
 obtain⟨n,hnn⟩:∃ n,n=(rep h L).length:=⟨_,rfl⟩
 rw[<-hnn] at c2 hpos
 have hpos':(0:Int)<(n:Int):=by omega
 clear x hs hk hy hy1 hnn
 go_enter Tryz.func248,Tryz.ntmps248
 go_wp2_with fail
 refine(c3a b g h L w HX.out).mono ?_
 rintro e w1 ⟨rfl,rfl⟩
 go_wp2_with fail
 go_ret2
 exact⟨rfl,rfl⟩
theorem c1q (w:World)(h:Bool)(t:TypeId):Mo (w.alloc (.cells #[.bool h,.int .i64 0,.slice none 0 0] t)) w.heap.size w.heap.size h []:=⟨.slice none 0 0,Box.new w [.bool h,.int .i64 0,.slice none 0 0] t,.inl ⟨rfl,rfl,rfl⟩⟩
theorem c3V (h:Bool)(w:World):Calls Tryz.prog 181 #[.bool h] w fun e w'=>e=.returned (.pointer (some ⟨w.heap.size,0,none⟩))/\Mo w' w.heap.size w.heap.size h []/\Below w.heap.size w w':=by
 go_enter Tryz.func181,Tryz.ntmps181
 go_wp2_with fail
 go_ret
 exact⟨rfl,c1q w h _,(ZD _ _).alloc (ZB _) _⟩
def a9e (w:World)(b g:Nat)(h:Bool)(L:List Int)(v:Int)(e:Ending)(w':World):Prop:=
 e=.returned (.int .i64 (tot (gone h v (rep h L)):Nat))/\∃ lv,Box w' b [.bool h,.int .i64 (L.length:Nat),lv]/\KSl w' b g lv (b2A h v (rep h L))/\a0h [b] w w'
theorem b5E {K:List (Int×Nat)}{j:Nat}{k:Int×Nat}(hk:K[j]? = some k):tot (K.drop j)=tot (K.drop (j+1))+(k.2+1):=by
 obtain⟨hj,e⟩:=List.getElem?_eq_some_iff.1 hk
 rw[List.drop_eq_getElem_cons hj,tot,e];omega
theorem a5i (K:List (Int×Nat))(j:Nat):tot (K.drop j)<=tot K:=by
 have:=b1p (K.take j) (K.drop j)
 rw[List.take_append_drop] at this
 omega
theorem a4w {w w':World}{b g off cap e:Nat}{h:Bool}{L:List Int}{v:Int}{K:List (Int×Nat)}(hK:K=rep h L)(hx:c4d w b g h (.slice (some ⟨g,off,none⟩) K.length cap) L)(hgb:g≠b)(hs:KAt w g off cap K)(he:e<=K.length)
 (hB:∀ k,k∈K.drop e->win h k.1 v=false) (hA:e=0\/∃ k,K[e-1]? = some k/\win h k.1 v=true) (t:Below w.heap.size w w') :
 a9e w b g h L v (.returned (.int .i64 (tot (K.drop e):Nat))) (w'.setCell ⟨b,2,none⟩ (.slice (some ⟨g,off,none⟩) e cap)):=by
 subst hK
 obtain⟨f1,f2⟩:=c1J (A:=(rep h L).take e) (B:=(rep h L).drop e) (a6g h L) (List.take_append_drop _ _).symm hB (by
  rcases hA with rfl | ⟨k,hk,hw⟩
  ·exact .inl (by simp)
  ·by_cases h0:e=0
   ·exact .inl (by simp[h0])
   ·refine .inr ⟨(rep h L).take (e-1),k,?_,hw⟩
    have:e=e-1+1:=by omega
    rw[this,List.take_add_one,Nat.add_sub_cancel,hk]
    rfl)
 refine⟨by rw[f2],.slice (some ⟨g,off,none⟩) e cap,?_,?_,?_⟩
 ·have:=(hx.box.next t).set 2 (by simp) (.slice (some ⟨g,off,none⟩) e cap)
  simpa using this
 ·rw[f1]
  refine .inr ⟨hgb,off,cap,by simp;omega,?_⟩
  exact((hs.turn (S:=[]) (a0h.of_below t) (by simp)).turn (S:=[b]) (a0h.set _ _ _ (by simp)) (by simpa using hgb)).part e
 ·exact(a0h.of_below t).andSet _ _ (.inl (by simp))
theorem a9e.alloc {w w':World}{b g:Nat}{h:Bool}{L:List Int}{v:Int}{e:Ending}(x:a9e w b g h L v e w')(o:Obj):a9e w b g h L v e (w'.alloc o):=by
 obtain⟨he,lv,h1,h2,h3⟩:=x
 have hb:Below w'.heap.size w' (w'.alloc o):=(ZD _ _).alloc (ZB _) _
 exact⟨he,lv,h1.next hb,h2.turn (S:=[]) (a0h.of_below hb) (by simp),h3.andBelow hb⟩
set_option maxRecDepth 20000 in
set_option maxHeartbeats 1000000 in
theorem b9x (b g:Nat)(h:Bool)(L:List Int)(v:Int)(w:World)(x:Mo w b g h L)(hl:L.length<8796093022208):
 Calls Tryz.prog 276 #[.pointer (some ⟨b,0,none⟩),.int .i64 v] w (a9e w b g h L v):=by
 obtain⟨lv,x⟩:=x
 obtain⟨c0,c1,c2,f0,f1,f2⟩:=x.box.three
 have hlt:=x.box.lt
 rcases x.sl with ⟨rfl,e,rfl⟩ | ⟨hgb,off,cap,rfl,hs⟩
 ·have hL:L=[]:=by
   cases L with
   | nil=>rfl
   | cons y T=>exact absurd e (a8r h (by simp))
  subst hL
  have HX:=hid x
  clear x
  go_enter Tryz.func276,Tryz.ntmps276
  go_wp2_with fail
  go_step3
  go_wp2_with fail
  go_step3
  go_wp2_with fail
  go_loopw [5,6] (fun p q wr=>p=.int .i64 0/\q=.int .i64 0/\w=wr) (fun _ _ _=>0)
  case atStart=>exact⟨rfl,rfl,rfl⟩
  case round=>
   obtain⟨rfl,rfl,rfl⟩:=hrel
   go_wp2_with fail
   try rw[Exit.noGoto_ret]
   go_ret
   refine⟨rfl,.slice none 0 0,?_,.inl ⟨rfl,rfl,rfl⟩,a0h.set _ _ _ (by simp)⟩
   simpa using HX.out.box.set 2 (by simp) (.slice none 0 0)
 ·obtain⟨K,hK⟩:∃ K,K=rep h L:=⟨_,rfl⟩
  rw[<-hK] at c2 hs x
  have htot:tot K=L.length:=by rw[hK];exact b2O h L
  have hkl:K.length<8796093022208:=by have:=a3H h L;rw[kept,<-hK] at this;simp at this;omega
  have HX:=hid x
  have HS:=hid hs
  have HK:=hid hK
  have hcap:=hs.le
  clear x hs hK
  go_enter Tryz.func276,Tryz.ntmps276
  go_wp2_with fail
  go_step3
  go_wp2_with fail
  go_step3
  go_wp2_with fail
  go_loopw [5,6] (fun p q wr=>∃ e:Nat,p=.int .i64 (tot (K.drop e):Nat)/\q=.int .i64 (e:Nat)/\e<=K.length/\(∀ k,k∈K.drop e->win h k.1 v=false)/\Below w.heap.size w wr) (fun _ q _=>(intOf q).toNat)
  case atStart=>exact⟨K.length,by simp[tot],rfl,ZB _,by simp,ZD _ _⟩
  case round=>
   obtain⟨e,rfl,rfl,he,hB,t⟩:=hrel
   have d0:=(t.cell (p:=⟨b,0,none⟩) hlt).trans c0
   have d2:=(t.cell (p:=⟨b,2,none⟩) hlt).trans c2
   have g2:=(t.frozen (p:=⟨b,2,none⟩) hlt).trans f2
   obtain⟨n,hn⟩:∃ n,n=K.length:=⟨_,rfl⟩
   have HN:=hid hn
   have HT:=hid t
   have HB:=hid hB
   rw[<-hn] at d2 hcap he hkl
   have hdl:=a5i K e
   clear hn t hB c0 c1 c2 f0 f1 f2
   by_cases h0:e=0
   ·subst h0
    clear hdl
    simp only[List.drop_zero]
    go_wp2_with fail
    try rw[Exit.noGoto_ret]
    go_ret
    exact a4w (e:=0) HK.out HX.out hgb HS.out (by omega) HB.out (.inl rfl) HT.out
   ·obtain⟨j,rfl⟩:∃ j,e=j+1:=⟨e-1,by omega⟩
    obtain⟨k,hk⟩:∃ k,K[j]? = some k:=⟨_,List.getElem?_eq_getElem (by have:=HN.out;omega)⟩
    have m0:=(HT.out.cell (p:=⟨g,off+j*2,none⟩) HS.out.lt).trans (HS.out.num j k hk)
    have m1:=(HT.out.cell (p:=⟨g,off+j*2+1,none⟩) HS.out.lt).trans (HS.out.ahd j k hk)
    have htd:=b5E hk
    have hdj:=a5i K j
    obtain⟨s,hs⟩:∃ s,s=tot (K.drop (j+1)):=⟨_,rfl⟩
    rw[<-hs] at htd
    simp only[<-hs]
    obtain⟨y,a⟩:=k
    simp only at m0 m1 htd
    have hjn:j<n:=by omega
    have hsa:s+a<8796093022208:=by omega
    have HTD:=hid htd
    have HKJ:=hid hk
    clear htd hk hdj hdl h0
    have hblt:b<wr.heap.size:=ZA hlt HT.out.size
    have HSS:=hid hs
    clear hs
    cases h
    ·by_cases hw:y<v
     ·have HW:=hid hw
      go_wp2_with fail
      try rw[Exit.noGoto_ret]
      go_ret
      rw[HSS.out]
      exact(a4w (e:=j+1) HK.out HX.out hgb HS.out (by have:=HN.out;omega) HB.out (.inr ⟨(y,a),by simpa using HKJ.out,by simpa[win] using HW.out⟩) HT.out).alloc _
     ·have HW:=hid hw
      go_wp2_with fail
      go_roundw
      case rel=>exact⟨j,by rw[HTD.out];simp,by simp,by have:=HN.out;omega,fun k hk=>by
       rw[List.drop_eq_getElem_cons (by have:=HN.out;omega)] at hk
       rcases List.mem_cons.1 hk with rfl | hk
       ·have e:=(List.getElem?_eq_some_iff.1 HKJ.out).2
        rw[e]
        have:=HW.out
        simp[win];omega
       ·exact HB.out k hk,HT.out.trans ((ZD _ _).alloc HT.out.size _)⟩
      case measure=>simp[intOf]
    ·by_cases hw:v<y
     ·have HW:=hid hw
      go_wp2_with fail
      try rw[Exit.noGoto_ret]
      go_ret
      rw[HSS.out]
      exact(a4w (e:=j+1) HK.out HX.out hgb HS.out (by have:=HN.out;omega) HB.out (.inr ⟨(y,a),by simpa using HKJ.out,by simpa[win] using HW.out⟩) HT.out).alloc _
     ·have HW:=hid hw
      go_wp2_with fail
      go_roundw
      case rel=>exact⟨j,by rw[HTD.out];simp,by simp,by have:=HN.out;omega,fun k hk=>by
       rw[List.drop_eq_getElem_cons (by have:=HN.out;omega)] at hk
       rcases List.mem_cons.1 hk with rfl | hk
       ·have e:=(List.getElem?_eq_some_iff.1 HKJ.out).2
        rw[e]
        have:=HW.out
        simp[win];omega
       ·exact HB.out k hk,HT.out.trans ((ZD _ _).alloc HT.out.size _)⟩
      case measure=>simp[intOf]
def kv:List (Int×Nat)->List Value
 | []=>[]
 | k::K=>.int .i64 k.1::.int .i64 (k.2:Nat)::kv K
theorem a3Z (K:List (Int×Nat)):(kv K).length=K.length*2:=by
 induction K with
 | nil=>rfl
 | cons k K ih=>simp only[kv,List.length_cons,ih];omega
theorem b3P (A B:List (Int×Nat)):kv (A++B)=kv A++kv B:=by
 induction A with
 | nil=>rfl
 | cons k A ih=>simp only[List.cons_append,kv,ih]
theorem b8a {K:List (Int×Nat)}{i:Nat}{k:Int×Nat}(h:K[i]? = some k):(kv K)[i*2]? = some (.int .i64 k.1):=by
 induction K generalizing i with
 | nil=>simp at h
 | cons j K ih=>
   cases i with
   | zero=>simp at h;subst h;simp[kv]
   | succ i=>simp at h;rw[show (i+1)*2=i*2+1+1 by omega];simpa[kv] using ih h
theorem b8b {K:List (Int×Nat)}{i:Nat}{k:Int×Nat}(h:K[i]? = some k):(kv K)[i*2+1]? = some (.int .i64 (k.2:Nat)):=by
 induction K generalizing i with
 | nil=>simp at h
 | cons j K ih=>
   cases i with
   | zero=>simp at h;subst h;simp[kv]
   | succ i=>simp at h;rw[show (i+1)*2+1=i*2+1+1+1 by omega];simpa[kv] using ih h
theorem b2b {w:World}{g cap:Nat}{K:List (Int×Nat)}{vs:List Value}(h:Box w g vs)(hv:vs.length=cap*2)(hp:kv K <+: vs)(hm:cap<=maxLen):KAt w g 0 cap K:=by
 obtain⟨r,rfl⟩:=hp
 have hlen:=a3Z K
 refine⟨h.lt,fun i k hk=>?_,fun i k hk=>?_,fun i hi=>?_,fun i hi=>?_,by simp at hv;omega,hm⟩
 ·have hi:i<K.length:=(List.getElem?_eq_some_iff.1 hk).1
  rw[Nat.zero_add]
  exact h.cell _ _ (by rw[List.getElem?_append_left (by omega)];exact b8a hk)
 ·have hi:i<K.length:=(List.getElem?_eq_some_iff.1 hk).1
  rw[Nat.zero_add]
  exact h.cell _ _ (by rw[List.getElem?_append_left (by omega)];exact b8b hk)
 ·rw[Nat.zero_add,h.cell i _ (List.getElem?_eq_getElem (by omega))];rfl
 ·rw[Nat.zero_add];exact h.free i (by omega)
theorem KAt.cells {w:World}{g off cap:Nat}{K:List (Int×Nat)}(h:KAt w g off cap K):∀ j v,(kv K)[j]? = some v->w.cell? ⟨g,off+j,none⟩=some v:=by
 intro j v hv
 have hj:j<K.length*2:=by have:=(List.getElem?_eq_some_iff.1 hv).1;rwa [a3Z] at this
 obtain⟨k,hk⟩:∃ k,K[j/2]? = some k:=⟨_,List.getElem?_eq_getElem (by omega)⟩
 rcases Nat.mod_two_eq_zero_or_one j with e | e
 ·have e2:j=j/2*2:=by omega
  have h1:=b8a hk
  have h2:=h.num _ _ hk
  rw[<-e2] at h1 h2
  rw[hv] at h1
  cases h1
  exact h2
 ·have e2:j=j/2*2+1:=by omega
  have h1:=b8b hk
  have h2:=h.ahd _ _ hk
  rw[<-e2] at h1
  rw[Nat.add_assoc,<-e2] at h2
  rw[hv] at h1
  cases h1
  exact h2
theorem KAt.snoc {w:World}{g off cap:Nat}{K:List (Int×Nat)}(h:KAt w g off cap K)(y:Int)(a:Nat)(hl:K.length<cap):
 KAt ((w.setCell ⟨g,off+K.length*2,none⟩ (.int .i64 y)).setCell ⟨g,off+K.length*2+1,none⟩ (.int .i64 (a:Nat))) g off cap (K++[(y,a)]):=by
 obtain⟨u0,hu0⟩:=Option.isSome_iff_exists.1 (h.spare (K.length*2) (by omega))
 obtain⟨u1,hu1⟩:=Option.isSome_iff_exists.1 (h.spare (K.length*2+1) (by omega))
 rw[<-Nat.add_assoc] at hu1
 have hother:∀ j,j≠K.length*2->j≠K.length*2+1->((w.setCell ⟨g,off+K.length*2,none⟩ (.int .i64 y)).setCell ⟨g,off+K.length*2+1,none⟩ (.int .i64 (a:Nat))).cell? ⟨g,off+j,none⟩=w.cell? ⟨g,off+j,none⟩:=fun j h1 h2=>by
  rw[World.cell?_setCell_other _ _ _ _ (by intro e;have:=congrArg Addr.off e;simp at this;omega),World.cell?_setCell_other _ _ _ _ (by intro e;have:=congrArg Addr.off e;simp at this;omega)]
 have hn0:((w.setCell ⟨g,off+K.length*2,none⟩ (.int .i64 y)).setCell ⟨g,off+K.length*2+1,none⟩ (.int .i64 (a:Nat))).cell? ⟨g,off+K.length*2,none⟩=some (.int .i64 y):=by
  rw[World.cell?_setCell_other _ _ _ _ (by intro e;have:=congrArg Addr.off e;simp at this)]
  exact World.cell?_setCell_same _ _ _ hu0
 have hn1:((w.setCell ⟨g,off+K.length*2,none⟩ (.int .i64 y)).setCell ⟨g,off+K.length*2+1,none⟩ (.int .i64 (a:Nat))).cell? ⟨g,off+K.length*2+1,none⟩=some (.int .i64 (a:Nat)):=
  World.cell?_setCell_same _ _ _ (u:=u1) (by rw[World.cell?_setCell_other _ _ _ _ (by intro e;have:=congrArg Addr.off e;simp at this)];exact hu1)
 have hcase:∀ i k,(K++[(y,a)])[i]? = some k->K[i]? = some k/\i<K.length\/i=K.length/\k=(y,a):=fun i k hk=>by
  by_cases hi:i<K.length
  ·rw[List.getElem?_append_left hi] at hk;exact .inl ⟨hk,hi⟩
  ·have:i<(K++[(y,a)]).length:=(List.getElem?_eq_some_iff.1 hk).1
   simp at this
   obtain rfl:i=K.length:=by omega
   simp at hk
   exact .inr ⟨rfl,hk.symm⟩
 refine⟨by simpa[World.setCell] using h.lt,fun i k hk=>?_,fun i k hk=>?_,fun i hi=>?_,fun i hi=>(World.frozen?_setCell _ _ _ _).trans ((World.frozen?_setCell _ _ _ _).trans (h.free i hi)),by simp;omega,h.most⟩
 ·rcases hcase i k hk with ⟨hk,hi⟩ | ⟨rfl,rfl⟩
  ·rw[hother _ (by omega) (by omega)];exact h.num i k hk
  ·exact hn0
 ·rcases hcase i k hk with ⟨hk,hi⟩ | ⟨rfl,rfl⟩
  ·have e:=hother (i*2+1) (by omega) (by omega)
   simp only[<-Nat.add_assoc] at e
   rw[e];exact h.ahd i k hk
  ·exact hn1
 ·by_cases h1:i=K.length*2
  ·subst h1;rw[hn0];rfl
  ·by_cases h2:i=K.length*2+1
   ·subst h2;rw[<-Nat.add_assoc,hn1];rfl
   ·rw[hother i h1 h2];exact h.spare i hi
theorem b3V:(Tryz.prog.info? 294).map (fun i=>(i.zero,i.size,i.bytes))=some (some (.agg #[.int .i64 0,.int .i64 0]),2,16):=by kernel_rfl
def c3R (w:World)(b g g':Nat)(lv:Value)(K:List (Int×Nat))(w':World):Prop:=KSl w' b g' lv K/\(∃ S,a0h S w w'/\b∉S/\∀ i,i∈S->i=g)/\(g'=g\/w.heap.size<=g')
theorem a8j (ty:TypeId)(w:World)(b g:Nat)(lv:Value)(K:List (Int×Nat))(hb:b<w.heap.size)(h:KSl w b g lv K)(hl:K.length<8796093022208)(ad:Addr)(y:Int)(a:Nat)(hy:∀ j u,[Value.int .i64 y,.int .i64 (a:Nat)][j]? = some u->w.cell? (ad.add j)=some u):
 ∃ g' off' cap' w',(Builtin.append_ #[260,260] ty #[lv,.slice (some ad) 1 1]).run Tryz.prog w=.ok (.slice (some ⟨g',off',none⟩) (K.length+1) cap') w' /\
  c3R w b g g' (.slice (some ⟨g',off',none⟩) (K.length+1) cap') (K++[(y,a)]) w':=by
 obtain⟨i0,hi,hz0,hz1,hz2⟩:=info_parts b3V
 have hmax:∀ n old,n<=8796093022208->grownCap w n old 294<=maxLen:=fun n old hn=>grownCap_le_maxLen w n old _ (by simp only[maxLen];omega)
 have grown:∀ (old:Nat),KAt (w.drew.alloc (.cells ((kv K).toArray++#[.int .i64 y,.int .i64 (a:Nat)]++Builtin.zeroCells (Value.agg #[.int .i64 0,.int .i64 0]).cells (grownCap w (K.length+1) old 294-(K.length+1))) 294)) w.heap.size 0 (grownCap w (K.length+1) old 294) (K++[(y,a)]):=by
  intro old
  have hge:=grownCap_ge w (K.length+1) old 294
  refine b2b (Box.ofBlock (t:=294) (cur:=(kv K).toArray++#[.int .i64 y,.int .i64 (a:Nat)]++Builtin.zeroCells (Value.agg #[.int .i64 0,.int .i64 0]).cells (grownCap w (K.length+1) old 294-(K.length+1))) (a4Y w.drew _)) ?_ ?_ (hmax _ _ (by omega))
  ·simp[a3Z,size_zeroCells,Value.cells];omega
  ·exact⟨_,by simp[b3P,kv];rfl⟩
 have gturn:∀ (S:List Nat) (o:Obj),a0h S w (w.drew.alloc o):=fun _ o=>a0h.of_below (((ZD _ _).drew).alloc (ZB _) _)
 rcases h with ⟨rfl,rfl,hg⟩ | ⟨hgb,off,cap,rfl,h⟩
 ·have hr:=run_append_nil (P:=Tryz.prog) w 260 ty 294 i0 (.agg #[.int .i64 0,.int .i64 0]) Tryz.underlying260 hi hz0 ad 1 1 [.int .i64 y,.int .i64 (a:Nat)] (by rw[hz1];rfl) hy (by decide) (by decide) (by rw[hz2];decide)
  exact⟨w.heap.size,0,_,_,hr,.inr ⟨by omega,0,_,rfl,by simpa[kv] using grown 0⟩,⟨[],gturn _ _,by simp,by simp⟩,.inr (ZB _)⟩
 ·by_cases hc:K.length+1<=cap
  ·have hr:=run_append_room_cells (P:=Tryz.prog) w 260 ty 294 i0 Tryz.underlying260 hi g off K.length cap ad 1 1 [.int .i64 y,.int .i64 (a:Nat)] (by rw[hz1];rfl) hy (by simp[Value.oneCell']) hc (fun j hj=>by
    have:j<2:=by simpa using hj
    rw[hz1,Nat.add_assoc];exact h.spare _ (by omega)) (fun j hj=>by
    have:j<2:=by simpa using hj
    rw[hz1,Nat.add_assoc];exact h.free _ (by omega))
   rw[hz1] at hr
   refine⟨g,off,cap,_,hr,.inr ⟨hgb,off,cap,by simp,?_⟩,⟨[g],?_,by simpa using Ne.symm hgb,by simp⟩,.inl rfl⟩
   ·simpa[World.setCells] using h.snoc y a (by omega)
   ·simpa[World.setCells] using (a0h.set (S:=[g]) w ⟨g,off+K.length*2,none⟩ (.int .i64 y) (by simp)).andSet ⟨g,off+K.length*2+1,none⟩ (.int .i64 (a:Nat)) (.inl (by simp))
  ·have hr:=run_append_grow (P:=Tryz.prog) w 260 ty 294 i0 (.agg #[.int .i64 0,.int .i64 0]) Tryz.underlying260 hi hz0 ⟨g,off,none⟩ K.length cap (kv K) (by rw[hz1];exact a3Z K) (fun j v hv=>by
    have:=h.cells j v hv
    by_cases hj:j=0
    ·subst hj;simpa[Addr.add] using this
    ·simpa[Addr.add,hj] using this) ad 1 1 [.int .i64 y,.int .i64 (a:Nat)] (by rw[hz1];rfl) hy (by have:=h.le;omega) (by omega) (growslice_fits (by have:=h.le;omega) (by rw[hz2];omega))
   exact⟨w.heap.size,0,_,_,hr,.inr ⟨by omega,0,_,by simp,grown cap⟩,⟨[],gturn _ _,by simp,by simp⟩,.inr (ZB _)⟩
theorem a5d (w:World){ops:Array Oper}{rest:List Oper}{o:Oper}{a:Act}{Q:Exit->Act->World->Prop}(hgd:o.guard=none)(s x:Operand)
 (hop:o.op=Op.call {callee:=Callee.builtin Builtin.append,args:=#[s,x],argTypes:=#[260,260]}) (b g:Nat) (lv:Value) (K:List (Int×Nat)) (hs:a.eval s=lv) (hb:b<w.heap.size) (h:KSl w b g lv K) (hl:K.length<8796093022208)
 (ad:Addr) (y:Int) (c:Nat) (hx:a.eval x=.slice (some ad) 1 1) (hy:∀ j u,[Value.int .i64 y,.int .i64 (c:Nat)][j]? = some u->w.cell? (ad.add j)=some u)
 (hK:∀ g' off' cap' w',c3R w b g g' (.slice (some ⟨g',off',none⟩) (K.length+1) cap') (K++[(y,c)]) w'->wpList Tryz.prog ops Q rest (a.put o.dst (.slice (some ⟨g',off',none⟩) (K.length+1) cap')) w') :
 wpList Tryz.prog ops Q (o::rest) a w:=by
 refine wpList_plain hgd fun K hK'=>?_
 obtain⟨g',off',cap',w',hrun,r⟩:=a8j o.type w b g lv _ hb h hl ad y c hy
 unfold Oper.wp
 simp[execOp,hop,resolve,invoke,builtin,hs,hx,hrun,Result.andThen]
 exact hK' _ _ (hK g' off' cap' w' r)
theorem a0h.widen {S S':List Nat}{w w':World}(h:a0h S w w')(hs:∀ i,i∈S->i∈S'):a0h S' w w':=⟨h.os,h.tape,h.output,h.size,fun k hk hn=>h.block k hk (fun hm=>hn (hs k hm))⟩
theorem a4I (w:World)(x y:Value)(t:TypeId):∀ j u,[x,y][j]? = some u->(w.alloc (.cells #[x,y] t)).cell? ((⟨w.heap.size,0,none⟩:Addr).add j)=some u:=by
 intro j u hu
 have hj:j<2:=(List.getElem?_eq_some_iff.1 hu).1
 have:=(Box.new w [x,y] t).cell j u hu
 obtain rfl | rfl:j=0\/j=1:=by omega
 ·simpa[Addr.add] using this
 ·simpa[Addr.add] using this
def c4b (w:World)(b g:Nat)(h:Bool)(L:List Int)(e:Ending)(w':World):Prop:=e=.returned (.tuple #[])/\∃ g',Mo w' b g' h L/\a0h [b,g] w w'/\(g'=g\/w.heap.size<=g')
theorem b6j {w w1 w2 wb:World}{b g g' off' cap' fg:Nat}{h:Bool}{L:List Int}{v:Int}{lv:Value}{K:List (Int×Nat)}(hK:K=b2A h v (rep h L))(hfg:fg=tot (gone h v (rep h L)))(hbox:Box w1 b [.bool h,.int .i64 (L.length:Nat),lv])(t1:a0h [b] w w1)(t0:Below w1.heap.size w1 wb)
 (hg:c3R wb b g g' (.slice (some ⟨g',off',none⟩) (K.length+1) cap') (K++[(v,fg)]) w2) :
 Box w2 b [.bool h,.int .i64 (L.length:Nat),lv]/\c4b w b g h (L++[v]) (.returned (.tuple #[])) ((w2.setCell ⟨b,2,none⟩ (.slice (some ⟨g',off',none⟩) (K.length+1) cap')).setCell ⟨b,1,none⟩ (.int .i64 ((L.length:Int)+1))):=by
 obtain⟨hs,⟨S,ht,hbS,hS⟩,ho⟩:=hg
 have hb1:=hbox.lt
 have sz1:=t1.size
 have sz0:=t0.size
 have hbox2:=(hbox.next t0).turn ht hbS
 have hgb:g'≠b:=by
  rcases hs with ⟨e,_⟩ | ⟨e,_⟩
  ·cases e
  ·exact e
 refine⟨hbox2,rfl,g',⟨.slice (some ⟨g',off',none⟩) (K.length+1) cap',?_,?_⟩,?_,?_⟩
 ·have:=(hbox2.set 2 (by simp) (.slice (some ⟨g',off',none⟩) (K.length+1) cap')).set 1 (by simp) (.int .i64 ((L.length:Int)+1))
  simpa using this
 ·rw[b8T,<-hK,<-hfg]
  exact(hs.turn (S:=[b]) (a0h.set _ _ _ (by simp)) (by simp)).turn (S:=[b]) (a0h.set _ _ _ (by simp)) (by simp)
 ·refine(((((t1.widen (by simp)).andBelow t0).trans ht ?_)).andSet _ _ (.inl (by simp))).andSet _ _ (.inl (by simp))
  intro i hi
  have:=hS i hi
  subst this
  exact .inl (by simp)
 ·rcases ho with e | e
  ·exact .inl e
  ·exact .inr (by omega)
set_option maxRecDepth 20000 in
set_option maxHeartbeats 1000000 in
theorem c4w (b g:Nat)(h:Bool)(L:List Int)(v:Int)(w:World)(x:Mo w b g h L)(hl:L.length<8796093022208):
 Calls Tryz.prog 243 #[.pointer (some ⟨b,0,none⟩),.int .i64 v] w (c4b w b g h (L++[v])):=by
 have hlt:=x.lt
 have HX:=hid x
 clear x
 go_enter Tryz.func243,Tryz.ntmps243
 go_wp2_with fail
 refine ZE (b9x b g h L v w HX.out hl) ?_
 rintro e w1 ⟨rfl,lv,hbox,hsl,ht⟩
 obtain⟨a,c,hlv⟩:=hsl.shape
 subst hlv
 obtain⟨c0,c1,c2,f0,f1,f2⟩:=hbox.three
 have hlt1:=hbox.lt
 obtain⟨fg,hfg⟩:∃ fg,fg=tot (gone h v (rep h L)):=⟨_,rfl⟩
 obtain⟨K,hK⟩:∃ K,K=b2A h v (rep h L):=⟨_,rfl⟩
 have hKl:K.length<8796093022208:=by
  have h1:=a3H h L
  have h2:(b2A h v (rep h L)).length<=(rep h L).length:=List.length_filter_le _ _
  rw[hK];simp[kept] at h1;omega
 rw[<-hfg]
 rw[<-hK] at c2 hbox hsl
 have HB:=hid hbox
 have HSL:=hid hsl
 have HT:=hid ht
 have HFG:=hid hfg
 have HK:=hid hK
 have hwn:=a4I w1 (.int .i64 v) (.int .i64 (fg:Nat)) 294
 have HN:=hid hwn
 clear hbox hsl ht hfg hK hwn
 go_wp2_with (at_builtin;refine a5d _ rfl _ _ rfl b g (.slice a K.length c) K rfl (by simpa using (Nat.lt_succ_of_lt hlt1)) (HSL.out.turn (S:=[]) (a0h.of_below ((ZD _ _).alloc (ZB _) _)) (by simp)) hKl ⟨w1.heap.size,0,none⟩ v fg rfl HN.out ?_;intro g' off' cap' w2 hg;obtain⟨hbx,hend⟩:=b6j HK.out HFG.out HB.out HT.out ((ZD _ _).alloc (ZB _) _) hg;obtain⟨d0,d1,d2,e0,e1,e2⟩:=hbx.three;have hlt2:=hbx.lt;have HE:=hid hend;clear hend hg hbx)
 go_end0
 exact HE.out
theorem a7i (v:Int)(w:World):Calls Tryz.prog 243 #[.pointer none,.int .i64 v] w fun e w'=>e=.returned (.tuple #[])/\w=w':=by
 go_enter Tryz.func243,Tryz.ntmps243
 go_wp2_with fail
 exact bodyPost_ret (results_none rfl _ _ _) rfl ⟨rfl,rfl⟩
theorem a5s (w:World):Calls Tryz.prog 240 #[.pointer none] w fun e w'=>e=.returned (.bool false)/\w=w':=by
 go_enter Tryz.func240,Tryz.ntmps240
 go_wp2_with fail
 refine(b6u w).mono ?_
 rintro e w1 ⟨rfl,rfl⟩
 go_wp2_with fail
 go_ret
 exact⟨rfl,rfl⟩
def c3N (w:World)(b g:Nat)(h:Bool)(L:List Int)(ok:Bool)(e:Ending)(w':World):Prop:=e=.returned (.bool ok)/\Mo w' b g h L/\a0h [b,g] w w'
theorem c3b (b g off cap n:Nat)(v0 v1:Value)(w:World)(hbox:Box w b [v0,v1,.slice (some ⟨g,off,none⟩) n cap])(hn:1<=n)(hc:n<=cap)(hm:n<8796093022209):
 Calls Tryz.prog 273 #[.pointer (some ⟨b,0,none⟩)] w fun e w'=>e=.returned (.tuple #[])/\∃ off' cap',w'=(w.setCell ⟨b,2,none⟩ (.slice (some ⟨g,off',none⟩) (n-1) cap')).drew/\n-1<=cap'/\cap'+1<=cap/\(cap'=0\/off'=off+2):=by
 obtain⟨c0,c1,c2,f0,f1,f2⟩:=hbox.three
 have hlt:=hbox.lt
 clear hbox
 go_enter Tryz.func273,Tryz.ntmps273
 go_wp2_with fail
 obtain⟨m,hmm⟩:∃ m:Nat,m=min cap (2*n):=⟨_,rfl⟩
 have hif:(if 2*(n:Int)<(cap:Int) then 2*(n:Int) else (cap:Int))=(m:Nat):=by split<;>omega
 have HIF:=hid hif
 clear hif
 have h1:1<=m:=by omega
 have h2:n<=m:=by omega
 have h3:m<=cap:=by omega
 have HM:=hid hmm
 clear hmm
 go_region
 go_end0
 rw[HIF.out,Int.toNat_natCast]
 by_cases e:m=1
 ·rw[if_pos e]
  exact⟨rfl,off,m-1,rfl,by omega,by omega,.inl (by omega)⟩
 ·rw[if_neg e]
  exact⟨rfl,off+2,m-1,rfl,by omega,by omega,.inr rfl⟩
theorem KAt.rest {w w':World}{b g off off' cap cap':Nat}{k:Int×Nat}{K:List (Int×Nat)}{v:Value}(h:KAt w g off cap (k::K))(hgb:g≠b)(hw:w'=(w.setCell ⟨b,2,none⟩ v).drew)(h1:K.length<=cap')(h2:cap'+1<=cap)(h3:cap'=0\/off'=off+2):KAt w' g off' cap' K:=by
 have t:a0h [b] w w':=by subst hw;exact⟨rfl,rfl,rfl,by simp[World.setCell],fun i _ hn=>Below.heap_setCell _ _ _ _ (by simpa[eq_comm] using hn)⟩
 have hh:=h.turn t (by simpa using hgb)
 have hm:=h.most
 by_cases e:cap'=0
 ·have:K=[]:=List.eq_nil_of_length_eq_zero (by omega)
  subst this
  subst e
  exact⟨hh.lt,by simp,by simp,by simp,by simp,by simp,by simp⟩
 ·have e2:off'=off+2:=by rcases h3 with h3 | h3;(· exact absurd h3 e);(· exact h3)
  subst e2
  refine⟨hh.lt,fun i j hj=>?_,fun i j hj=>?_,fun i hi=>?_,fun i hi=>?_,h1,by omega⟩
  ·have:=hh.num (i+1) j (by simpa using hj)
   rwa [show off+(i+1)*2=off+2+i*2 by omega] at this
  ·have:=hh.ahd (i+1) j (by simpa using hj)
   rwa [show off+(i+1)*2+1=off+2+i*2+1 by omega] at this
  ·have:=hh.spare (i+2) (by omega)
   rwa [show off+(i+2)=off+2+i by omega] at this
  ·have:=hh.free (i+2) (by omega)
   rwa [show off+(i+2)=off+2+i by omega] at this
theorem KAt.less {w:World}{g off cap a:Nat}{k:Int×Nat}{K:List (Int×Nat)}(h:KAt w g off cap (k::K)):KAt (w.setCell ⟨g,off+1,none⟩ (.int .i64 (a:Nat))) g off cap ((k.1,a)::K):=by
 have hl:=h.le
 simp at hl
 obtain⟨u,hu⟩:=Option.isSome_iff_exists.1 (h.spare 1 (by omega))
 refine⟨by simpa[World.setCell] using h.lt,fun i j hj=>?_,fun i j hj=>?_,fun i hi=>?_,fun i hi=>(World.frozen?_setCell _ _ _ _).trans (h.free i hi),by simpa using hl,h.most⟩
 ·rw[World.cell?_setCell_other _ _ _ _ (by intro e;have:=congrArg Addr.off e;simp at this;omega)]
  cases i with
  | zero=>simp at hj;subst hj;exact h.num 0 k rfl
  | succ i=>exact h.num (i+1) j (by simpa using hj)
 ·cases i with
  | zero=>simp at hj;subst hj;simpa using World.cell?_setCell_same _ _ _ hu
  | succ i=>
    rw[World.cell?_setCell_other _ _ _ _ (by intro e;have:=congrArg Addr.off e;simp at this)]
    exact h.ahd (i+1) j (by simpa using hj)
 ·by_cases e:i=1
  ·subst e;rw[World.cell?_setCell_same _ _ _ hu];rfl
  ·rw[World.cell?_setCell_other _ _ _ _ (by intro e';have:=congrArg Addr.off e';simp at this;omega)]
   exact h.spare i hi
set_option maxRecDepth 20000 in
theorem b3H (b g:Nat)(h:Bool)(x0:Int)(L:List Int)(w:World)(x:Mo w b g h (x0::L))(hl:(x0::L).length<=8796093022208):Calls Tryz.prog 240 #[.pointer (some ⟨b,0,none⟩)] w (c3N w b g h L true):=by
 have HX:=hid x
 obtain⟨lv,x⟩:=x
 obtain⟨c0,c1,c2,f0,f1,f2⟩:=x.box.three
 have hlt:=x.box.lt
 obtain⟨k,K,hk⟩:∃ k K,rep h (x0::L)=k::K:=by
  cases hr:rep h (x0::L) with
  | nil=>exact absurd hr (a8r h (by simp))
  | cons k K=>exact⟨k,K,rfl⟩
 rcases x.sl with ⟨_,e,_⟩ | ⟨hgb,off,cap,rfl,hs⟩
 ·rw[hk] at e;cases e
 rw[hk] at hs c2
 obtain⟨r0,r1⟩:=b5T hk
 have hbox:=x.box
 rw[hk] at hbox
 have hll:(k::K).length<8796093022209:=by have:=HX.out.fits;rw[hk] at this;omega
 obtain⟨n,hn⟩:∃ n,n=(k::K).length:=⟨_,rfl⟩
 obtain⟨N,hN⟩:∃ N,N=(x0::L).length:=⟨_,rfl⟩
 rw[<-hn] at c2 hbox hll
 rw[<-hN] at c1 hbox hl
 have hn1:1<=n:=by rw[hn];simp
 have hn1':(0:Int)<(n:Int):=by omega
 have hN1:¬(N:Int)=0:=by rw[hN];simp;omega
 have hcap:=hs.le
 rw[<-hn] at hcap
 have d0:=hs.num 0 k rfl
 have d1:=hs.ahd 0 k rfl
 have g1:=hs.free 1 (by omega)
 have hgl:=hs.lt
 rw[Nat.zero_mul,Nat.add_zero] at d0 d1
 have HS:=hid hs
 have HB:=hid hbox
 have HN:=hid hn
 have HNN:=hid hN
 have H0:=hid r0
 have H1:=hid r1
 have hk2:k.2+1<=8796093022208:=by have h1:=b2O h (x0::L);rw[hk,tot,<-hN] at h1;omega
 clear x hs hbox hn hN hk r0 r1
 obtain⟨y,a⟩:=k
 simp only at d0 d1 hk2
 go_enter Tryz.func240,Tryz.ntmps240
 go_wp2_with fail
 refine(c3a b g h _ w HX.out).mono ?_
 rintro e w1 ⟨rfl,rfl⟩
 rw[<-HNN.out]
 by_cases ha:a=0
 ·go_wp2_with fail
  refine(c3b b g off cap n _ _ _ (HB.out.set 1 (by simp) (.int .i64 ((N:Int)-1))) hn1 hcap hll).mono ?_
  rintro e w2 ⟨rfl,off',cap',hw,q1,q2,q3⟩
  have HW:=hid hw
  clear hw
  go_wp2_with fail
  go_ret
  have hkk:n-1=K.length:=by have:=HN.out;simp at this;omega
  have hNN:(N:Int)-1=(L.length:Nat):=by have:=HNN.out;simp at this;omega
  have e1:=HW.out
  have hs1:KAt (w.setCell ⟨b,1,none⟩ (.int .i64 ((N:Int)-1))) g off cap ((y,a)::K):=HS.out.turn (S:=[b]) (a0h.set _ _ _ (by simp)) (by simpa using hgb)
  refine⟨rfl,⟨.slice (some ⟨g,off',none⟩) K.length cap',?_,?_⟩,?_⟩
  ·have:=((HB.out.set 1 (by simp) (.int .i64 ((N:Int)-1))).set 2 (by simp) (.slice (some ⟨g,off',none⟩) (n-1) cap')).alike (w':=w2) (by rw[e1];rfl)
   rw[hkk,hNN] at this
   simpa using this
  ·rw[H0.out ha]
   exact .inr ⟨hgb,off',cap',rfl,hs1.rest hgb e1 (by omega) q2 q3⟩
  ·rw[e1]
   exact⟨rfl,rfl,rfl,by simp[World.setCell],fun i _ hn=>by
    have hib:i≠b:=by intro e;simp[e] at hn
    exact(Below.heap_setCell _ _ _ _ hib).trans (Below.heap_setCell _ _ _ _ hib)⟩
 ·obtain⟨c,rfl⟩:∃ c,a=c+1:=⟨a-1,by omega⟩
  have hpos:(0:Int)<((c+1:Nat):Int):=by omega
  go_wp2_with fail
  go_ret
  have hNN:(N:Int)-1=(L.length:Nat):=by have:=HNN.out;simp at this;omega
  refine⟨rfl,⟨.slice (some ⟨g,off,none⟩) n cap,?_,?_⟩,?_⟩
  ·have:=(HB.out.set 1 (by simp) (.int .i64 ((N:Int)-1))).other (q:=g) (j:=off+1) (v:=.int .i64 (c:Nat)) (Ne.symm hgb)
   rw[hNN] at this ⊢
   simpa using this
  ·rw[H1.out c rfl]
   exact .inr ⟨hgb,off,cap,by have:=HN.out;simp at this;simp[this],(HS.out.turn (S:=[b]) (a0h.set _ _ _ (by simp)) (by simpa using hgb)).less⟩
  ·exact(a0h.set _ _ _ (by simp)).andSet _ _ (.inl (by simp))
end Go.Proofs.YtbddbnjhmdbkbaaGreatDoor
end
