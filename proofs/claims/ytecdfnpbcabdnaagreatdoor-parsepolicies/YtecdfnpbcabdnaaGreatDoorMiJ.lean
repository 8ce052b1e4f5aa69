import Derived.Test.YtecdfnpbcabdnaaGreatDoorMgV
import Derived.Test.YtecdfnpbcabdnaaGreatDoorMgI
import Derived.Test.YtecdfnpbcabdnaaGreatDoorMgW
namespace Go.Proofs.YtecdfnpbcabdnaaGreatDoor
open Go.Lib
theorem lim_le {n v:Nat}(h:lim n=some v):v<=9223372036854775807:=by
 unfold lim at h
 split at h
 ·cases h;omega
 ·cases h
theorem readN_le {l:List UInt8}{v:Nat}(h:readN l=some v):v<=9223372036854775807:=by
 unfold readN at h
 split at h
 ·exact lim_le h
 ·cases h
theorem sp_le2:∀ (l:List UInt8) (sum cnt nx v:Nat),sp sum cnt nx l=some v->1<=v/\v<=604800
 | [],sum,cnt,nx,v,h=>by
   rw[sp_nil] at h
   split at h
   ·cases h;omega
   ·cases h
 | b::r,sum,cnt,nx,v,h=>by
   rw[sp] at h
   split at h
   ·split at h
    ·cases h
    ·exact sp_le2 r _ _ _ v h
   ·revert h
    cases part b.toNat nx with
    | none=>intro h;simp at h
    | some q=>
      intro h
      simp only at h
      split at h
      ·cases h
      ·exact sp_le2 r _ _ _ v h
theorem spanN_le {l:List UInt8}{v:Nat}(h:spanN l=some v):1<=v/\v<=604800:=sp_le2 l 0 0 0 v h
theorem cut_le (s:ByteArray)(a e:Nat):(s.extract a e).size<=s.size:=by
 rw[ByteArray.size_extract]
 omega
theorem z01:(0:Int)<=0/\(0:Int)<=9223372036854775807:=by decide
theorem eot_ok (z a:Nat)(h:a<=z):TkOk z ⟨7,ofL [],0,a⟩:=⟨⟨by show (1:Int)<=7;decide,by show (7:Int)<=8;decide⟩,Nat.zero_le _,z01,h⟩
theorem tok_good {s:ByteArray}{i e:Nat}{t:Tk}(hi:i<s.size)(h:tok s i=.ok (t,e)):TkOk s.size t/\t.kind≠7:=by
 have val:∀ (k:Int) (a b:Nat) (o:Option Nat),1<=k/\k<=8->k≠7->a<=s.size->(∀ v,o=some v->v<=9223372036854775807)->valT k s a b o=.ok (t,e)->TkOk s.size t/\t.kind≠7:=fun k a b o hk h7 ha ho h=>by
  cases o with
  | none=>cases h
  | some v=>
    cases h
    have:=ho v rfl
    exact⟨⟨hk,cut_le _ _ _,⟨Int.natCast_nonneg _,by show (v:Int)<=_;omega⟩,ha⟩,h7⟩
 have enc:∀ (k:Int) nv d,1<=k/\k<=8->k≠7->encT k nv d s i=.ok (t,e)->TkOk s.size t/\t.kind≠7:=fun k nv d hk h7 h=>by
  unfold encT at h
  split at h
  ·cases h
   exact⟨⟨hk,cut_le _ _ _,z01,Nat.le_of_lt hi⟩,h7⟩
  ·cases h
 have pl:∀ (k:Int) (b:Nat),1<=k/\k<=8->k≠7->(Except.ok (⟨k,s.extract i b,0,i⟩,b):TR)=.ok (t,e)->TkOk s.size t/\t.kind≠7:=fun k b hk h7 h=>by
  cases h
  exact⟨⟨hk,cut_le _ _ _,z01,Nat.le_of_lt hi⟩,h7⟩
 unfold tok at h
 split at h
 ·unfold wordT at h
  split at h
  ·exact pl _ _ (by decide) (by decide) h
  ·split at h
   ·exact pl _ _ (by decide) (by decide) h
   ·cases h
 ·split at h
  ·unfold numT at h
   split at h
   ·exact val _ _ _ _ (by decide) (by decide) (Nat.le_of_lt hi) (fun v hv=>by have:=spanN_le hv;omega) h
   ·exact val _ _ _ _ (by decide) (by decide) (Nat.le_of_lt hi) (fun v hv=>readN_le hv) h
  ·split at h
   ·exact enc _ _ _ (by decide) (by decide) h
   ·split at h
    ·exact enc _ _ _ (by decide) (by decide) h
    ·unfold sigT at h
     split at h
     ·exact pl _ _ (by decide) (by decide) h
     ·split at h
      ·exact pl _ _ (by decide) (by decide) h
      ·cases h
theorem tl_snoc {z:Nat}{e:Tk}(he:TkOk z e)(h7:e.kind=7):∀ (l:List Tk),(∀ t,t∈l->TkOk z t/\t.kind≠7)->TL z (l++[e])
 | [],_=>⟨he,.inl ⟨rfl,h7⟩⟩
 | t::l,h=>⟨(h t (by simp)).1,.inr ⟨(h t (by simp)).2,tl_snoc he h7 l (fun x hx=>h x (by simp[hx]))⟩⟩
theorem rn_good {s:ByteArray}:∀ (l:List Tk) (i:Nat),Rn s i l->∀ t,t∈l->TkOk s.size t/\t.kind≠7
 | [],_,_,_,h=>by cases h
 | x::l,i,h,t,ht=>by
   obtain⟨k1,k2,k3,e,k4,k5⟩:=h
   rcases List.mem_cons.1 ht with rfl | ht
   ·exact tok_good k3 k4
   ·exact rn_good l e k5 t ht
theorem rf_good {s:ByteArray}:∀ (l:List Tk) (i k:Nat),Rf s i l k->∀ t,t∈l->TkOk s.size t/\t.kind≠7
 | [],_,_,_,_,h=>by cases h
 | x::l,i,k,h,t,ht=>by
   obtain⟨k1,k2,k3,e,k4,k5⟩:=h
   rcases List.mem_cons.1 ht with rfl | ht
   ·exact tok_good k3 k4
   ·exact rf_good l e k k5 t ht
def rdS (s:ByteArray):Option (List Tk×Int):=
 if (cutS s).2.2=2\/(cutS s).2.2=10\/(cutS s).2.2=11 then none
 else if (cutS s).2.2=0 then some ((cutS s).1,0)
 else some ((cutS (s.extract 0 (cutS s).2.1)).1,(cutS s).2.2)
theorem cutS_good {s:ByteArray}(h:(cutS s).2.2=0):s.size<=1048576/\Vd s 0/\∃ l,Rn s 0 l/\(cutS s).1=l++[⟨7,ofL [],0,s.size⟩]:=by
 have hz:s.size<=1048576:=by
  rcases Nat.lt_or_ge 1048576 s.size with hh | hh
  ·unfold cutS at h
   rw[if_pos hh] at h
   cases h
  ·exact hh
 have hv:Vd s 0:=by
  unfold Vd
  by_cases hs:(sd 10 11 s (rs s 0)).2=0
  ·exact hs
  ·exfalso
   unfold cutS at h
   rw[if_neg (by omega),if_neg hs] at h
   exact hs h
 refine⟨hz,hv,?_⟩
 rw[cut_ok hz hv] at h ⊢
 obtain⟨l,k1,k2⟩:=lexF_rn s _ 0 [] (Nat.zero_le _) hv (by omega) h
 rw[List.nil_append] at k2
 exact⟨l,k1,k2⟩
theorem rdS_tl {s:ByteArray}{L:List Tk}{c:Int}(h:rdS s=some (L,c)):TL s.size L:=by
 have hg:=cutS_good (s:=s)
 have hf:=cutS_fault (s:=s)
 unfold rdS at h
 generalize hc:cutS s=cs at *
 generalize hd:cutS (s.extract 0 cs.2.1)=ds at *
 clear hc hd
 by_cases hn:cs.2.2=2\/cs.2.2=10\/cs.2.2=11
 ·rw[if_pos hn] at h
  cases h
 ·rw[if_neg hn] at h
  by_cases h0:cs.2.2=0
  ·rw[if_pos h0] at h
   obtain⟨hz,hv,l,k1,k2⟩:=hg h0
   have hl:L=cs.1:=(congrArg Prod.fst (Option.some.inj h)).symm
   rw[hl,k2]
   exact tl_snoc (eot_ok _ _ (Nat.le_refl _)) rfl l (rn_good l 0 k1)
  ·rw[if_neg h0] at h
   obtain⟨hz,hv,l,k,k1,k2,k3,k4,k5,k6⟩:=hf h0 (fun h=>hn (.inl h)) (fun h=>hn (.inr (.inl h))) (fun h=>hn (.inr (.inr h)))
   have hl:L=ds.1:=(congrArg Prod.fst (Option.some.inj h)).symm
   rw[hl,k6]
   exact tl_snoc (eot_ok _ _ (by omega)) rfl l (rf_good l 0 k k1)
def exprS (s:ByteArray):Except Flt Tm:=
 match rdS s with
 | none=>.error ((cutS s).2.1,(cutS s).2.2)
 | some r=>bnd (exprD r.2 64 r.1) (endP r.2)
theorem cut_seg {s:ByteArray}(p:Nat->Bool)(i:Nat)(hi:i<=s.size)(hv:Vd s i):rs (s.extract i (rn s p i)) 0=(seg s p i).map fun q=>(q.1,q.2-i):=by
 have:=seg_cut p i (rn s p i) (rn_in s p i hi).2 i hi (Nat.le_refl _) rfl hv
 rwa [Nat.sub_self] at this
theorem cut_vd {s:ByteArray}{i e:Nat}(hi:i<=e)(he:e<=s.size)(hv:Vd s i)(hve:Vd s e):Vd (s.extract i e) 0:=by
 have key:∀ n k,e-k<=n->i<=k->k<=e->Vd s k->Vd (s.extract i e) (k-i):=by
  intro n
  induction n with
  | zero=>
    intro k h1 h2 h3 hk
    exact Vd.end_ (by rw[size_cut s i e he];omega)
  | succ n ih=>
    intro k h1 h2 h3 hk
    by_cases hke:k<e
    ·obtain⟨v1,v2,v3⟩:=hk.step (by omega)
     have hb:=vd_bound hk hve hke he
     have hp:=width_pos s k
     have hd:Utf8.decode (s.extract i e) (k-i)=Utf8.decode s k:=decode_same v1 (fun x hx=>by rw[gd_cut s i e _ he (by omega),show i+(k-i+x)=k+x by omega]) (by rw[size_cut s i e he];omega)
     have:=ih (k+(Utf8.decode s k).2) (by omega) (by omega) hb v3
     refine Vd.ofStep (by rw[size_cut s i e he];omega) (by rw[hd];exact v1) (by rw[hd];exact v2) ?_
     rw[hd,show k-i+(Utf8.decode s k).2=k+(Utf8.decode s k).2-i by omega]
     exact this
    ·exact Vd.end_ (by rw[size_cut s i e he];omega)
 have:=key (e-i) i (Nat.le_refl _) (Nat.le_refl _) hi hv
 rwa [Nat.sub_self] at this
theorem name_cut {s:ByteArray}{i:Nat}(hi:i<s.size)(hv:Vd s i)(h1:cls s 1 i≠i)(h2:¬ resv (s.extract i (cls s 3 i)).data.toList=true)(h3:(seg s (fun r=>isC (r:Int) 3) i).length<=32):isN (s.extract i (cls s 3 i))=true:=by
 have hin:=cls_in s 3 i (Nat.le_of_lt hi)
 have hsz:=size_cut s i (cls s 3 i) hin.2
 have hseg:=cut_seg (fun r=>isC (r:Int) 3) i (Nat.le_of_lt hi) hv
 have hc1:isC ((Utf8.decode s i).1:Int) 1=true:=by
  rcases cls_step (c:=1) hi with h | h
  ·exact absurd h.1 h1
  ·exact h.2
 have hc3:isC ((Utf8.decode s i).1:Int) 3=true:=by
  unfold isC at hc1 ⊢
  simp_all
 have hlt:i<cls s 3 i:=by
  rcases cls_step (c:=3) hi with h | h
  ·rw[h.2] at hc3;cases hc3
  ·exact h.1
 have hfull:cls (s.extract i (cls s 3 i)) 3 0=(s.extract i (cls s 3 i)).size:=by
  refine(rn_full 0 (Nat.zero_le _)).2 ?_
  rw[hseg,List.all_map]
  exact List.all_eq_true.2 fun q hq=>seg_all s _ i q hq
 have hfst:(Utf8.decode (s.extract i (cls s 3 i)) 0).1=(Utf8.decode s i).1:=by
  have e1:=hseg
  have h0:0<(s.extract i (cls s 3 i)).size:=by omega
  rw[rs_step h0,seg_yes (p:=fun r=>isC (r:Int) 3) hi hc3] at e1
  simp only[List.map_cons,List.cons.injEq,Prod.mk.injEq] at e1
  exact e1.1.1
 have hne:cls (s.extract i (cls s 3 i)) 1 0≠0:=by
  rcases cls_step (s:=s.extract i (cls s 3 i)) (c:=1) (i:=0) (by omega) with h | h
  ·rw[hfst,hc1] at h
   cases h.2
  ·omega
 have hrc:runeCount (s.extract i (cls s 3 i))<=32:=by
  rw[count_all,hseg,List.length_map]
  exact h3
 unfold isN
 rw[decide_eq_false hne,decide_eq_true hfull,decide_eq_true hrc]
 simpa using h2
theorem enc_cut {s:ByteArray}{i:Nat}{l:List UInt8}(hi:i+1<=s.size)(hv:Vd s (i+1))(h:(seg s (nin l) (i+1)).length<=64):txt l (s.extract (i+1) (rn s (nin l) (i+1)))=true:=by
 have hseg:=cut_seg (nin l) (i+1) hi hv
 have hin:=rn_in s (nin l) (i+1) hi
 have hvd:=cut_vd hin.1 hin.2 hv (rn_vd _ _ hv)
 unfold txt
 rw[decide_eq_true (show (sd 10 11 _ (rs _ 0)).2=0 from hvd),hseg,List.length_map,decide_eq_true h,List.all_map]
 simp only[Bool.true_and]
 exact List.all_eq_true.2 fun q hq=>seg_all s _ (i+1) q hq
theorem tok_says {s:ByteArray}{i e:Nat}{t:Tk}(hi:i<s.size)(hv:Vd s i)(h:tok s i=.ok (t,e)):TkG t:=by
 have val:∀ (k:Int) (a b:Nat) (o:Option Nat),k≠1->k≠4->k≠8->(k=3->∀ v,o=some v->1<=v/\v<=604800)->valT k s a b o=.ok (t,e)->TkG t:=fun k a b o h1 h4 h8 h3 h=>by
  cases o with
  | none=>cases h
  | some v=>
    cases h
    refine⟨fun h=>absurd h h1,fun _=>Int.natCast_nonneg _,fun hk=>?_,fun h=>absurd h h4,fun h=>absurd h h8⟩
    have:=h3 hk v rfl
    unfold spanB
    show (decide (1<=(v:Int))&&decide ((v:Int)<=604800))=true
    rw[decide_eq_true (by omega),decide_eq_true (by omega)]
    rfl
 have pl:∀ (k:Int) (b:Nat),k=5\/k=6->(Except.ok (⟨k,s.extract i b,0,i⟩,b):TR)=.ok (t,e)->TkG t:=fun k b hk h=>by
  cases h
  rcases hk with rfl | rfl
  ·exact⟨fun h=>(by simp at h),fun h=>(by simp at h),fun h=>(by simp at h),fun h=>(by simp at h),fun h=>(by simp at h)⟩
  ·exact⟨fun h=>(by simp at h),fun h=>(by simp at h),fun h=>(by simp at h),fun h=>(by simp at h),fun h=>(by simp at h)⟩
 have st:∀ (c:UInt8),s.get! i=c->c.toNat<128->Vd s (i+1):=fun c hc hl=>by
  have:=(hv.step hi).2.2
  rwa [dec_low (by rw[hc];exact hl)] at this
 unfold tok at h
 split at h
 ·rename_i h1
  unfold wordT at h
  split at h
  ·exact pl _ _ (.inr rfl) h
  ·rename_i h2
   split at h
   ·rename_i h3
    cases h
    exact⟨fun _=>name_cut hi hv h1 h2 h3,fun h=>(by simp at h),fun h=>(by simp at h),fun h=>(by simp at h),fun h=>(by simp at h)⟩
   ·cases h
 ·split at h
  ·unfold numT at h
   split at h
   ·exact val _ _ _ _ (by decide) (by decide) (by decide) (fun _ v hv=>spanN_le hv) h
   ·exact val _ _ _ _ (by decide) (by decide) (by decide) (fun h=>(by simp at h)) h
  ·split at h
   ·rename_i h34
    unfold quoT encT at h
    split at h
    ·rename_i hh
     cases h
     exact⟨fun h=>(by simp at h),fun h=>(by simp at h),fun h=>(by simp at h),fun _=>enc_cut hi (st 34 h34 (by decide)) hh.2,fun h=>(by simp at h)⟩
    ·cases h
   ·split at h
    ·rename_i h91
     unfold braT encT at h
     split at h
     ·rename_i hh
      cases h
      exact⟨fun h=>(by simp at h),fun h=>(by simp at h),fun h=>(by simp at h),fun h=>(by simp at h),fun _=>enc_cut hi (st 91 h91 (by decide)) hh.2⟩
     ·cases h
    ·unfold sigT at h
     split at h
     ·exact pl _ _ (.inl rfl) h
     ·split at h
      ·exact pl _ _ (.inl rfl) h
      ·cases h
theorem rn_says {s:ByteArray}:∀ (l:List Tk) (i:Nat),Rn s i l->∀ t,t∈l->TkG t
 | [],_,_,_,h=>by cases h
 | x::l,i,h,t,ht=>by
   obtain⟨k1,k2,k3,e,k4,k5⟩:=h
   rcases List.mem_cons.1 ht with rfl | ht
   ·exact tok_says k3 (skp_vd i k1 k2) k4
   ·exact rn_says l e k5 t ht
theorem rf_says {s:ByteArray}:∀ (l:List Tk) (i k:Nat),Rf s i l k->∀ t,t∈l->TkG t
 | [],_,_,_,_,h=>by cases h
 | x::l,i,k,h,t,ht=>by
   obtain⟨k1,k2,k3,e,k4,k5⟩:=h
   rcases List.mem_cons.1 ht with rfl | ht
   ·exact tok_says k3 (skp_vd i k1 k2) k4
   ·exact rf_says l e k k5 t ht
theorem tg_snoc {z a:Nat}{l:List Tk}(ha:a<=z)(h:∀ t,t∈l->TkOk z t/\t.kind≠7)(hg:∀ t,t∈l->TkG t):TG z (l++[⟨7,ofL [],0,a⟩]):=by
 refine⟨tl_snoc (eot_ok _ _ ha) rfl l h,fun t ht=>?_⟩
 rcases List.mem_append.1 ht with ht | ht
 ·exact hg t ht
 ·rw[List.mem_singleton.1 ht]
  exact⟨fun h=>(by simp at h),fun h=>(by simp at h),fun h=>(by simp at h),fun h=>(by simp at h),fun h=>(by simp at h)⟩
theorem lexF_len (s:ByteArray):∀ (f i:Nat) (L:List Tk),L.length<=16384->(lexF s f i L).1.length<=16385
 | 0,_,L,h=>by show L.length<=_;omega
 | f+1,i,L,h=>by
   simp only[lexF]
   split
   ·split
    ·simp
    ·split
     ·simp
     ·exact lexF_len s f _ _ (by simp;omega)
   ·simp
    omega
theorem cutS_len (s:ByteArray):(cutS s).1.length<=16385:=by
 unfold cutS
 split
 ·simp
 ·split
  ·exact lexF_len s _ _ _ (by simp)
  ·simp
theorem rdS_tg {s:ByteArray}{L:List Tk}{c:Int}(h:rdS s=some (L,c)):TG s.size L/\L.length<=16385:=by
 have hg:=cutS_good (s:=s)
 have hf:=cutS_fault (s:=s)
 have hl1:=cutS_len s
 have hl2:=cutS_len (s.extract 0 (cutS s).2.1)
 unfold rdS at h
 generalize hc:cutS s=cs at *
 generalize hd:cutS (s.extract 0 cs.2.1)=ds at *
 clear hc hd
 by_cases hn:cs.2.2=2\/cs.2.2=10\/cs.2.2=11
 ·rw[if_pos hn] at h
  cases h
 ·rw[if_neg hn] at h
  by_cases h0:cs.2.2=0
  ·rw[if_pos h0] at h
   obtain⟨hz,hv,l,k1,k2⟩:=hg h0
   have hl:L=cs.1:=(congrArg Prod.fst (Option.some.inj h)).symm
   subst hl
   refine⟨?_,hl1⟩
   rw[k2]
   exact tg_snoc (Nat.le_refl _) (rn_good l 0 k1) (rn_says l 0 k1)
  ·rw[if_neg h0] at h
   obtain⟨hz,hv,l,k,k1,k2,k3,k4,k5,k6⟩:=hf h0 (fun h=>hn (.inl h)) (fun h=>hn (.inr (.inl h))) (fun h=>hn (.inr (.inr h)))
   have hl:L=ds.1:=(congrArg Prod.fst (Option.some.inj h)).symm
   subst hl
   refine⟨?_,hl2⟩
   rw[k6]
   exact tg_snoc (by omega) (rf_good l 0 k k1) (rf_says l 0 k k1)
def polS (s:ByteArray):Except Flt (ByteArray×List It):=
 match rdS s with
 | none=>.error ((cutS s).2.1,(cutS s).2.2)
 | some r=>bnd (polP r.2 (exprD r.2 64) (actD r.2 64) r.1) (endP r.2)
end Go.Proofs.YtecdfnpbcabdnaaGreatDoor
