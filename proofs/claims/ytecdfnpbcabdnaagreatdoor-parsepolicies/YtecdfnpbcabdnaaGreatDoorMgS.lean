import Derived.Test.YtecdfnpbcabdnaaGreatDoorLxB
import Derived.Test.YtecdfnpbcabdnaaGreatDoorMgR
import Derived.Test.YtecdfnpbcabdnaaGreatDoorMiH
import Derived.Laws.Runes
import Derived.Deep.QuietTactic
import Derived.WalkMore
import Derived.Test.YtecdfnpbcabdnaaGreatDoorMoM
namespace Go.Proofs.YtecdfnpbcabdnaaGreatDoor
open Go.RowKit Go.Lib
theorem drewN_b2 (w:World)(n:Nat):Below w.heap.size w (w.drewN n):=⟨rfl,rfl,rfl,Nat.le_refl _,fun _ _=>rfl⟩
theorem hid2 {p:Prop}(h:p):Hid p:=h
theorem info_set:(Tryz.prog.info? 181).map (fun i=>(i.zero,i.size))=some (some (.agg (Array.replicate 256 (.bool false))),256):=by kernel_rfl
set_option maxHeartbeats 2000000 in
set_option maxRecDepth 20000 in
theorem indexRune_err (c:ByteArray)(hch:∀ j,(c.get! j).toNat<128)(w:World):
 Calls Tryz.prog 154 #[.string c,.int .i32 65533] w fun e w'=>e=.returned (.int .i64 (-1))/\Below w.heap.size w w':=by
 go_enter Tryz.func154,Tryz.ntmps154
 go_wp2_with fail
 go_loopw [] (fun wr=>∃ pos:Nat,wr.heap[w.heap.size]? = some (.stringIter c pos)/\Below w.heap.size w wr) (fun wr=>c.size-wr.iterPos w.heap.size)
 case atStart=>exact⟨0,World.iter_heap w c 0,(Below.refl _ _).alloc (Nat.le_refl _) _⟩
 case round=>
  obtain⟨pos,hit,hbw⟩:=hrel
  have hpos0:=iterPos_of hit
  by_cases hp:pos<c.size
  ·have hnx:∀ ty,(Instr.next (.pointer (some ⟨w.heap.size,0,none⟩)) true ty).run Tryz.prog wr=_:=fun ty=>Lib.run_next_any_at wr w.heap.size c pos ty hit hp
   have hit2:=Lib.iterAt_heap wr w.heap.size c pos (pos+(Utf8.decode c pos).2) hit
   have hbw2:=Lib.below_iterAt hbw (k:=w.heap.size) (Nat.le_refl _) c (pos+(Utf8.decode c pos).2)
   obtain⟨W1,hW1⟩:∃ W1,W1=wr.iterAt w.heap.size c (pos+(Utf8.decode c pos).2):=⟨_,rfl⟩
   rw[<-hW1] at hnx hit2 hbw2
   have hl:=hch pos
   rw[dec_low hl] at hnx hit2
   simp only[] at hnx hit2
   generalize (c.get! pos).toNat=b at *
   have hne:((b:Int)==65533)=false:=beq_eq_false_iff_ne.2 (by omega)
   clear hW1 hit hbw
   go_wp2_with fail
   go_roundw
   case rel=>exact⟨_,hit2,hbw2⟩
   case measure=>rw[iterPos_of hit2,hpos0];omega
  ·have hnx:∀ ty,(Instr.next (.pointer (some ⟨w.heap.size,0,none⟩)) true ty).run Tryz.prog wr=_:=fun ty=>Lib.run_next_end_at wr w.heap.size c pos ty hit hp
   clear hit
   go_wp2_with fail
   go_ret
   exact⟨rfl,hbw⟩
set_option maxHeartbeats 2000000 in
set_option maxRecDepth 20000 in
theorem indexRune_bad (c:ByteArray)(r:Int)(h0:128<=r)(h1:r≠65533)(h2:Lib.validRune r=false)(w:World):
 Calls Tryz.prog 154 #[.string c,.int .i32 r] w fun e w'=>e=.returned (.int .i64 (-1))/\Below w.heap.size w w':=by
 have V:=fun wx=>Go.Proofs.Tryz.utf8_ValidRune r wx
 rw[h2] at V
 have k1:(r==65533)=false:=beq_eq_false_iff_ne.2 h1
 have k2:¬(r<128):=by omega
 go_enter Tryz.func154,Tryz.ntmps154
 go_wp2_with fail
 refine(V _).mono ?_
 rintro e w1 ⟨rfl,rfl⟩
 go_wp2_with fail
 go_ret
 exact⟨rfl,Below.refl _ _⟩
theorem get_byte (s:ByteArray)(k:Nat)(h:k<s.size):s[k]'h=s.get! k:=by
 have e:=toL_get s k h
 rw[Lib.data_getElem? s k h] at e
 exact Option.some.inj e
theorem idxB (s:ByteArray)(k:Nat)(h:k<s.size)(w:World):(Instr.index 9 (.string s) (.int .i64 k)).run Tryz.prog w=.ok (.int .u8 ((s.get! k).toNat:Nat)) w:=by
 rw[run_index_string w 9 s .i64 _ Tryz.underlying9,dif_pos ⟨by omega,by omega⟩]
 show Result.ok (Value.int .u8 (((s[k]'h).toNat:Nat):Int)) w=_
 rw[get_byte]
theorem sl_l (s:ByteArray)(k:Nat)(h:k<=s.size)(w:World):(Instr.slice 9 (.string s) (some (.int .i64 k)) none none).run Tryz.prog w=.ok (.string (s.extract k s.size)) w:=by
 rw[run_slice_string_l w 9 s Tryz.underlying9 .i64 k (by omega) (by omega),Int.toNat_natCast]
theorem sl_h (s:ByteArray)(k:Nat)(h:k<=s.size)(w:World):(Instr.slice 9 (.string s) none (some (.int .i64 k)) none).run Tryz.prog w=.ok (.string (s.extract 0 k)) w:=by
 rw[run_slice_string_h w 9 s Tryz.underlying9 .i64 k (by omega) (by omega),Int.toNat_natCast]
theorem sl_lh (s:ByteArray)(a b:Nat)(h:a<=b)(hb:b<=s.size)(w:World):(Instr.slice 9 (.string s) (some (.int .i64 a)) (some (.int .i64 b)) none).run Tryz.prog w=.ok (.string (s.extract a b)) w:=by
 rw[run_slice_string_if w 9 s .i64 .i64 a b Tryz.underlying9,if_pos ⟨by omega,by omega⟩,if_pos ⟨by omega,by omega⟩,Int.toNat_natCast,Int.toNat_natCast]
theorem index_none (l:List UInt8)(c:UInt8)(h:l.contains c=false):indexByte l c = -1:=by
 rw[<-indexAny_one]
 refine indexAny_none (fun j b _ hb=>?_)
 have hm:b∈l:=List.mem_of_getElem? hb
 simp only[List.contains_cons,List.contains_nil,Bool.or_false]
 rw[beq_eq_false_iff_ne]
 rintro rfl
 rw[List.contains_iff_mem.2 hm] at h
 cases h
theorem high_out (c:ByteArray)(hch:∀ j,(c.get! j).toNat<128)(k:Nat)(hk:k<=c.size)(x:UInt8)(hx:128<=x.toNat):indexByte (c.extract k c.size).data.toList x = -1:=by
 refine index_none _ _ ?_
 rw[Bool.eq_false_iff,ne_eq,List.contains_iff_mem]
 intro hm
 obtain⟨j,hj,e⟩:=List.getElem_of_mem hm
 have hz:=size_cut c k c.size (Nat.le_refl _)
 have hj2:j<(c.extract k c.size).size:=by rw[Lib.size_eq];exact hj
 have e2:=toL_get _ _ hj2
 rw[List.getElem?_eq_getElem hj,e,gd_cut _ _ _ _ (Nat.le_refl _) (by omega)] at e2
 cases e2
 have:=hch (k+j)
 omega
set_option maxHeartbeats 2000000 in
set_option maxRecDepth 20000 in
theorem indexRune_ok (c:ByteArray)(hch:∀ j,(c.get! j).toNat<128)(r:Int)(h0:128<=r)(h1:r≠65533)(h2:Lib.validRune r=true)(w:World):
 Calls Tryz.prog 154 #[.string c,.int .i32 r] w fun e w'=>e=.returned (.int .i64 (-1))/\Below w.heap.size w w':=by
 have V:=fun wx=>Go.Proofs.Tryz.utf8_ValidRune r wx
 rw[h2] at V
 have k1:(r==65533)=false:=beq_eq_false_iff_ne.2 h1
 have k2:¬(r<128):=by omega
 have hv:Utf8.valid r=true:=by
  unfold Lib.validRune at h2
  unfold Utf8.valid
  simp at h2 ⊢
  omega
 obtain⟨x2,x4,xl⟩:=encode_facts r hv h0
 replace xl:=xl (by omega)
 rw[get_byte] at xl
 generalize hx:Utf8.encode r=x at *
 obtain⟨k,hk⟩:∃ k,x.size=k+1:=⟨x.size-1,by omega⟩
 rw[hk] at x2 x4 xl
 simp only[Nat.add_sub_cancel] at xl
 have xi:=fun wx=>idxB x k (by omega) wx
 have B:∀ wx,k<c.size->Calls Tryz.prog 166 #[.string (c.extract (k+1) c.size),.int .u8 ((x.get! k).toNat:Nat)] wx fun e w'=>e=.returned (.int .i64 (-1))/\w'=wx:=fun wx hc=>by
  have:=Go.Proofs.Tryz.strings_IndexByte (c.extract (k+1) c.size) ((x.get! k).toNat:Nat) wx
  rw[show (((x.get! k).toNat:Nat):Int).toNat.toUInt8=x.get! k by simp,high_out c hch (k+1) hc _ xl] at this
  exact this
 have ci:=fun wx (hc:k<c.size)=>idxB c k hc wx
 have cs:=fun wx (hc:k<c.size)=>sl_l c (k+1) hc wx
 have hne:(c.get! k).toNat<128:=hch k
 generalize (x.get! k).toNat=xb at *
 generalize (c.get! k).toNat=cb at *
 have hq:((cb:Int)==(xb:Int))=false:=beq_eq_false_iff_ne.2 (by omega)
 have hks:((x.size:Int)-1)=(k:Int):=by omega
 clear hch hv h2
 go_enter Tryz.func154,Tryz.ntmps154
 go_wp2_with fail
 refine(V _).mono ?_
 rintro e w1 ⟨rfl,rfl⟩
 go_wp2_with fail
 go_step3
 go_wp2_with fail
 go_loopw [9,10] (fun i f wr=>i=.int .i64 k/\f=.int .i64 0/\wr=w1) (fun _ _ _=>0)
 case atStart=>exact⟨rfl,rfl,rfl⟩
 case round=>
  obtain⟨rfl,rfl,rfl⟩:=hrel
  by_cases hc:k<c.size
  ·have hc1:(k:Int)<(c.size:Int):=by omega
   replace ci:=fun wx=>ci wx hc
   replace cs:=fun wx=>cs wx hc
   have HB:=hid2 (fun wx=>B wx hc)
   clear B
   rw[show ((k+1:Nat):Int)=(k:Int)+1 by omega] at cs
   have hw1:IntKind.i64.wrap ((k:Int)+1)=(k:Int)+1:=by rw[IntKind.wrap_i64];omega
   have cs2:=cs
   rw[<-hw1] at cs2
   go_wp2_with fail
   go_step3
   go_wp2_with fail
   go_quiet (fail)
   have hb:=drewN_b2 wr nq
   generalize wr.drewN nq=W at *
   go_wp2_with fail
   go_quiet (exact Calls.quiet_of_same (HB.out _))
   go_wp2_with fail
   rw[Exit.noGoto_ret]
   go_wp2_with fail
   try rw[Exit.noGoto_ret]
   go_ret
   exact⟨rfl,below_on hb (drewN_b2 _ _) hb.size⟩
  ·have hc1:¬((k:Int)<(c.size:Int)):=by omega
   clear ci cs B
   go_wp2_with fail
   try rw[Exit.noGoto_ret]
   go_ret
   exact⟨rfl,Below.refl _ _⟩
theorem get_ascii {l:List UInt8}(hch:∀ b∈l,b.toNat<128)(j:Nat):((ofL l).get! j).toNat<128:=by
 rw[gd]
 show (l[j]?.getD 0).toNat<128
 cases h:l[j]? with
 | none=>decide
 | some b=>exact hch b (List.mem_of_getElem? h)
theorem index_pos (l:List UInt8)(b:UInt8):decide (0<=indexByte l b)=l.contains b:=(contains_iff_indexByte l b).symm
theorem indexRune_any (l:List UInt8)(hch:∀ b∈l,b.toNat<128)(r:Nat)(w:World):
 Calls Tryz.prog 154 #[.string (ofL l),.int .i32 (r:Int)] w fun e w'=>(∃ z:Int,e=.returned (.int .i64 z)/\decide (0<=z) = !(nin l r))/\Below w.heap.size w w':=by
 by_cases h0:r<128
 ·refine(Go.Proofs.Tryz.strings_IndexRune_ascii (ofL l) (r:Int) w (by omega) (by omega)).mono ?_
  rintro e w' ⟨rfl,rfl⟩
  refine⟨⟨_,rfl,?_⟩,Below.refl _ _⟩
  show decide (0<=indexByte l _)=_
  rw[index_pos]
  have e1:((r:Int).toNat.toUInt8).toNat=r:=by simp;omega
  have:=nin_byte l ((r:Int).toNat.toUInt8)
  rw[e1] at this
  rw[this]
  simp
 ·have hn:nin l r=true:=nin_high hch (by omega)
  have fin:∀ e w',e=Ending.returned (.int .i64 (-1))/\Below w.heap.size w w'->(∃ z:Int,e=.returned (.int .i64 z)/\decide (0<=z) = !(nin l r))/\Below w.heap.size w w':=by
   rintro e w' ⟨rfl,hb⟩
   exact⟨⟨_,rfl,by rw[hn];rfl⟩,hb⟩
  by_cases h1:(r:Int)=65533
  ·rw[h1]
   exact(indexRune_err (ofL l) (get_ascii hch) w).mono fin
  ·cases h2:Lib.validRune (r:Int) with
   | false=>exact(indexRune_bad (ofL l) r (by omega) h1 h2 w).mono fin
   | true=>exact(indexRune_ok (ofL l) (get_ascii hch) r (by omega) h1 h2 w).mono fin
def anyI (s:ByteArray)(l:List UInt8)(i:Nat):Int:=if rn s (nin l) i<s.size then ((rn s (nin l) i-i:Nat):Int) else -1
set_option maxHeartbeats 2000000 in
theorem indexAny_short (s:ByteArray)(l:List UInt8)(hch:∀ b∈l,b.toNat<128)(h2:2<=l.length)(i:Nat)(hi:i<=s.size)(h8:s.size-i<=8)(w:World):
 Calls Tryz.prog 142 #[.string (s.extract i s.size),.string (ofL l)] w fun e w'=>e=.returned (.int .i64 (anyI s l i))/\Below w.heap.size w w':=by
 obtain⟨z,hr⟩:∃ z:Int,Hid (z=anyI s l i):=⟨_,rfl⟩
 rw[<-hr.out]
 have htz:(s.extract i s.size).size=s.size-i:=size_tail s i
 have htd:∀ pos,Utf8.decode (s.extract i s.size) pos=Utf8.decode s (i+pos):=decode_rest s i
 obtain⟨t,ht⟩:∃ t,t=s.extract i s.size:=⟨_,rfl⟩
 rw[<-ht] at htz htd ⊢
 have R:=fun r wx=>indexRune_any l hch r wx
 have HRn:=hid2 R
 have A:=fun wx=>Go.Proofs.Tryz.strings_shouldUseASCIISet (t.size:Int) wx
 have ha:decide ((8:Int)<(t.size:Int))=false:=decide_eq_false (by omega)
 rw[ha] at A
 have cz:(ofL l).size=l.length:=by simp[ByteArray.size]
 have HNE:((ofL l).toList==([]:List UInt8))=false:=by
  rw[Lib.toList_data]
  cases l with
  | nil=>simp at h2
  | cons _ _=>rfl
 generalize hc:ofL l=c at *
 have q1:((c.size:Int)==1)=false:=beq_eq_false_iff_ne.2 (by omega)
 have q0:((c.size:Int)==0)=false:=beq_eq_false_iff_ne.2 (by omega)
 have HZ:=hid2 htz
 have HTD:=hid2 htd
 clear hch ha R htz htd cz hc ht
 go_enter Tryz.func142,Tryz.ntmps142
 go_wp2_with fail
 refine(A _).mono ?_
 rintro e w1 ⟨rfl,rfl⟩
 go_wp2_with fail
 go_loopw [] (fun wr=>∃ pos:Nat,wr.heap[w1.heap.size]? = some (.stringIter t pos)/\Below w1.heap.size w1 wr/\Hid (rn s (nin l) (i+pos)=rn s (nin l) i)) (fun wr=>t.size-wr.iterPos w1.heap.size)
 case atStart=>exact⟨0,World.iter_heap w1 t 0,(Below.refl _ _).alloc (Nat.le_refl _) _,rfl⟩
 case round=>
  obtain⟨pos,hit,hbw,HS⟩:=hrel
  have hpos0:=iterPos_of hit
  have hz:=HZ.out
  by_cases hp:pos<t.size
  ·have hnx:∀ ty,(Instr.next (.pointer (some ⟨w1.heap.size,0,none⟩)) true ty).run Tryz.prog wr=_:=fun ty=>Lib.run_next_any_at wr w1.heap.size t pos ty hit hp
   have hwd:=width_pos s (i+pos)
   have hit2:=Lib.iterAt_heap wr w1.heap.size t pos (pos+(Utf8.decode t pos).2) hit
   have hbw2:=Lib.below_iterAt hbw (k:=w1.heap.size) (Nat.le_refl _) t (pos+(Utf8.decode t pos).2)
   obtain⟨W1,hW1⟩:∃ W1,W1=wr.iterAt w1.heap.size t (pos+(Utf8.decode t pos).2):=⟨_,rfl⟩
   rw[<-hW1] at hnx hit2 hbw2
   have hin:i+pos<s.size:=by omega
   have hy:=fun hb=>rn_yes (s:=s) (p:=nin l) hin hb
   have hn:=fun hb=>rn_no (s:=s) (p:=nin l) hin hb
   rw[HTD.out] at hnx hit2
   generalize Utf8.decode s (i+pos)=d at *
   obtain⟨r,k⟩:=d
   simp only[] at *
   have HY:Hid (nin l r=true->rn s (nin l) (i+(pos+k))=rn s (nin l) i):=fun hb=>by
    rw[<-HS.out,hy hb,Nat.add_assoc]
   have HN:Hid (nin l r=false->z=(pos:Int)):=fun hb=>by
    rw[hr.out]
    unfold anyI
    rw[<-HS.out,hn hb,if_pos hin]
    omega
   have HIT:=hid2 hit2
   have HBW:=hid2 hbw2
   have I:=HRn.out r W1
   have hb0:=hbw2.size
   have HWD:=hid2 hwd
   have HP0:=hid2 hpos0
   clear hW1 hit hbw HS hit2 hbw2 hz hy hn hwd hpos0
   go_wp2_with fail
   refine I.mono ?_
   rintro e w2 ⟨⟨zz,rfl,hzz⟩,hb⟩
   cases hb1:nin l r with
   | true=>
     rw[hb1] at hzz
     have h5:¬(0:Int)<=zz:=by simpa using hzz
     have h6:=HY.out hb1
     clear hzz hb1 HY HN
     go_wp2_with fail
     go_roundw
     case rel=>exact⟨_,iter_next HIT.out hb,below_on HBW.out hb hb0,h6⟩
     case measure=>rw[iterPos_of (iter_next HIT.out hb),HP0.out];have:=HWD.out;omega
   | false=>
     rw[hb1] at hzz
     have h5:(0:Int)<=zz:=by simpa using hzz
     have h6:=HN.out hb1
     clear hzz hb1 HY HN
     go_wp2_with fail
     go_ret
     exact⟨by rw[h6];rfl,below_on HBW.out hb hb0⟩
  ·have hnx:∀ ty,(Instr.next (.pointer (some ⟨w1.heap.size,0,none⟩)) true ty).run Tryz.prog wr=_:=fun ty=>Lib.run_next_end_at wr w1.heap.size t pos ty hit hp
   have HE:Hid (z = -1):=by
    show z = -1
    rw[hr.out]
    unfold anyI
    rw[<-HS.out,rn_end (by omega),if_neg (by omega)]
   clear HS hit hz
   go_wp2_with fail
   go_ret
   exact⟨by rw[HE.out];rfl,hbw⟩
theorem indexAny_c (s:ByteArray)(l:List UInt8)(hch:∀ b∈l,b.toNat<128)(h2:2<=l.length)(h4:l.length<=4)(i:Nat)(hi:i<=s.size)(hv:Vd s i)(hz:s.size<=1048576)(w:World):
 Calls Tryz.prog 142 #[.string (s.extract i s.size),.string (ofL l)] w fun e w'=>e=.returned (.int .i64 (anyI s l i))/\Below w.heap.size w w':=by
 by_cases h8:s.size-i<=8
 ·exact indexAny_short s l hch h2 i hi h8 w
 ·have htz:(s.extract i s.size).size=s.size-i:=size_tail s i
  have cz:(ofL l).size=l.length:=by simp[ByteArray.size]
  refine(Go.Proofs.Tryz.strings_IndexAny_long (zero_of_info info_set).1 (s.extract i s.size) (ofL l) w (by omega) (by omega) (by omega) (by omega) (fun j b hb=>hch b (List.mem_of_getElem? hb))).mono ?_
  rintro e w' ⟨rfl,rfl⟩
  refine⟨?_,((Below.refl _ _).alloc (Nat.le_refl _) _).alloc (by simp) _⟩
  have:=any_idx hch i hi hv
  show Ending.returned (.int .i64 (indexAny _ l))=_
  rw[this]
  rfl
end Go.Proofs.YtecdfnpbcabdnaaGreatDoor
