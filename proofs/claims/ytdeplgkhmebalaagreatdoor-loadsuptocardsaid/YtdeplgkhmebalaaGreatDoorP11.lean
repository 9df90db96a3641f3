/- The document's reader: 'block'. -/
import Derived.Test.YtdeplgkhmebalaaGreatDoorP10

set_option linter.unusedSimpArgs false
set_option linter.unusedVariables false
set_option maxHeartbeats 4000000
set_option maxRecDepth 100000
namespace Go.Proofs.YtdeplgkhmebalaaGreatDoor.Rf
open Go.RowKit

theorem info_node:(Tryz.prog.info? 309).map (fun i=>(i.zero,i.size,i.bytes))=some (some (.agg #[.int .u8 0,.int .u64 0,.slice none 0 0,.slice none 0 0,.slice none 0 0,.int .i64 0]),6,96):=by kernel_rfl
theorem info_node': ∃i,Tryz.prog.info? 309=some i∧i.zero=some (.agg #[.int .u8 0,.int .u64 0,.slice none 0 0,.slice none 0 0,.slice none 0 0,.int .i64 0])∧i.size=6∧i.bytes=96:=info_parts info_node

theorem known_instr {op:UInt8} (h:knownM op=true) (h5:op≠5) (h11:op≠11):instrOp op.toNat:=by
 have e5:op.toNat≠5:=fun e=>h5 (UInt8.toNat_inj.1 e)
 have e11:op.toNat≠11:=fun e=>h11 (UInt8.toNat_inj.1 e)
 unfold knownM at h
 unfold instrOp plainOp
 simp at h
 omega

theorem own_ne {w:World} {b1 b2:Nat} {e1 e2:TypeId} {s1 s2:Nat} {v1 v2:Value} {n1 n2:Nat} {x1 x2:List Value} (h1:w.ownsRow b1 e1 s1 v1 n1 x1) (h2:w.ownsRow b2 e2 s2 v2 n2 x2) (he:e1≠e2): ∀b,v1.ownBlock=some b→v2.ownBlock≠some b:=by
 intro b hb1 hb2
 obtain⟨-,⟨rfl,-⟩|⟨g,cap,cur,rfl,-,hh,-⟩⟩:=h1
 ·cases hb1
 obtain⟨-,⟨rfl,-⟩|⟨g',cap',cur',rfl,-,hh',-⟩⟩:=h2
 ·cases hb2
 simp only[Value.ownBlock,Option.some.injEq]at hb1 hb2
 subst hb1
 subst hb2
 rw[hh]at hh'
 simp at hh'
 exact he hh'.2
theorem own_ne_blk {w:World} {b1:Nat} {e1 e2:TypeId} {s1:Nat} {v1:Value} {n1:Nat} {x1:List Value} {k:Nat} {cs:Array Value} {fr:Nat×Nat} (h1:w.ownsRow b1 e1 s1 v1 n1 x1) (h2:w.heap[k]? =some (.cells cs e2 fr)) (he:e1≠e2):v1.ownBlock≠some k:=by
 intro hb1
 obtain⟨-,⟨rfl,-⟩|⟨g,cap,cur,rfl,-,hh,-⟩⟩:=h1
 ·cases hb1
 simp only[Value.ownBlock,Option.some.injEq]at hb1
 subst hb1
 rw[hh]at h2
 simp at h2
 exact he h2.2.1

def BlkRel (w:World) (pb:Nat) (E:PE) (G:Env) (labels:List (List UInt8)) (result:List UInt8) (other:Bool) (T:Bool×PS) (n f:Nat) (ov sv dv:Value) (wr:World):Prop:=
 ∃(stack:List UInt8) (dead:Bool) (σ':PS) (no_:Nat) (oc:List Value),dv= .bool dead∧wr.ownsRow w.heap.size 309 6 ov no_ oc∧wr.ownsRow w.heap.size 5 1 sv stack.length (byteVals stack)∧PSt wr pb E σ'∧Kp (one pb) w wr∧
  stack.length+3000*E.left σ'≤6003000∧no_+E.left σ'≤2001∧E.left σ'≤n∧E.left σ'<f∧blk G f E labels result other stack dead σ'=T

theorem off_len (stack types:List UInt8):(offM stack types).1.length≤stack.length:=by
 unfold offM
 split
 ·simp
 ·simp
theorem own_mono {w:World} {b1 b2:Nat} {e:TypeId} {s n:Nat} {v:Value} {xs:List Value} (h:w.ownsRow b1 e s v n xs) (hb:b2≤b1):w.ownsRow b2 e s v n xs:=by
 obtain⟨h1,h2|⟨g,cap,cur,h3,h4,h5⟩⟩:=h
 ·exact⟨h1,.inl h2⟩
 ·exact⟨h1,.inr ⟨g,cap,cur,h3,by omega,h5⟩⟩
theorem row_new6 (w:World) (c0 c1 c2 c3 c4 c5:Value) (t:TypeId):RowAt (w.alloc (.cells #[c0,c1,c2,c3,c4,c5] t)) (.slice (some ⟨w.heap.size,0,none⟩) 1 1) 6 1 [c0,c1,c2,c3,c4,c5]:=
 ⟨rfl,.inr ⟨_,0,1,rfl,Nat.le_refl _,fun k u hk=>by
  have h:=heap_alloc_new w (.cells #[c0,c1,c2,c3,c4,c5] t)
  simp only[World.cell?,Nat.zero_add,h]
  simpa using hk⟩⟩
theorem dead_eq (x:UInt8):(((x.toNat:Int)==0)||((x.toNat:Int)==12)||((x.toNat:Int)==14)||((x.toNat:Int)==15))=decide (x=0∨x=12∨x=14∨x=15):=by
 rw[Bool.eq_iff_iff];simp[←UInt8.toNat_inj];omega
theorem inner_len (B:PE→List (List UInt8)→List UInt8→Bool→PS→Bool×PS) (E:PE) (labels:List (List UInt8)) (op n:Nat) (at_:Int) (stack:List UInt8) (σ:PS):(innerF B E labels op n at_ stack σ).1.length≤stack.length+1:=by
 unfold innerF
 split
 ·simp
 ·simp only[List.length_append]
  split <;>simp
theorem left_le {w:World} {pb:Nat} {E:PE} {σ:PS} (h:PSt w pb E σ):E.left σ≤2000:=by
 have h1:=h.len
 have h2:=h.en
 cases σ<;>simp[PE.left]<;>omega

theorem block_of {n:Nat} (IH: ∀m,m<n→BlockOK m):BlockOK n:=by
 intro w pb E G labels result lv rv other σ f hpre hst hln hlf
 obtain⟨T,hT⟩: ∃T,T=blk G f E labels result other [] false σ:=⟨_,rfl⟩
 rw[←hT]
 have HT:=hide hT.symm
 have HP:=hide hpre
 have HS:=hide hst
 have hpb:=hst.lt
 have hl20:=left_le hst
 have Hln:=hide hln
 have HIH:=hide IH
 obtain⟨ad,cap,rfl,_⟩:=hpre.res.shape
 clear hT hpre hst hln IH
 go_enter Tryz.func161,Tryz.ntmps161
 go_wp2
 go_loopg [10,11,12] f (fun k ov sv dv wr=>BlkRel w pb E G labels result other T n k ov sv dv wr∧k≤f)
 case atStart=>exact⟨⟨[],false,σ,0,[],rfl,World.ownsRow_nil _ _ _ _,World.ownsRow_nil _ _ _ _,HS.out,Kp.refl _ _,by simp;omega,by omega,Hln.out,hlf,HT.out⟩,Nat.le_refl _⟩
 case round=>
  obtain⟨⟨stack,dead,σ',no_,oc,rfl,hoo,hos,hsr,hkr,hsl,hnl,hlnn,hlg,hblk⟩,hgf⟩:=hrel
  obtain⟨g,rfl⟩: ∃g,gk=g+1:=⟨gk -1,by omega⟩
  rw[blk]at hblk
  dsimp only at hblk
  have HOO:=hide hoo
  have HOS:=hide hos
  have HSR:=hide hsr
  have HKR:=hide hkr
  obtain⟨ado,capo,rfl⟩:=own_shape hoo
  obtain⟨ads,caps,rfl⟩:=own_shape hos
  obtain⟨i,err,pl,hi,hb,hp,-⟩:=hsr.obj
  obtain⟨hc,-⟩:=cells_of hb
  have HPl:=hide hp
  clear hoo hos hkr hb hp
  by_cases hbd:badM σ'=true
  ·rw[if_pos hbd]at hblk
   have HB:=hide hblk
   clear hblk hsr
   go_wp2_with fail
   refine(bad_any HSR.out).mono ?_
   rintro e w1 ⟨rfl,rfl⟩
   go_wp2
   go_ret2
   rw[←HB.out]
   exact⟨none,0,0,rfl,HSR.out,HKR.out⟩
  ·rw[if_neg hbd]at hblk
   simp only[Bool.not_eq_true]at hbd
   have hn:=next_any hsr
   have hfw:=next_fwd (E:=E) (σ:=σ')
   generalize(nextM E σ').1=x at *
   generalize(nextM E σ').2=σ1 at *
   have Hn:=hide hn
   have hxl:=x.toNat_lt
   clear hn hsr
   by_cases hb1:badM σ1=true
   ·rw[if_pos hb1]at hblk
    have HB:=hide hblk
    clear hblk
    go_wp2_with fail
    refine(bad_any HSR.out).mono ?_
    rintro e w1 ⟨rfl,rfl⟩
    go_wp2_with fail
    refine Hn.out.mono ?_
    rintro e w2 ⟨rfl,h2,k2⟩
    have H2:=hide h2
    clear h2
    go_wp2_with fail
    refine(bad_any H2.out).mono ?_
    rintro e w3 ⟨rfl,rfl⟩
    go_wp2
    go_ret2
    rw[←HB.out]
    exact⟨none,0,0,rfl,H2.out,HKR.out.trans k2⟩
   ·rw[if_neg hb1]at hblk
    simp only[Bool.not_eq_true]at hb1
    have hfl:=hfw.left hb1
    have hst1: ∀e,failM e i σ1=failM e σ'.place σ1:=fun e=>fail_place HPl.out (fun h=>by rw[hbd]at h;cases h) e
    have HST1:=hide hst1
    clear hst1 hfw
    have q5:=u8_eq x 5
    have q11:=u8_eq x 11
    rw[show(((5:UInt8).toNat:Nat):Int)=5 from rfl]at q5
    rw[show(((11:UInt8).toNat:Nat):Int)=11 from rfl]at q11
    by_cases h511:x=5∨x=11
    ·rw[if_pos h511]at hblk
     obtain⟨b5,hb5⟩: ∃b5:Bool,b5=decide (x=5):=⟨_,rfl⟩
     obtain⟨eq,heq⟩: ∃eq:Bool,eq=decide (stack=result):=⟨_,rfl⟩
     have hq5:((x.toNat:Int)==5)=b5:=by rw[q5,hb5];rfl
     have hq11:b5=false→((x.toNat:Int)==11)=true:=by
      intro h
      rw[q11]
      rcases h511 with h1|h1
      ·rw[hb5,h1]at h;simp at h
      ·simp[h1]
     have hT:T=(b5,if (dead=false∧eq=false)∨(b5=true∧other=false)then failM 3 σ'.place σ1 else σ1):=by
      rw[←hblk,hb5,heq]
      simp
     have HTT:=hide hT
     have Heq:=hide heq
     have Hq11:=hide hq11
     clear hblk h511 hb5 heq hq11 q5 q11 hT
     go_wp2_with fail
     refine(bad_any HSR.out).mono ?_
     rintro e w1 ⟨rfl,rfl⟩
     go_wp2_with fail
     refine Hn.out.mono ?_
     rintro e w2 ⟨rfl,h2,k2⟩
     have H2:=hide h2
     have kr2:=HKR.out.trans k2
     have hbs:BytesAt w2 (.slice ads stack.length caps) stack:=BytesAt.kp (RowAt.own HOS.out) k2 (fun b hb e=>by have :=own_new HOS.out b hb;unfold one at e;omega)
     have hbr:=HP.out.res.one HP.out.resS kr2
     have HBS:=hide hbs
     have HBR:=hide hbr
     clear h2 hbs hbr
     go_wp2_with fail
     refine(bad_any H2.out).mono ?_
     rintro e w3 ⟨rfl,rfl⟩
     have hfin: ∀w',PSt w' pb E (failM 3 i σ1)→PSt w' pb E (failM 3 σ'.place σ1):=fun w' h=>by rw[←HST1.out];exact h
     have Hfin:=hide hfin
     clear hfin
     cases b5
     ·have hq:=Hq11.out rfl
      go_wp2_with fail
      refine(equal_any HBS.out HBR.out (by omega)).mono ?_
      rintro e w4 ⟨rfl,k4⟩
      rw[←Heq.out]
      have H4:=hide (H2.out.no k4)
      cases dead<;>cases eq
      ·go_wp2_with fail
       refine(fail_any H4.out _ _ (by decide)).mono ?_
       rintro e w5 ⟨rfl,h5,k5⟩
       have H5:=hide h5
       clear h5
       go_wp2
       go_ret2
       rw[HTT.out]
       exact⟨ado,no_,capo,rfl,Hfin.out _ H5.out,(kr2.then k4).trans k5⟩
      all_goals
       go_wp2
       go_ret2
       rw[HTT.out]
       exact⟨ado,no_,capo,rfl,H4.out,kr2.then k4⟩
     ·go_wp2_with fail
      refine(equal_any HBS.out HBR.out (by omega)).mono ?_
      rintro e w4 ⟨rfl,k4⟩
      rw[←Heq.out]
      have H4:=hide (H2.out.no k4)
      cases dead<;>cases eq<;>cases other
      all_goals first
       |(go_wp2_with fail
         refine(fail_any H4.out _ _ (by decide)).mono ?_
         rintro e w5 ⟨rfl,h5,k5⟩
         have H5:=hide h5
         clear h5
         go_wp2
         go_ret2
         rw[HTT.out]
         exact⟨ado,no_,capo,rfl,Hfin.out _ H5.out,(kr2.then k4).trans k5⟩)
       |(go_wp2
         go_ret2
         rw[HTT.out]
         exact⟨ado,no_,capo,rfl,H4.out,kr2.then k4⟩)
    ·rw[if_neg h511]at hblk
     have hx5:x≠5:=fun e=>h511 (.inl e)
     have hx11:x≠11:=fun e=>h511 (.inr e)
     rw[show(x==5)=false by simpa using hx5]at q5
     rw[show(x==11)=false by simpa using hx11]at q11
     by_cases hk:knownM x=false
     ·rw[if_pos hk]at hblk
      have HB:=hide hblk
      clear hblk h511 hx5 hx11
      go_wp2_with fail
      refine(bad_any HSR.out).mono ?_
      rintro e w1 ⟨rfl,rfl⟩
      go_wp2_with fail
      refine Hn.out.mono ?_
      rintro e w2 ⟨rfl,h2,k2⟩
      have H2:=hide h2
      clear h2
      go_wp2_with fail
      refine(bad_any H2.out).mono ?_
      rintro e w3 ⟨rfl,rfl⟩
      go_wp2_with fail
      refine(known_any _ x).mono ?_
      rintro e w4 ⟨rfl,rfl⟩
      go_wp2_with fail
      refine(fail_any H2.out _ _ (by decide)).mono ?_
      rintro e w5 ⟨rfl,h5,k5⟩
      rw[HST1.out]at h5
      have H5:=hide h5
      have hbf:=bad_fail (σ:=σ1) 2 σ'.place
      clear h5
      cases dead
      ·go_wp2_with fail
       refine(bad_any H5.out).mono ?_
       rintro e w6 ⟨rfl,rfl⟩
       go_wp2
       go_ret2
       rw[←HB.out]
       exact⟨none,0,0,rfl,H5.out,(HKR.out.trans k2).trans k5⟩
      ·go_wp2_with fail
       refine(fail_any H5.out _ _ (by decide)).mono ?_
       rintro e w6 ⟨rfl,h6,k6⟩
       rw[fail_of_bad hbf]at h6
       have H6:=hide h6
       clear h6
       go_wp2_with fail
       refine(bad_any H6.out).mono ?_
       rintro e w7 ⟨rfl,rfl⟩
       go_wp2
       go_ret2
       rw[←HB.out]
       exact⟨none,0,0,rfl,H6.out,((HKR.out.trans k2).trans k5).trans k6⟩
     ·rw[if_neg hk]at hblk
      simp only[Bool.not_eq_false]at hk
      cases hdd:dead
      ·rw[hdd]at hblk
       rw[if_neg (by simp)]at hblk
       subst hdd
       have hop:=known_instr hk hx5 hx11
       have hr0:Read0 wr pb E G labels stack lv (.slice ads stack.length caps):=
        ⟨HP.out.env.kp HKR.out,HP.out.lab.kp HKR.out,by have :=HP.out.dl;have :=HP.out.d16;omega,HP.out.labLL,by have :=HP.out.dl;have :=HP.out.d0;omega,RowAt.own HOS.out,fun b hb=>by have :=own_new HOS.out b hb;omega,by omega⟩
       have hyl:=instr_len (E:=E) (G:=G) (labels:=labels) (stack:=stack) (op:=x.toNat) (σ:=σ1) HP.out.labLL HP.out.env.funLL
       have hyf:=instr_fwd (E:=E) (G:=G) (labels:=labels) (stack:=stack) (op:=x.toNat) (σ:=σ1)
       have hin:=fun(W:World) (hW:PSt W pb E σ1) (k:Kp (one pb) wr W)=>instr_any hr0 hW k i x.toNat hop
       have hyn:(x=2∨x=3∨x=4)→ ∃t:UInt8,(instrM E G labels stack x.toNat σ1).1.n=t.toNat:=by
        intro h
        refine⟨(needM E 64 127 126 σ1).1,?_⟩
        rcases h with rfl |rfl |rfl <;>rfl
       generalize instrM E G labels stack x.toNat σ1=y at *
       have Hin:=hide hin
       have Hyf:=hide hyf
       have Hyn:=hide hyn
       have HR0:=hide hr0
       have HB:=hide hblk
       clear hblk h511 hin hyf hyn hr0 hop
       obtain⟨hyt,hyp⟩:=hyl
       go_wp2_with fail
       refine(bad_any HSR.out).mono ?_
       rintro e w1 ⟨rfl,rfl⟩
       go_wp2_with fail
       refine Hn.out.mono ?_
       rintro e w2 ⟨rfl,h2,k2⟩
       have H2:=hide h2
       clear h2
       go_wp2_with fail
       refine(bad_any H2.out).mono ?_
       rintro e w3 ⟨rfl,rfl⟩
       go_wp2_with fail
       refine(known_any _ x).mono ?_
       rintro e w4 ⟨rfl,rfl⟩
       go_wp2_with fail
       refine(bad_any H2.out).mono ?_
       rintro e w5 ⟨rfl,rfl⟩
       go_wp2_with fail
       refine(Hin.out _ H2.out k2).mono ?_
       rintro e w6 ⟨⟨lab,tv,pv,rfl,⟨hl1,hl2,hl3⟩,⟨ht1,ht2,ht3⟩,⟨hp1,hp2,hp3⟩⟩,h6,k6⟩
       obtain⟨la,lc,rfl,_⟩:=hl2.shape
       obtain⟨ta,tc,rfl,_⟩:=ht2.shape
       obtain⟨pa,pc,rfl,_⟩:=hp2.shape
       have H6:=hide h6
       have HTV:=hide ht2
       have HPV:=hide hp2
       have kr6:=k2.trans k6
       have hos6:=kr6.own HOS.out (fun b hb e=>by have :=own_new HOS.out b hb;unfold one at e;omega)
       have HOS6:=hide hos6
       have HKR6:=hide (HKR.out.trans kr6)
       clear h6 hl1 hl2 hl3 ht1 ht2 ht3 hp1 hp2 hp3 hos6
       go_wp2_with fail
       refine(off_any (a:=stack) (b:=y.1.take) ((BytesAt.kp (RowAt.own HOS6.out) ((Kp.refl no w6).alloc _) (fun _ _ h=>h))) (HTV.out.kp ((Kp.refl no w6).alloc _) (fun _ _ h=>h)) (by omega) (by omega)).mono ?_
       rintro e w7 ⟨vl,rfl,hvl,hvs,k7⟩
       obtain⟨va,vc,rfl,_⟩:=hvl.shape
       have hol:=off_len stack y.1.take
       have hB:=HB.out
       generalize offM stack y.1.take=o at *
       have HVL:=hide hvl
       have kX:Kp no w6 w7:=((Kp.refl no w6).alloc _).trans k7
       have HKX:=hide kX
       have H7:=hide (H6.out.no kX)
       have hbx7:w7.heap[w6.heap.size]? =some (nodeO x.toNat y.1.n (.slice la y.1.labels.length lc) nilS nilS y.1.value):=k7.blk (heap_alloc_new _ _) (fun h=>h)
       have HBX7:=hide hbx7
       have HHB:=hide hB
       have hst2:failM 3 (i:Int) y.2=failM 3 σ'.place y.2:=fail_place HPl.out (fun h=>by rw[hbd]at h;cases h) 3
       have HST2:=hide hst2
       clear hvl hvs hB HB k7 kX hst2 hbx7
       by_cases hgood:y.1.ok=true∧o.2=true
       ·obtain⟨hok,hth⟩:=hgood
        have hB:=HHB.out
        rw[if_neg (show ¬(y.1.ok=false∨o.2=false)by simp[hok,hth])]at hB
        by_cases hby:badM y.2=true
        ·rw[if_pos hby]at hB
         have HB:=hide hB
         clear hB HHB
         go_wp2_with fail
         refine(bad_any H7.out).mono ?_
         rintro e w8 ⟨rfl,rfl⟩
         go_wp2
         go_ret2
         rw[←HB.out]
         exact⟨none,0,0,rfl,H7.out,HKR6.out.then HKX.out⟩
        ·rw[if_neg hby]at hB
         simp only[Bool.not_eq_true]at hby
         have HB:=hide hB
         clear hB HHB
         go_wp2_with fail
         refine(bad_any H7.out).mono ?_
         rintro e w8 ⟨rfl,rfl⟩
         have hlt7:w6.heap.size<w8.heap.size:=lt_of_blk HBX7.out
         have hpb8:pb<w8.heap.size:=by have :=HKR6.out.size;omega
         obtain⟨j1,hj1,hy0,hy1,hy2⟩:=info_u8'
         go_wp2_with(at_builtin;refine wpList_append_row _ rfl _ _ 25 rfl w8.heap.size 5 j1 (.int .u8 0) 1 1 Tryz.underlying25 hj1 hy0 hy1 hy2 rfl (by decide) _ _ _ rfl (World.ownsRow_nil _ _ _ _) _ o.1.length (byteVals o.1) rfl HVL.out (bytes_oneCell _) ?c3 ?c4 ?c5 ?_)
         case c3=>unfold maxLen;omega
         case c4=>omega
         case c5=>simp
         intro v9 w9 hown9 hgrow9
         obtain⟨a9,c9,rfl⟩:=own_shape hown9
         have HO9:=hide hown9
         have k9:Kp no w8 w9:=(Kp.refl no w8).grown hgrow9 (fun k hk=>by cases hk)
         have HK9:=hide k9
         have hpv9:BytesAt w9 (.slice pa y.1.put.length pc) y.1.put:=HPV.out.kp (HKX.out.trans k9) (fun _ _ h=>h)
         have HPV9:=hide hpv9
         have hsz9:=k9.size
         clear hown9 hgrow9 k9 hpv9
         go_wp2_with(at_builtin;refine wpList_append_row _ rfl _ _ 25 rfl w8.heap.size 5 j1 (.int .u8 0) 1 1 Tryz.underlying25 hj1 hy0 hy1 hy2 rfl (by decide) _ _ _ rfl HO9.out _ y.1.put.length (byteVals y.1.put) rfl HPV9.out (bytes_oneCell _) ?d3 ?d4 ?d5 ?_)
         case d3=>unfold maxLen;omega
         case d4=>omega
         case d5=>omega
         intro v10 w10 hown10 hgrow10
         obtain⟨a10,c10,rfl⟩:=own_shape hown10
         have HO10:=hide hown10
         have k10:Kp (fun k=>w8.heap.size≤k) w9 w10:=(Kp.refl _ _).grown hgrow10 (fun k hk=> .inl (own_new HO9.out k hk))
         have HK10:=hide k10
         have hBX10:=k10.blk (HK9.out.blk HBX7.out (fun h=>h)) (show ¬(w8.heap.size≤w6.heap.size)by omega)
         have HBX10:=hide hBX10
         obtain⟨hcb,hfb⟩:=cells_of hBX10
         have KR10:=hide ((((HKR.out.trans kr6).then HKX.out).then HK9.out).comp k10 (S:=one pb) (fun _ _ h=>h) (fun k hk h=>by have :=HKR6.out.size;omega))
         have H10:=hide (((H7.out.no HK9.out).keep k10 (fun k hk=>by omega)))
         have hoo10:=k10.own (HK9.out.own (HKX.out.own (kr6.own HOO.out (fun b hb e=>by have :=own_new HOO.out b hb;unfold one at e;omega)) (fun _ _ h=>h)) (fun _ _ h=>h)) (fun b hb e=>by
          have h1:=(HOO.out.lt b hb).2
          have h2:=kr6.size
          omega)
         have HOO10:=hide hoo10
         have hlt10:w6.heap.size<w10.heap.size:=lt_of_blk hBX10
         have q2:=u8_eq x 2
         have q3:=u8_eq x 3
         have q4:=u8_eq x 4
         rw[show(((2:UInt8).toNat:Nat):Int)=2 from rfl]at q2
         rw[show(((3:UInt8).toNat:Nat):Int)=3 from rfl]at q3
         rw[show(((4:UInt8).toNat:Nat):Int)=4 from rfl]at q4
         clear hown10 hgrow10 k10 hBX10 hoo10
         obtain⟨j2,hj2,hw0,hw1,hw2⟩:=info_node'
         by_cases hin3:x=2∨x=3∨x=4
         ·obtain⟨t,ht⟩:=Hyn.out hin3
          have hylt:E.left y.2+1≤E.left σ':=by
           have h1:=(Hyf.out (fun j hj=>(H2.out.ok j hj).1)).left hby
           omega
          have hB:=HB.out
          rw[if_pos hin3,ht]at hB
          have hpl:(i:Int)=σ'.place:=by
           rcases HPl.out with h|h
           ·exact h
           ·rw[hbd]at h;cases h
          rw[←hpl]at hB
          clear hpl
          have hbx:=HBX10.out
          rw[ht]at hbx
          have hxo:x.toNat=2∨x.toNat=3∨x.toNat=4:=by
           rcases hin3 with rfl |rfl |rfl
           ·exact .inl rfl
           ·exact .inr (.inl rfl)
           ·exact .inr (.inr rfl)
          have hos10:w10.ownsRow w8.heap.size 5 1 (.slice a10 (o.1.length+y.1.put.length) c10) (o.1++y.1.put).length (byteVals (o.1++y.1.put)):=by simpa using HO10.out
          have hkwr:Kp (one pb) w1 w10:=((kr6.then HKX.out).then HK9.out).comp HK10.out (fun _ _ h=>h) (fun k hk h=>by have :=kr6.size;omega)
          have hpre:InPre w1 w10 pb E G labels lv (o.1++y.1.put) (.slice a10 (o.1.length+y.1.put.length) c10) w6.heap.size w8.heap.size x.toNat t la y.1.labels.length lc y.1.value:=
           ⟨HR0.out.env,HR0.out.lab,hkwr,kr6.size,by have :=HKR.out.size;omega,HP.out.labLL,HP.out.d0,HP.out.d16,HP.out.dl,hbx,by have :=HKR6.out.size;omega,hos10,hpb8,own_ne_blk hos10 hbx (by decide),by have :=HK9.out.size;have :=HK10.out.size;omega,by simp only[List.length_append];omega,hxo⟩
          have hinn:=inner_of (f:=g) (HIH.out (n -1) (by omega)) hpre H10.out (by omega) (by omega) i
          have hzl:=inner_len (fun E' l' r' o' σ'=>blk G g E' l' r' o' [] false σ') E labels x.toNat t.toNat i (o.1++y.1.put) y.2
          have hzf:E.left (innerF (fun E' l' r' o' σ'=>blk G g E' l' r' o' [] false σ') E labels x.toNat t.toNat i (o.1++y.1.put) y.2).2≤E.left y.2:=
           fwd_left (inner_fwd (fun E' l r o' σ'' he hh=>(blk_fwd g E' l r o' [] false σ'' (fun j hj=>by rw[he];exact hh j hj)).en he) (fun E' l r o' σ'' hb=>by rw[blk_sticky hb];exact hb) (fun j hj=>(H10.out.ok j hj).1))
          generalize innerF (fun E' l' r' o' σ'=>blk G g E' l' r' o' [] false σ') E labels x.toNat t.toNat i (o.1++y.1.put) y.2=z at *
          have Hinn:=hide hinn
          have Hzl:=hide hzl
          have hdd:decide (x=0∨x=12∨x=14∨x=15)=false:=by
           rcases hin3 with rfl |rfl |rfl <;>decide
          rw[hdd]at hB
          have HB2:=hide hB
          have Hht:=hide ht
          clear hinn hB HB hpre hbx hos10 hxo hzl hdd
          rw[ht]at hcb
          clear ht
          have hq3:(((x.toNat:Int)==2)=true)∨(((x.toNat:Int)==2)=false∧((x.toNat:Int)==3)=true)∨(((x.toNat:Int)==2)=false∧((x.toNat:Int)==3)=false∧((x.toNat:Int)==4)=true):=by
           rcases hin3 with rfl |rfl |rfl
           ·exact .inl rfl
           ·exact .inr (.inl ⟨rfl,rfl⟩)
           ·exact .inr (.inr ⟨rfl,rfl,rfl⟩)
          have q0:((x.toNat:Int)==0)=false:=by rcases hin3 with rfl |rfl |rfl <;>rfl
          have q12:((x.toNat:Int)==12)=false:=by rcases hin3 with rfl |rfl |rfl <;>rfl
          have q14:((x.toNat:Int)==14)=false:=by rcases hin3 with rfl |rfl |rfl <;>rfl
          have q15:((x.toNat:Int)==15)=false:=by rcases hin3 with rfl |rfl |rfl <;>rfl
          clear hin3 q2 q3 q4
          rcases hq3 with q2|⟨q2,q3⟩|⟨q2,q3,q4⟩
          all_goals
           go_wp2_with fail
           refine Hinn.out.mono ?_
           rintro e w11 ⟨v11,rfl,ho11,h11,k11,ba,bl,bc,ea,el,ec,val',hbx11⟩
           obtain⟨a11,c11,rfl⟩:=own_shape ho11
           have HO11:=hide ho11
           have H11:=hide h11
           have HK11:=hide k11
           obtain⟨hcb11,hfb11⟩:=cells_of hbx11
           have hlt11:w6.heap.size<w11.heap.size:=lt_of_blk hbx11
           have hoo11:=k11.own HOO10.out (fun b hb e=>by
            have h1:=(HOO.out.lt b hb)
            have h2:=kr6.size
            rcases e with e|e|e
            ·omega
            ·omega
            ·exact own_ne HOO10.out HO10.out (by decide) b hb (by simpa using e))
           have HOO11:=hide hoo11
           have hsz11:=k11.size
           clear ho11 h11 k11 hbx11 hoo11 hcb hfb
           go_wp2_with(at_builtin;refine wpList_append_row _ rfl _ _ 191 rfl w.heap.size 309 j2 (.agg #[.int .u8 0,.int .u64 0,.slice none 0 0,.slice none 0 0,.slice none 0 0,.int .i64 0]) 6 96 Tryz.underlying191 hj2 hw0 hw1 hw2 rfl (by decide) _ _ _ rfl (HOO11.out.alloc _) _ 1 [.int .u8 x.toNat,.int .u64 t.toNat,.slice la y.1.labels.length lc,.slice ba bl bc,.slice ea el ec,.int .i64 val'] rfl ?e2 ?e1 ?e3 ?e4 ?e5 ?_)
           case e2=>exact row_new6 _ _ _ _ _ _ _ _
           case e1=>first |exact⟨rfl,rfl,rfl,rfl,rfl,rfl⟩|(intro u hu;simp at hu;rcases hu with rfl |rfl |rfl |rfl |rfl |rfl <;>rfl)
           case e3=>unfold maxLen;omega
           case e4=>omega
           case e5=>have :=KR10.out.size;simp;omega
           intro v12 w12 hown12 hgrow12
           obtain⟨a12,c12,rfl⟩:=own_shape hown12
           have HO12:=hide hown12
           have k12:Kp (fun k=>(Value.slice ado no_ capo).ownBlock=some k) w11 w12:=((Kp.refl _ w11).alloc _).grown hgrow12 (fun k hk=> .inl hk)
           have HK12:=hide k12
           clear hown12 hgrow12 k12
           have hrel:BlkRel w pb E G labels result other T n g (.slice a12 (no_+1) c12) (.slice a11 z.1.length c11) (.bool false) w12∧g≤f:=by
            refine⟨⟨z.1,false,z.2,no_+1,_,rfl,HO12.out,?_,?_,?_,?_,?_,?_,?_,?_⟩,by omega⟩
            ·exact own_mono (HK12.out.own HO11.out (fun b hb e=>own_ne HOO11.out HO11.out (by decide) b e hb)) (by have :=HKR6.out.size;omega)
            ·exact H11.out.keep HK12.out (fun k hk e=>by have :=own_new HOO.out k e;omega)
            ·refine(KR10.out.comp HK11.out (S:=one pb) (fun _ _ h=>h) (fun k hk h=> ?_)).comp HK12.out (fun _ _ h=>h) (fun k hk h=>by have :=own_new HOO.out k h;omega)
             have :=HKR6.out.size
             rcases h with h|h|h
             ·exact h
             ·omega
             ·have :=own_new HO10.out k (by simpa using h);omega
            ·have :=Hzl.out;simp only[List.length_append]at this;omega
            ·omega
            ·omega
            ·omega
            ·exact HB2.out
           have Hrel:=hide hrel
           clear hrel
           go_wp2
           go_roundg g
           case measure=>omega
           case rel=>exact Hrel.out
         ·have hB:=HB.out
          rw[if_neg hin3]at hB
          have HB2:=hide hB
          have hx2:x≠2:=fun e=>hin3 (.inl e)
          have hx3:x≠3:=fun e=>hin3 (.inr (.inl e))
          have hx4:x≠4:=fun e=>hin3 (.inr (.inr e))
          rw[show(x==2)=false by simpa using hx2]at q2
          rw[show(x==3)=false by simpa using hx3]at q3
          rw[show(x==4)=false by simpa using hx4]at q4
          clear hB HB hin3 hx2 hx3 hx4
          go_wp2_with(at_builtin;refine wpList_append_row _ rfl _ _ 191 rfl w.heap.size 309 j2 (.agg #[.int .u8 0,.int .u64 0,.slice none 0 0,.slice none 0 0,.slice none 0 0,.int .i64 0]) 6 96 Tryz.underlying191 hj2 hw0 hw1 hw2 rfl (by decide) _ _ _ rfl (HOO10.out.alloc _) _ 1 [.int .u8 x.toNat,.int .u64 y.1.n,.slice la y.1.labels.length lc,nilS,nilS,.int .i64 y.1.value] rfl ?e2 ?e1 ?e3 ?e4 ?e5 ?_)
          case e2=>exact row_new6 _ _ _ _ _ _ _ _
          case e1=>first |exact⟨rfl,rfl,rfl,rfl,rfl⟩|(intro u hu;simp at hu;rcases hu with rfl |rfl |rfl |rfl |rfl <;>rfl)
          case e3=>unfold maxLen;omega
          case e4=>omega
          case e5=>have :=KR10.out.size;simp;omega
          intro v11 w11 hown11 hgrow11
          obtain⟨a11,c11,rfl⟩:=own_shape hown11
          have HO11:=hide hown11
          have k11:Kp (fun k=>(Value.slice ado no_ capo).ownBlock=some k) w10 w11:=((Kp.refl _ w10).alloc _).grown hgrow11 (fun k hk=> .inl hk)
          have HK11:=hide k11
          clear hown11 hgrow11 k11
          have hylt:E.left y.2+1≤E.left σ':=by
           have h1:=(Hyf.out (fun j hj=>(H2.out.ok j hj).1)).left hby
           omega
          have hrel: ∀(dd:Bool),dd=decide (x=0∨x=12∨x=14∨x=15)→BlkRel w pb E G labels result other T n g (.slice a11 (no_+1) c11) (.slice a10 (o.1.length+y.1.put.length) c10) (.bool dd) w11∧g≤f:=by
           intro dd hdd
           refine⟨⟨o.1++y.1.put,dd,y.2,no_+1,_,rfl,HO11.out,?_,?_,?_,?_,?_,?_,?_,?_⟩,by omega⟩
           ·have h1:=HK11.out.own HO10.out (fun b hb e=>own_ne HOO10.out HO10.out (by decide) b e hb)
            have h2:=own_mono h1 (show w.heap.size≤w8.heap.size by have :=HKR6.out.size;omega)
            simpa using h2
           ·exact H10.out.keep HK11.out (fun k hk e=>by have :=own_new HOO.out k e;omega)
           ·exact KR10.out.comp HK11.out (fun _ _ h=>h) (fun k hk h=>by have :=own_new HOO.out k h;omega)
           ·simp only[List.length_append];omega
           ·omega
           ·omega
           ·omega
           ·rw[hdd];exact HB2.out
          have Hrel:=hide hrel
          clear hrel
          go_wp2
          all_goals
           go_roundg g
           case measure=>omega
           case rel=>exact Hrel.out _ (by
            symm
            first
             |exact(dead_eq x).symm
             |(rw[decide_eq_true_iff];simp only[←UInt8.toNat_inj];simp;simp at *;omega)
             |(rw[decide_eq_false_iff_not];simp only[←UInt8.toNat_inj];simp;simp at *;omega))
       ·have hB:=HHB.out
        have hor:y.1.ok=false∨o.2=false:=by
         cases h1:y.1.ok
         ·exact .inl rfl
         ·cases h2:o.2
          ·exact .inr rfl
          ·exact absurd ⟨h1,h2⟩ hgood
        rw[if_pos hor,if_pos (bad_fail 3 σ'.place)]at hB
        have HB:=hide hB
        have hbf:=bad_fail (σ:=y.2) 3 σ'.place
        clear hB HHB hgood
        rcases hor with hok|hth
        ·go_wp2_with fail
         refine(fail_any H7.out _ _ (by decide)).mono ?_
         rintro e w8 ⟨rfl,h8,k8⟩
         rw[HST2.out]at h8
         have H8:=hide h8
         clear h8
         go_wp2_with fail
         refine(bad_any H8.out).mono ?_
         rintro e w9 ⟨rfl,rfl⟩
         go_wp2
         go_ret2
         rw[←HB.out]
         exact⟨none,0,0,rfl,H8.out,(HKR6.out.then HKX.out).trans k8⟩
        ·cases hok:y.1.ok
         all_goals
          go_wp2_with fail
          refine(fail_any H7.out _ _ (by decide)).mono ?_
          rintro e w8 ⟨rfl,h8,k8⟩
          rw[HST2.out]at h8
          have H8:=hide h8
          clear h8
          go_wp2_with fail
          refine(bad_any H8.out).mono ?_
          rintro e w9 ⟨rfl,rfl⟩
          go_wp2
          go_ret2
          rw[←HB.out]
          exact⟨none,0,0,rfl,H8.out,(HKR6.out.then HKX.out).trans k8⟩
      ·rw[hdd]at hblk
       rw[if_pos rfl]at hblk
       have HB:=hide hblk
       subst hdd
       clear hblk h511 hx5 hx11
       go_wp2_with fail
       refine(bad_any HSR.out).mono ?_
       rintro e w1 ⟨rfl,rfl⟩
       go_wp2_with fail
       refine Hn.out.mono ?_
       rintro e w2 ⟨rfl,h2,k2⟩
       have H2:=hide h2
       clear h2
       go_wp2_with fail
       refine(bad_any H2.out).mono ?_
       rintro e w3 ⟨rfl,rfl⟩
       go_wp2_with fail
       refine(known_any _ x).mono ?_
       rintro e w4 ⟨rfl,rfl⟩
       go_wp2_with fail
       refine(fail_any H2.out _ _ (by decide)).mono ?_
       rintro e w5 ⟨rfl,h5,k5⟩
       rw[HST1.out]at h5
       have H5:=hide h5
       have hbf:=bad_fail (σ:=σ1) 3 σ'.place
       clear h5
       go_wp2_with fail
       refine(bad_any H5.out).mono ?_
       rintro e w6 ⟨rfl,rfl⟩
       go_wp2
       go_ret2
       rw[←HB.out]
       exact⟨none,0,0,rfl,H5.out,(HKR.out.trans k2).trans k5⟩

end Go.Proofs.YtdeplgkhmebalaaGreatDoor.Rf

set_option linter.unusedSimpArgs false
set_option linter.unusedVariables false
namespace Go.Proofs.YtdeplgkhmebalaaGreatDoor.Rf
open Go.RowKit
theorem block_all: ∀n,BlockOK n:=by
 intro n
 induction n using Nat.strongRecOn with
 |ind n ih=>exact block_of ih
end Go.Proofs.YtdeplgkhmebalaaGreatDoor.Rf

set_option linter.unusedSimpArgs false
set_option linter.unusedVariables false
namespace Go.Proofs.YtdeplgkhmebalaaGreatDoor.Rf
open Go.RowKit

theorem PSt.turn {w w':World} {pb:Nat} {E E':PE} {σ:PS} (h:PSt w pb E σ) (hd:E'.data=E.data) (hb:E'.b=E.b) (k:Kp (one pb) w w') (hen:E'.en≤E.data.length) (hi: ∀i,σ= .ok i→i≤E'.en)
  (hw: ∀i e p,w.heap[pb]? =some (E.obj i e p)→w'.heap[pb]? =some (E'.obj i e p)):PSt w' pb E' σ:=
 ⟨fun i hh=>⟨hi i hh,hw _ _ _ (h.ok i hh).2⟩,fun e a he=>by
  obtain⟨h0,i,hi,hbb⟩:=h.bad e a he
  exact⟨h0,i,hi,hw _ _ _ hbb⟩,by rw[hb,hd];exact h.bytes.kp k (fun b hb e=>by have :=h.low b hb;unfold one at e;omega),by rw[hb,hd];exact h.low,by rw[hd];exact h.len,by rw[hd];exact hen⟩

structure ModAt (w:World) (pb mb base:Nat) (tv fv gv:Value) (pages:Int) (funcs:List (List UInt8×List UInt8)) (globs:List (UInt8×UInt8×Nat)):Prop where
 ne:mb≠pb
 blk:w.heap[mb]? =some (.cells #[tv,fv,gv,.int .i64 pages] 149)
 fown: ∃cells,w.ownsRow base 193 4 fv funcs.length cells∧ ∀(k:Nat) (x:List UInt8×List UInt8),funcs[k]? =some x→ ∃pv rv,cells[k*4]? =some pv∧cells[k*4+1]? =some rv∧BytesAt w pv x.1∧Sep pb pv∧BytesAt w rv x.2∧Sep pb rv∧(∀b,fv.ownBlock=some b→pv.ownBlock≠some b∧rv.ownBlock≠some b)∧(∀b,pv.ownBlock=some b∨rv.ownBlock=some b→base≤b∧b<w.heap.size)
 fsep:Sep pb fv
 fmb:fv.ownBlock≠some mb
 gat:GlobsAt w pb gv globs
 gsep: ∀b,fv.ownBlock=some b→gv.ownBlock≠some b
 funL:funcs.length≤16
 funLL: ∀x∈funcs,x.1.length≤8∧x.2.length≤1
 gloL:globs.length≤8
theorem ModAt.kp {w w':World} {pb mb base:Nat} {tv fv gv:Value} {pages:Int} {funcs:List (List UInt8×List UInt8)} {globs:List (UInt8×UInt8×Nat)} (h:ModAt w pb mb base tv fv gv pages funcs globs) (k:Kp (one pb) w w'):ModAt w' pb mb base tv fv gv pages funcs globs:=by
 obtain⟨cells,ho,hc⟩:=h.fown
 refine⟨h.ne,k.blk h.blk h.ne,⟨cells,k.own ho (fun b hb e=>h.fsep b hb e),fun j x hj=> ?_⟩,h.fsep,h.fmb,h.gat.kp k,h.gsep,h.funL,h.funLL,h.gloL⟩
 obtain⟨pv,rv,h1,h2,h3,h4,h5,h6,h7,h8⟩:=hc j x hj
 exact⟨pv,rv,h1,h2,h3.one h4 k,h4,h5.one h6 k,h6,h7,fun b hb=>by have :=h8 b hb;have :=k.size;omega⟩
theorem ModAt.funcs {w:World} {pb mb base:Nat} {tv fv gv:Value} {pages:Int} {funcs:List (List UInt8×List UInt8)} {globs:List (UInt8×UInt8×Nat)} (h:ModAt w pb mb base tv fv gv pages funcs globs):FuncsAt w pb fv funcs:=by
 obtain⟨cells,ho,hc⟩:=h.fown
 refine⟨h.fsep,cells,RowAt.own ho,fun k x hk=> ?_⟩
 obtain⟨pv,rv,h1,h2,h3,h4,h5,h6,-⟩:=hc k x hk
 exact⟨pv,rv,h1,h2,h3,h4,h5,h6⟩
theorem ModAt.env {w:World} {pb mb base:Nat} {tv fv gv:Value} {pages:Int} {funcs:List (List UInt8×List UInt8)} {globs:List (UInt8×UInt8×Nat)} (h:ModAt w pb mb base tv fv gv pages funcs globs) {E:PE} {locs:List UInt8} (hm:E.m=ptr mb) (hl:BytesAt w E.loc locs) (hs:Sep pb E.loc) (hll:locs.length≤1000):EnvAt w pb E ⟨locs,funcs,globs⟩:=
 ⟨hl,hs,⟨mb,tv,fv,gv,pages,hm,h.ne,h.blk,h.funcs,h.gat⟩,hll,by have :=h.funL;show funcs.length≤1000;omega,fun x hx=>by have :=h.funLL x hx;omega,by have :=h.gloL;show globs.length≤1000;omega⟩
end Go.Proofs.YtdeplgkhmebalaaGreatDoor.Rf
