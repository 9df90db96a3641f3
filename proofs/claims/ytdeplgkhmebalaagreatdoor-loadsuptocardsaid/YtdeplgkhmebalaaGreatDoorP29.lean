/- The look at a body keeps its bounds and goes forward: each instruction. -/
import Derived.Test.YtdeplgkhmebalaaGreatDoorP28
import Derived.Test.YtdeplgkhmebalaaGreatDoorP17
import Derived.Test.YtdeplgkhmebalaaGreatDoorP12

set_option linter.unusedSimpArgs false
set_option linter.unusedVariables false
namespace Go.Proofs.YtdeplgkhmebalaaGreatDoor
open Go.RowKit

section
variable{N:Nat} {s s1:Bd} {c:Ctx}

theorem label_keep {k:Nat} (hne:s.blocks≠[]) (z:Sz N s) (h:labelM c s= .ok (k,s1)):Sz N s1∧s.i≤s1.i∧k<s1.blocks.length∧s1.blocks=s.blocks:=by
 have hl:0<s.blocks.length:=List.length_pos_iff.2 hne
 unfold labelM at h
 split at h
 ·cases h
 ·rename_i n j hb
  cases h
  have :=below_lt hb
  exact⟨z.read j s.pos s.closed,by show s.i≤j;omega,by show s.blocks.length -1 -n<s.blocks.length;omega,rfl⟩
theorem branch_keep (hne:s.blocks≠[]) (z:Sz N s) (op:UInt8) (h:branchM c op s= .ok s1):Sz (N+1) s1∧s.i≤s1.i:=by
 unfold branchM at h
 split at h
 ·cases h
 ·rename_i k s2 hl
  obtain⟨z2,hi2,hk2,hb2⟩:=label_keep hne z hl
  split at h
  ·cases h
  ·rename_i s3 h3
   have hz3:Sz N s3∧s3.i=s2.i∧s3.blocks=s2.blocks:=by
    split at h3
    ·exact⟨take_sz z2 h3,(sunk_i (take_sunk h3)).1,(sunk_i (take_sunk h3)).2.1⟩
    ·cases h3;exact⟨z2,rfl,rfl⟩
   split at h
   ·cases h
   ·rename_i s4 h4
    obtain⟨z4,k4⟩:=carries_sz hz3.1 h4
    have hk4:k<s4.blocks.length:=by rw[(sunk_i k4).2.1,hz3.2.2];exact hk2
    cases h
    refine⟨(jump_sz z4 op hk4).read (jumpM s4 op k).i (jumpM s4 op k).pos _,?_⟩
    show s.i≤(jumpM s4 op k).i
    rw[jump_i,(sunk_i k4).1,hz3.2.1];exact hi2
theorem leave_keep (hne:s.blocks≠[]) (z:Sz N s) (h:leaveM s= .ok s1):Sz (N+1) s1∧s.i≤s1.i:=by
 unfold leaveM at h
 split at h
 ·cases h
 ·rename_i s4 h4
  obtain⟨z4,k4⟩:=carries_sz z h4
  have hk4:0<s4.blocks.length:=by rw[(sunk_i k4).2.1];exact List.length_pos_iff.2 hne
  cases h
  refine⟨(jump_sz z4 12 hk4).read (jumpM s4 12 0).i (jumpM s4 12 0).pos _,?_⟩
  show s.i≤(jumpM s4 12 0).i
  rw[jump_i,(sunk_i k4).1];exact Nat.le_refl _
theorem labels_keep (n:Nat): ∀{s s1:Bd} {l:List Nat},s.blocks≠[]→Sz N s→labelsM c n s= .ok (l,s1)→Sz N s1∧s.i≤s1.i∧s1.blocks=s.blocks∧l.length=n∧ ∀k∈l,k<s.blocks.length:=by
 induction n with
 |zero=>intro s s1 l hne z h;cases h;exact⟨z,Nat.le_refl _,rfl,rfl,fun k hk=>by cases hk⟩
 |succ n ih=>
  intro s s1 l hne z h
  rw[labelsM]at h
  split at h
  ·cases h
  ·rename_i k s2 h2
   obtain⟨z2,hi2,hk2,hb2⟩:=label_keep hne z h2
   split at h
   ·cases h
   ·rename_i l' s3 h3
    obtain⟨z3,hi3,hb3,hl3,hm3⟩:=ih (by rw[hb2];exact hne) z2 h3
    cases h
    refine⟨z3,Nat.le_trans hi2 hi3,hb3.trans hb2,by simp[hl3],fun q hq=> ?_⟩
    rcases List.mem_cons.1 hq with e|e
    ·rw[e,←hb2];exact hk2
    ·rw[←hb2];exact hm3 q e
theorem jumpAll_keep (l:List Nat): ∀{N:Nat} {s:Bd},Sz N s→(∀k∈l,k<s.blocks.length)→Sz (N+l.length) (jumpAll l s)∧(jumpAll l s).i=s.i:=by
 induction l with
 |nil=>intro N s z _;exact⟨z,rfl⟩
 |cons a l ih=>
  intro N s z h
  have ha:=h a (List.mem_cons_self ..)
  obtain⟨h1,h2⟩:=ih (jump_sz z 12 ha) (fun k hk=>by rw[(jump_same 12 ha).2.1];exact h k (List.mem_cons_of_mem _ hk))
  refine⟨h1.le (by simp;omega),?_⟩
  show(jumpAll l (jumpM s 12 a)).i=s.i
  rw[h2,jump_i]
theorem table_keep (hne:s.blocks≠[]) (z:Sz N s) (h:tableM c s= .ok s1):Sz (N+18) s1∧s.i≤s1.i:=by
 unfold tableM at h
 split at h
 ·cases h
 ·rename_i n j hb
  have hlt:=below_lt hb
  split at h
  ·cases h
  ·rename_i l s2 h2
   obtain⟨z2,hi2,hb2,hl2,hm2⟩:=labels_keep (n+1) (s:={s with i:=j}) hne (z.read j s.pos s.closed) h2
   split at h
   ·cases h
   ·rename_i s3 h3
    have z3:=take_sz z2 h3
    have k3:=sunk_i (take_sunk h3)
    split at h
    ·cases h
    ·rename_i s4 h4
     obtain⟨z4,k4⟩:=carries_sz z3 h4
     have k4':=sunk_i k4
     split at h
     ·cases h
      obtain⟨a,b⟩:=jumpAll_keep l (emit_sz z4 ⟨14,n,0,0,0⟩) (fun k hk=>by show k<s4.blocks.length;rw[k4'.2.1,k3.2.1,hb2];exact hm2 k hk)
      refine⟨((a.le (by omega)).read _ _ _:Sz (N+18) _),?_⟩
      show s.i≤(jumpAll l (emitM s4 ⟨14,n,0,0,0⟩)).i
      rw[b]
      show s.i≤s4.i
      rw[k4'.1,k3.1]
      have :j≤s2.i:=hi2
      omega
     ·cases h
theorem call_keep (z:Sz N s) (hres: ∀k,k<c.funcs.length→(c.funcs.getD k ([],[])).1.length≤8∧(c.funcs.getD k ([],[])).2.length≤1) (h:callM c s= .ok s1):Sz (N+2) s1∧s.i≤s1.i:=by
 unfold callM at h
 split at h
 ·cases h
 ·rename_i n j hb
  have hlt:=below_lt hb
  have hr:=hres n (by omega)
  split at h
  ·cases h
  ·rename_i s2 h2
   have z2:=takeAll_sz (z.read j s.pos s.closed) h2
   have k2:=sunk_i (takeN_sunk _ h2)
   cases h
   refine⟨(put_sz (emit_sz z2 _) _).le (by omega),?_⟩
   show s.i≤s2.i
   rw[k2.1];show s.i≤j;omega
theorem drop_keep (z:Sz N s) (h:dropM s= .ok s1):Sz (N+1) s1∧s.i≤s1.i:=by
 unfold dropM at h
 split at h
 ·cases h
 ·rename_i u s2 h2
  cases h
  exact⟨emit_sz (takeAny_sz z h2) _,by show s.i≤s2.i;rw[(sunk_i (takeAny_sunk h2)).1];exact Nat.le_refl _⟩
theorem choose_keep (z:Sz N s) (h:chooseM s= .ok s1):Sz (N+2) s1∧s.i≤s1.i:=by
 unfold chooseM at h
 split at h
 ·cases h
 ·rename_i s2 h2
  split at h
  ·cases h
  ·rename_i u s3 h3
   split at h
   ·cases h
   ·rename_i s4 h4
    cases h
    refine⟨put_sz (emit_sz (take_sz (takeAny_sz (take_sz z h2) h3) h4) _) [u],?_⟩
    show s.i≤s4.i
    rw[(sunk_i (take_sunk h4)).1,(sunk_i (takeAny_sunk h3)).1,(sunk_i (take_sunk h2)).1];exact Nat.le_refl _
theorem local_keep (z:Sz N s) (op:UInt8) (h:localM c op s= .ok s1):Sz (N+2) s1∧s.i≤s1.i:=by
 unfold localM at h
 split at h
 ·cases h
 ·rename_i n j hb
  have hlt:=below_lt hb
  split at h
  ·cases h
  ·rename_i s2 h2
   have hz:Sz N s2∧s2.i=j:=by
    split at h2
    ·cases h2;exact⟨z.read j s.pos s.closed,rfl⟩
    ·exact⟨take_sz (z.read j s.pos s.closed) h2,(sunk_i (take_sunk h2)).1⟩
   cases h
   split
   ·exact⟨(emit_sz hz.1 _).le (by omega),by show s.i≤s2.i;omega⟩
   ·exact⟨put_sz (emit_sz hz.1 _) [_],by show s.i≤s2.i;omega⟩
theorem global_keep (z:Sz N s) (op:UInt8) (h:globalM c op s= .ok s1):Sz (N+2) s1∧s.i≤s1.i:=by
 unfold globalM at h
 split at h
 ·cases h
 ·rename_i n j hb
  have hlt:=below_lt hb
  split at h
  ·split at h
   ·split at h
    ·cases h
    ·rename_i s2 h2
     cases h
     exact⟨(emit_sz (take_sz (z.read j s.pos s.closed) h2) _).le (by omega),by show s.i≤s2.i;rw[(sunk_i (take_sunk h2)).1];show s.i≤j;omega⟩
   ·cases h
  ·cases h
   exact⟨put_sz (emit_sz (z.read j s.pos s.closed) _) [_],by show s.i≤j;omega⟩
theorem behind_le {D:List UInt8} {b i n j:Nat} (h:behindM D b i= .ok (n,j)):i≤j:=by
 unfold behindM at h
 split at h
 ·have :=UM_le h;omega
 ·split at h
  ·split at h
   ·cases h
   ·rename_i h1;cases h;have :=S32_range h1;omega
  ·split at h
   ·split at h
    ·cases h
    ·rename_i h1;cases h;have :=S64_range h1;omega
   ·cases h;exact Nat.le_refl _
theorem plain_keep (z:Sz N s) (op:UInt8) (r:RowT) (hg:r.gives.length≤1) (h:plainB c op r s= .ok s1):Sz (N+2) s1∧s.i≤s1.i:=by
 unfold plainB at h
 split at h
 ·cases h
 ·rename_i n j hb
  have hle:=behind_le hb
  split at h
  ·cases h
  ·rename_i s2 h2
   cases h
   refine⟨(put_sz (emit_sz (takeAll_sz (z.read j s.pos s.closed) h2) _) _).le (by omega),?_⟩
   show s.i≤s2.i
   rw[(sunk_i (takeN_sunk _ h2)).1];exact hle
theorem special_keep (hne:s.blocks≠[]) (z:Sz N s) (hres: ∀k,k<c.funcs.length→(c.funcs.getD k ([],[])).1.length≤8∧(c.funcs.getD k ([],[])).2.length≤1) (op:UInt8) (h:specialM c op s= .ok s1):Sz (N+18) s1∧s.i≤s1.i:=by
 have up: ∀{M:Nat},M≤N+18→Sz M s1∧s.i≤s1.i→Sz (N+18) s1∧s.i≤s1.i:=fun hM hh=>⟨hh.1.le hM,hh.2⟩
 unfold specialM at h
 split at h
 ·exact up (by omega) (stop_keep z h)
 split at h
 ·exact up (by omega) (open_keep z op h)
 split at h
 ·exact up (by omega) (turn_keep hne z h)
 split at h
 ·exact up (by omega) (end_keep hne z h)
 split at h
 ·exact up (by omega) (branch_keep hne z op h)
 split at h
 ·exact table_keep hne z h
 split at h
 ·exact up (by omega) (leave_keep hne z h)
 split at h
 ·exact up (by omega) (call_keep z hres h)
 split at h
 ·exact up (by omega) (drop_keep z h)
 split at h
 ·exact up (by omega) (choose_keep z h)
 split at h
 ·exact up (by omega) (global_keep z op h)
 ·exact up (by omega) (local_keep z op h)
theorem step_keep (hne:s.blocks≠[]) (z:Sz N s) (hres: ∀k,k<c.funcs.length→(c.funcs.getD k ([],[])).1.length≤8∧(c.funcs.getD k ([],[])).2.length≤1) (h:stepM c s= .ok s1):Sz (N+18) s1∧s.i<s1.i:=by
 unfold stepM at h
 split at h
 ·cases h
 ·rename_i op j hb
  have hj:j=s.i+1:=by
   unfold byteM at hb
   split at hb
   ·cases hb;rfl
   ·cases hb
  have hfit:=rowFit_at op
  split at h
  ·cases h
  ·rename_i r hr
   rw[hr]at hfit
   split at h
   ·cases h
   ·split at h
    ·obtain⟨a,b⟩:=special_keep (s:={s with pos:=s.i,i:=j}) hne (z.read j s.i s.closed) hres op h
     exact⟨a,by have :j≤s1.i:=b;omega⟩
    ·rename_i h4
     have hg:r.gives.length≤1:=by
      simp only[rowFit,if_neg h4,Bool.and_eq_true,decide_eq_true_eq]at hfit
      exact hfit.2
     obtain⟨a,b⟩:=plain_keep (s:={s with pos:=s.i,i:=j}) (z.read j s.i s.closed) op r hg h
     exact⟨a.le (by omega),by have :j≤s1.i:=b;omega⟩
end

end Go.Proofs.YtdeplgkhmebalaaGreatDoor

set_option linter.unusedSimpArgs false
set_option linter.unusedVariables false
set_option maxHeartbeats 4000000
set_option maxRecDepth 100000
namespace Go.Proofs.YtdeplgkhmebalaaGreatDoor
open Go.RowKit

section
variable{E:Env} {g N:Nat} {w:World} {s:Bd}

theorem look_any (h:BSt E g w s) (hR:RowsAt w E.ro) (z:Sz N s) (hN:N+18*(E.c.D.length -s.i)≤400000) (F:Nat) (hF:E.c.D.length -s.i<F):Calls Tryz.prog 145 #[ptrTo E.bb] w fun r w'=>Done E w w' (lookM E.c F s) r∧Kp (nro E.ro) w w':=by
 have hres:=h.env.res
 generalize hRR:lookM E.c F s=R at *
 have HRR:=hide hRR
 have H:=hide h
 have HR:=hide hR
 have HRes:=hide hres
 clear h hR hRR hres
 go_enter Tryz.func145,Tryz.ntmps145
 go_wp2
 go_loopg [] F (fun k wr=> ∃g' sk M,BSt E g' wr sk∧Sz M sk∧M+18*(E.c.D.length -sk.i)≤400000∧E.c.D.length -sk.i<k∧Kp (nro E.ro) w wr∧lookM E.c k sk=R)
 case atStart=>exact⟨g,s,N,H.out,z,hN,hF,Kp.refl _ _,HRR.out⟩
 case round=>
  obtain⟨g',sk,M,hst,hz,hM,hfu,hkp,hlk⟩:=hrel
  obtain⟨f,rfl⟩: ∃f,gk=f+1:=⟨gk -1,by omega⟩
  rw[lookM]at hlk
  have HRw:=hide (HR.out.kp hkp)
  obtain⟨sv,kc,hbo,-⟩:=hst.bodyAt
  obtain⟨hc,hf⟩:=cells_of hbo
  have hle:=hst.rd.le
  have hlen:=hst.rd.len
  have HS:=hide hst
  have HK:=hide hkp
  have HZ:=hide hz
  clear hst hkp hz hbo
  by_cases hb:sk.blocks=[]
  ·rw[if_pos hb]at hlk
   have hbl: ¬((0:Int)<(sk.blocks.length:Int)):=by rw[hb];simp
   have HL:=hide hlk
   have hleft:=left_any HS.out.rd
   have HLe:=hide hleft
   have hat:=fun W (k:Kp no wr W)=>at_any (HS.out.quiet k).rd
   have HAt:=hide hat
   have HBo:=hide (show ∃sv kc,wr.heap[E.bb]? =some (bodyObj E g' sk sv kc)from by obtain⟨sv,kc,h,-⟩:=HS.out.bodyAt;exact⟨sv,kc,h⟩)
   clear hlk hleft hat hb
   by_cases hi:sk.i<E.c.D.length
   ·have hL:=HL.out
    rw[if_pos hi]at hL
    have HL1:=hide hL
    clear hL HL
    go_wp2_with fail
    refine HLe.out.mono ?_
    rintro r w1 ⟨rfl,k1⟩
    obtain⟨sv1,kc1,hbo1⟩:=HBo.out
    obtain⟨hc1,hf1⟩:=cells_of (k1.blk hbo1 (fun h=>h))
    have HAt1:=hide (HAt.out w1 k1)
    clear hbo1
    go_wp2_with fail
    refine HAt1.out.mono ?_
    rintro r w2 ⟨rfl,rfl⟩
    go_wp2_with fail
    refine(form_any _ _).mono ?_
    rintro r w3 ⟨rfl,rfl⟩
    go_wp2
    go_ret
    rw[←HL1.out]
    exact⟨⟨ptrTo w2.heap.size,rfl,w2.heap.size,rfl,by have :=HK.out.size;have :=k1.size;omega,heap_alloc_new _ _⟩,(HK.out.trans k1.any).alloc _⟩
   ·have hL:=HL.out
    rw[if_neg hi]at hL
    have HL1:=hide hL
    clear hL HL
    go_wp2_with fail
    refine HLe.out.mono ?_
    rintro r w1 ⟨rfl,k1⟩
    go_wp2
    go_ret
    rw[←HL1.out]
    exact⟨⟨rfl,g',HS.out.quiet k1⟩,HK.out.trans k1.any⟩
  ·rw[if_neg hb]at hlk
   have hbl:(0:Int)<(sk.blocks.length:Int):=by have :=List.length_pos_iff.2 hb;omega
   have hst:=step_any HS.out HRw.out HZ.out (by omega) hb
   have hkeep:=fun s1=>step_keep (s1:=s1) hb HZ.out HRes.out
   generalize stepM E.c sk=Q at *
   have HSt:=hide hst
   have HL:=hide hlk
   clear hst hlk hb
   cases Q with
   |error e=>
    go_wp2_with fail
    refine HSt.out.mono ?_
    rintro r w1 ⟨⟨fv,rfl,fb,rfl,hfb,hfo⟩,k1⟩
    have HF:=hide hfo
    clear hfo
    go_wp2
    go_ret
    rw[←HL.out]
    exact⟨⟨ptrTo fb,rfl,fb,rfl,by have :=HK.out.size;omega,HF.out⟩,HK.out.trans k1⟩
   |ok s1=>
    obtain⟨z1,hi1⟩:=hkeep s1 rfl
    have HZ1:=hide z1
    clear hkeep z1
    go_wp2_with fail
    refine HSt.out.mono ?_
    rintro r w1 ⟨⟨rfl,g1,h1⟩,k1⟩
    have hle1:=h1.rd.le
    have H1:=hide h1
    clear h1
    go_wp2
    go_roundg f
    case measure=>omega
    case rel=>exact⟨g1,s1,M+18,H1.out,HZ1.out,by omega,by omega,HK.out.trans k1,HL.out⟩
end

end Go.Proofs.YtdeplgkhmebalaaGreatDoor

set_option linter.unusedSimpArgs false
set_option linter.unusedVariables false
set_option maxHeartbeats 4000000
set_option maxRecDepth 100000
namespace Go.Proofs.YtdeplgkhmebalaaGreatDoor
open Go.RowKit

def preR {α:Type} (l:List α) (m:Rd (List α)):Rd (List α):=
 match m with
 | .error e=> .error e
 | .ok (l',j)=> .ok (l++l',j)
theorem preR_nil {α:Type} (m:Rd (List α)):preR [] m=m:=by
 cases m with
 |error e=>rfl
 |ok x=>rfl
theorem preR_step {α:Type} (one:Nat→Rd α) (l:List α) (r i:Nat):preR l (manyM one (r+1) i)=(match one i with
  | .error e=> .error e
  | .ok (x,j)=>preR (l++[x]) (manyM one r j)):=by
 rw[manyM]
 cases one i with
 |error e=>rfl
 |ok x=>
  obtain⟨x,j⟩:=x
  simp only
  cases manyM one r j with
  |error e=>rfl
  |ok y=>obtain⟨l',k⟩:=y;simp[preR]

def GotList (w w':World) (rb:Nat) (dv:Value) (D:List UInt8) (m:Rd (List UInt8)) (r:Ending):Prop:=
 match m with
 | .ok (l,j)=> ∃v,r= .returned (.tuple #[v,.pointer none])∧BytesAt w' v l∧(∀b,v.ownBlock=some b→w.heap.size≤b∧b<w'.heap.size)∧RSt w' rb dv D j
 | .error e=> ∃fv,r= .returned (.tuple #[.slice none 0 0,fv])∧FaultAt w w' fv e

theorem readList_any {w:World} {rb:Nat} {dv:Value} {D:List UInt8} {i:Nat} (h:RSt w rb dv D i) (hdv: ∀b,dv.ownBlock=some b→b<w.heap.size) (most:Nat) (hm:most≤40):
  Calls Tryz.prog 106 #[ptrTo rb,.int .i64 most] w fun r w'=>GotList w w' rb dv D (listM D most i) r∧Kp (one rb) w w':=by
 have hM:listM D most i=(match belowM D (most+1) i with
  | .error e=> .error e
  | .ok (n,j)=>manyM (oneOfM D [127,126]) n j):=rfl
 generalize listM D most i=R at *
 have hbe:=below_any h ((most:Int)+1) (by omega) (by omega)
 have hlt:=fun n j=>below_lt (D:=D) (lim:=(most:Int)+1) (i:=i) (n:=n) (j:=j)
 generalize belowM D ((most:Int)+1) i=Q at *
 obtain⟨i0,hi0,hz0,hz1,hz2⟩:=info_parts info_u8
 have hlr:rb<w.heap.size:=lt_of_blk h.blk
 have HBe:=hide hbe
 have HDv:=hide hdv
 have HMq:=hide hM
 clear h hbe hdv hM
 match Q,HMq,HBe,hlt with
 | .error e,HMq,HBe,_=>
  go_enter Tryz.func106,Tryz.ntmps106
  go_wp2_with fail
  refine HBe.out.mono ?_
  rintro r w1 ⟨⟨fv,j,rfl,⟨fb,rfl,hfb,hfo⟩,h1⟩,k1⟩
  have HF:=hide hfo
  clear hfo h1
  go_wp2
  go_ret2
  rw[HMq.out]
  exact⟨⟨ptrTo fb,rfl,fb,rfl,hfb,HF.out⟩,k1⟩
 | .ok (n,j),HMq,HBe,hlt=>
  have hn:=(hlt n j rfl).1
  clear hlt
  go_enter Tryz.func106,Tryz.ntmps106
  go_wp2_with fail
  refine HBe.out.mono ?_
  rintro r w1 ⟨⟨v,rfl,rfl,h1⟩,k1⟩
  have H1:=hide h1
  have HK1:=hide k1
  have hsz1:=k1.size
  clear h1 k1
  go_wp2
  go_loopw [8,23] (fun gv kv wr=> ∃(k jj:Nat) (l:List UInt8),k≤n∧kv= .int .i64 k∧l.length=k∧wr.ownsRow w.heap.size 5 1 gv k (l.map fun c=> .int .u8 c.toNat)∧Kp (one rb) w wr∧RSt wr rb dv D jj∧manyM (oneOfM D [127,126]) n j=preR l (manyM (oneOfM D [127,126]) (n -k) jj)) (fun _ kv _=>n - (intOf kv).toNat)
  case atStart=>
   exact⟨0,j,[],by omega,rfl,rfl,⟨rfl,.inr ⟨w1.heap.size,0,#[],rfl,by omega,heap_alloc_new _ _,Nat.le_refl _,by simp[maxLen],rfl,rfl⟩⟩,HK1.out.alloc _,H1.out.kp ((Kp.refl no w1).alloc _) (fun h=>h) (fun _ _ _ h=>h),by rw[preR_nil];rfl⟩
  case round=>
   obtain⟨k,jj,l,hk,rfl,hlk,hown,hkp,hrd,hlab⟩:=hrel
   obtain⟨adg,capg,rfl⟩:=own_shape hown
   have HO:=hide hown
   have HK:=hide hkp
   have HR:=hide hrd
   have HLa:=hide hlab
   have HLk:=hide hlk
   have hszr:=hkp.size
   clear hown hkp hrd hlab hlk
   by_cases hkn:k<n
   ·have hone:=oneOf_any HR.out ⟨#[127,126]⟩ [127,126] rfl
    have hL:=HLa.out
    rw[show n -k=(n -k -1)+1 by omega,preR_step]at hL
    generalize oneOfM D [127,126] jj=Q2 at *
    have HOn:=hide hone
    have HL:=hide hL
    clear hone hL
    match Q2,HL,HOn with
    | .error e,HL,HOn=>
     go_wp2_with fail
     refine HOn.out.mono ?_
     rintro r w2 ⟨⟨fv,j2,rfl,⟨fb,rfl,hfb,hfo⟩,h2⟩,k2⟩
     have HF:=hide hfo
     clear hfo h2
     go_wp2
     go_ret2
     rw[HMq.out]
     show GotList _ _ _ _ _ (manyM (oneOfM D [127,126]) n j) _∧_
     rw[HL.out]
     exact⟨⟨ptrTo fb,rfl,fb,rfl,by omega,HF.out⟩,HK.out.trans k2⟩
    | .ok (t,j2),HL,HOn=>
     go_wp2_with fail
     refine HOn.out.mono ?_
     rintro r w2 ⟨⟨v,rfl,rfl,h2⟩,k2⟩
     have HR2:=hide h2
     have ho2:=k2.own HO.out (fun b hb (e:b=rb)=>by have :=own_new HO.out b hb;omega)
     have HO2:=hide ho2
     have HK2:=hide (HK.out.trans k2)
     have hsz2:=k2.size
     clear h2 k2 ho2
     go_wp2_with(at_builtin;refine wpList_append_at _ rfl _ _ 25 rfl w.heap.size 5 i0 (.int .u8 0) 1 1 Tryz.underlying25 hi0 hz0 hz1 hz2 rfl (by decide) _ _ _ rfl (HO2.out.alloc _) _ 1 [.int .u8 t.toNat] rfl (RowAt.new _ _ _) (one_oneCell rfl) ?c3 ?c4 ?c5 ?_)
     case c3=>unfold maxLen;omega
     case c4=>omega
     case c5=>simp;omega
     intro v3 w3 hown3 hgrow3 hat3
     obtain⟨ad3,cap3,rfl⟩:=own_shape hown3
     have HO3:=hide hown3
     have HK3:=hide ((HK2.out.alloc _).grown hgrow3 (fun b hb=> .inr (own_new HO2.out b hb)))
     have HR3:=hide (HR2.out.kp (((Kp.refl (fun b=>w.heap.size≤b) w2).alloc _).grown hgrow3 (fun b hb=> .inl (own_new HO2.out b hb))) (fun(e:w.heap.size≤rb)=>by omega) (fun b hb hlt2 (e:w.heap.size≤b)=>by have :=HDv.out b hb;omega))
     clear hown3 hgrow3 hat3
     go_wp2
     go_roundw
     case rel=>exact⟨k+1,j2,l++[t],by omega,by go_num,by simp[HLk.out],by simpa using HO3.out,HK3.out,HR3.out,by rw[HL.out,show n - (k+1)=n -k -1 by omega]⟩
     case measure=>simp[intOf];omega
   ·obtain rfl :k=n:=by omega
    go_wp2
    go_ret2
    rw[HMq.out]
    show GotList _ _ _ _ _ (manyM (oneOfM D [127,126]) k j) _∧_
    rw[HLa.out,Nat.sub_self,manyM,preR,List.append_nil]
    have hb:=RowAt.own HO.out
    rw[←HLk.out]at hb
    exact⟨⟨_,rfl,by rw[←HLk.out];exact hb,fun b hb=>⟨own_new HO.out b hb,own_lt HO.out hb⟩,HR.out⟩,HK.out⟩

end Go.Proofs.YtdeplgkhmebalaaGreatDoor

set_option linter.unusedSimpArgs false
set_option linter.unusedVariables false
namespace Go.Proofs.YtdeplgkhmebalaaGreatDoor
open Go.RowKit

abbrev TyV:=Ty×Value×Value
abbrev FnV:=FnM×Value×Value
def tyCells (x:TyV):List Value:=[x.2.1,x.2.2]
theorem tyLen (x:TyV):(tyCells x).length=2:=rfl
def glCells (x:UInt8×Bool):List Value:=[.int .u8 x.1.toNat,.bool x.2]
theorem glLen (x:UInt8×Bool):(glCells x).length=2:=rfl
def fnCells (x:FnV):List Value:=[x.2.1,x.2.2,.int .i64 x.1.locals,.int .i64 x.1.entry]
theorem fnLen (x:FnV):(fnCells x).length=4:=rfl

structure Lkr where
 i:Nat
 types:List Ty
 fns:List FnM
 gl:List (UInt8×Bool)
 vals:List Nat
 pages:Nat
 code:List Ins

structure LIds where
 B:Nat
 C:Nat
 lo:Nat→Prop
 hlo: ∀b,lo b→b<C
 hBC:B≤C
 rb:Nat
 kb:Nat
 mb:Nat
 dv:Value
 D:List UInt8

structure LStG (I:LIds) (w:World) (s:Lkr) (role:Nat→Nat) (tv gv fv glv cv:Value) (tys:List TyV) (fs:List FnV):Prop where
 base:I.C≤w.heap.size
 rd:RSt w I.rb I.dv I.D s.i
 look:w.heap[I.kb]? =some (.cells #[ptrTo I.rb,tv,gv,ptrTo I.mb] 182)
 mod:w.heap[I.mb]? =some (.cells #[fv,glv,.int .i64 s.pages,cv] 121)
 types:w.ownsRow I.B 138 2 tv s.types.length (tys.flatMap tyCells)
 globs:w.ownsRow I.B 256 2 gv s.gl.length (s.gl.flatMap glCells)
 funcs:w.ownsRow I.B 140 4 fv s.fns.length (fs.flatMap fnCells)
 vals:w.ownsRow I.B 38 1 glv s.vals.length (s.vals.map fun n=> .int .u64 (n:Nat))
 code:w.ownsRow I.B 214 5 cv s.code.length (s.code.flatMap Ins.cells)
 eqT:s.types=tys.map (·.1)
 eqF:s.fns=fs.map (·.1)
 tyB: ∀x∈tys,BytesAt w x.2.1 x.1.1∧BytesAt w x.2.2 x.1.2
 fnB: ∀x∈fs,BytesAt w x.2.1 x.1.typ.1∧BytesAt w x.2.2 x.1.typ.2
 r1:role I.rb=1
 r2:role I.mb=2
 r3:role I.kb=3
 r4: ∀b,tv.ownBlock=some b→role b=4
 r5: ∀b,gv.ownBlock=some b→role b=5
 r6: ∀b,fv.ownBlock=some b→role b=6
 r7: ∀b,glv.ownBlock=some b→role b=7
 r8: ∀b,cv.ownBlock=some b→role b=8
 tyR: ∀x∈tys,RoV (fun b=>role b=0∧b<w.heap.size) x.2.1∧RoV (fun b=>role b=0∧b<w.heap.size) x.2.2
 fnR: ∀x∈fs,RoV (fun b=>role b=0∧b<w.heap.size) x.2.1∧RoV (fun b=>role b=0∧b<w.heap.size) x.2.2
 low: ∀b,I.lo b→role b=0
 dvB: ∀b,I.dv.ownBlock=some b→I.lo b
 tyN: ∀x∈tys,(∀b,x.2.1.ownBlock=some b→I.B≤b)∧(∀b,x.2.2.ownBlock=some b→I.B≤b)
 fnN: ∀x∈fs,(∀b,x.2.1.ownBlock=some b→I.B≤b)∧(∀b,x.2.2.ownBlock=some b→I.B≤b)

def LSt (I:LIds) (w:World) (s:Lkr):Prop:= ∃role tv gv fv glv cv tys fs,LStG I w s role tv gv fv glv cv tys fs

section
variable{I:LIds} {w w':World} {s:Lkr} {role:Nat→Nat} {tv gv fv glv cv:Value} {tys:List TyV} {fs:List FnV} {X:Nat→Prop}
theorem LStG.kRd (h:LStG I w s role tv gv fv glv cv tys fs) (k:Kp (fun b=>X (role b)) w w') (h0: ¬X 0) (h1: ¬X 1):RSt w' I.rb I.dv I.D s.i:=
 h.rd.kp k (fun hx=>h1 (by rw[←h.r1];exact hx)) (fun b hb _ hx=>h0 (by rw[←h.low b (h.dvB b hb)];exact hx))
theorem LStG.kLook (h:LStG I w s role tv gv fv glv cv tys fs) (k:Kp (fun b=>X (role b)) w w') (h1: ¬X 3):w'.heap[I.kb]? =some (.cells #[ptrTo I.rb,tv,gv,ptrTo I.mb] 182):=k.blk h.look (fun hx=>h1 (by rw[←h.r3];exact hx))
theorem LStG.kMod (h:LStG I w s role tv gv fv glv cv tys fs) (k:Kp (fun b=>X (role b)) w w') (h1: ¬X 2):w'.heap[I.mb]? =some (.cells #[fv,glv,.int .i64 s.pages,cv] 121):=k.blk h.mod (fun hx=>h1 (by rw[←h.r2];exact hx))
theorem LStG.kTypes (h:LStG I w s role tv gv fv glv cv tys fs) (k:Kp (fun b=>X (role b)) w w') (h1: ¬X 4):w'.ownsRow I.B 138 2 tv s.types.length (tys.flatMap tyCells):=k.own h.types (fun b hb hx=>h1 (by rw[←h.r4 b hb];exact hx))
theorem LStG.kGlobs (h:LStG I w s role tv gv fv glv cv tys fs) (k:Kp (fun b=>X (role b)) w w') (h1: ¬X 5):w'.ownsRow I.B 256 2 gv s.gl.length (s.gl.flatMap glCells):=k.own h.globs (fun b hb hx=>h1 (by rw[←h.r5 b hb];exact hx))
theorem LStG.kFuncs (h:LStG I w s role tv gv fv glv cv tys fs) (k:Kp (fun b=>X (role b)) w w') (h1: ¬X 6):w'.ownsRow I.B 140 4 fv s.fns.length (fs.flatMap fnCells):=k.own h.funcs (fun b hb hx=>h1 (by rw[←h.r6 b hb];exact hx))
theorem LStG.kVals (h:LStG I w s role tv gv fv glv cv tys fs) (k:Kp (fun b=>X (role b)) w w') (h1: ¬X 7):w'.ownsRow I.B 38 1 glv s.vals.length (s.vals.map fun n=> .int .u64 (n:Nat)):=k.own h.vals (fun b hb hx=>h1 (by rw[←h.r7 b hb];exact hx))
theorem LStG.kCode (h:LStG I w s role tv gv fv glv cv tys fs) (k:Kp (fun b=>X (role b)) w w') (h1: ¬X 8):w'.ownsRow I.B 214 5 cv s.code.length (s.code.flatMap Ins.cells):=k.own h.code (fun b hb hx=>h1 (by rw[←h.r8 b hb];exact hx))
theorem LStG.kTyB (h:LStG I w s role tv gv fv glv cv tys fs) (k:Kp (fun b=>X (role b)) w w') (h0: ¬X 0): ∀x∈tys,BytesAt w' x.2.1 x.1.1∧BytesAt w' x.2.2 x.1.2:=fun x hx=>⟨RowAt.kpR (h.tyB x hx).1 k h0 (h.tyR x hx).1,RowAt.kpR (h.tyB x hx).2 k h0 (h.tyR x hx).2⟩
theorem LStG.kFnB (h:LStG I w s role tv gv fv glv cv tys fs) (k:Kp (fun b=>X (role b)) w w') (h0: ¬X 0): ∀x∈fs,BytesAt w' x.2.1 x.1.typ.1∧BytesAt w' x.2.2 x.1.typ.2:=fun x hx=>⟨RowAt.kpR (h.fnB x hx).1 k h0 (h.fnR x hx).1,RowAt.kpR (h.fnB x hx).2 k h0 (h.fnR x hx).2⟩
theorem RoV.up {ρ:Nat→Nat} {a b:Nat} (hab:a≤b) {v:Value} (h:RoV (fun c=>ρ c=0∧c<a) v):RoV (fun c=>ρ c=0∧c<b) v:=fun c hc=>⟨(h c hc).1,Nat.lt_of_lt_of_le (h c hc).2 hab⟩
theorem LStG.kTyR (h:LStG I w s role tv gv fv glv cv tys fs) (k:Kp (fun b=>X (role b)) w w'): ∀x∈tys,RoV (fun b=>role b=0∧b<w'.heap.size) x.2.1∧RoV (fun b=>role b=0∧b<w'.heap.size) x.2.2:=fun x hx=>⟨(h.tyR x hx).1.up k.size,(h.tyR x hx).2.up k.size⟩
theorem LStG.kFnR (h:LStG I w s role tv gv fv glv cv tys fs) (k:Kp (fun b=>X (role b)) w w'): ∀x∈fs,RoV (fun b=>role b=0∧b<w'.heap.size) x.2.1∧RoV (fun b=>role b=0∧b<w'.heap.size) x.2.2:=fun x hx=>⟨(h.fnR x hx).1.up k.size,(h.fnR x hx).2.up k.size⟩
theorem LStG.low' (h:LStG I w s role tv gv fv glv cv tys fs) (k:Kp (fun b=>X (role b)) w w') (h0: ¬X 0):Kp (fun b=> ¬I.lo b) w w':=k.mono (fun b _ hx hlt=>h0 (by rw[←h.low b hlt];exact hx))
theorem LStG.rerole (h:LStG I w s role tv gv fv glv cv tys fs) {role':Nat→Nat} (hr: ∀k,k<w.heap.size→role' k=role k):LStG I w s role' tv gv fv glv cv tys fs:=
 ⟨h.base,h.rd,h.look,h.mod,h.types,h.globs,h.funcs,h.vals,h.code,h.eqT,h.eqF,h.tyB,h.fnB,(hr _ (lt_of_blk h.rd.blk)).trans h.r1,(hr _ (lt_of_blk h.mod)).trans h.r2,(hr _ (lt_of_blk h.look)).trans h.r3,
  fun b hb=>(hr b (own_lt h.types hb)).trans (h.r4 b hb),fun b hb=>(hr b (own_lt h.globs hb)).trans (h.r5 b hb),fun b hb=>(hr b (own_lt h.funcs hb)).trans (h.r6 b hb),fun b hb=>(hr b (own_lt h.vals hb)).trans (h.r7 b hb),fun b hb=>(hr b (own_lt h.code hb)).trans (h.r8 b hb),
  fun x hx=>⟨fun b hb=>⟨(hr b ((h.tyR x hx).1 b hb).2).trans ((h.tyR x hx).1 b hb).1,((h.tyR x hx).1 b hb).2⟩,fun b hb=>⟨(hr b ((h.tyR x hx).2 b hb).2).trans ((h.tyR x hx).2 b hb).1,((h.tyR x hx).2 b hb).2⟩⟩,
  fun x hx=>⟨fun b hb=>⟨(hr b ((h.fnR x hx).1 b hb).2).trans ((h.fnR x hx).1 b hb).1,((h.fnR x hx).1 b hb).2⟩,fun b hb=>⟨(hr b ((h.fnR x hx).2 b hb).2).trans ((h.fnR x hx).2 b hb).1,((h.fnR x hx).2 b hb).2⟩⟩,
  fun b hb=>(hr b (Nat.lt_of_lt_of_le (I.hlo b hb) h.base)).trans (h.low b hb),h.dvB,h.tyN,h.fnN⟩

theorem LStG.setRd (h:LStG I w s role tv gv fv glv cv tys fs) (k:Kp (one I.rb) w w') {j:Nat} (hr:RSt w' I.rb I.dv I.D j):LStG I w' {s with i:=j} role tv gv fv glv cv tys fs:=by
 have k':Kp (fun b=>(fun r=>r=1) (role b)) w w':=k.mono (fun b _ (hb:b=I.rb)=>by rw[hb];exact h.r1)
 exact⟨Nat.le_trans h.base k.size,hr,(h.kLook (X:=fun r=>r=1) k' (by decide):),(h.kMod (X:=fun r=>r=1) k' (by decide):),(h.kTypes (X:=fun r=>r=1) k' (by decide):),(h.kGlobs (X:=fun r=>r=1) k' (by decide):),(h.kFuncs (X:=fun r=>r=1) k' (by decide):),(h.kVals (X:=fun r=>r=1) k' (by decide):),(h.kCode (X:=fun r=>r=1) k' (by decide):),h.eqT,h.eqF,
  h.kTyB (X:=fun r=>r=1) k' (by decide),h.kFnB (X:=fun r=>r=1) k' (by decide),h.r1,h.r2,h.r3,h.r4,h.r5,h.r6,h.r7,h.r8,h.kTyR (X:=fun r=>r=1) k',h.kFnR (X:=fun r=>r=1) k',h.low,h.dvB,h.tyN,h.fnN⟩
theorem LStG.quiet (h:LStG I w s role tv gv fv glv cv tys fs) (k:Kp no w w'):LStG I w' s role tv gv fv glv cv tys fs:=by
 have k':Kp (fun b=>(fun _=>False) (role b)) w w':=k
 exact⟨Nat.le_trans h.base k.size,(h.kRd (X:=fun _=>False) k' (fun h=>h) (fun h=>h):),(h.kLook (X:=fun _=>False) k' (fun h=>h):),(h.kMod (X:=fun _=>False) k' (fun h=>h):),(h.kTypes (X:=fun _=>False) k' (fun h=>h):),(h.kGlobs (X:=fun _=>False) k' (fun h=>h):),(h.kFuncs (X:=fun _=>False) k' (fun h=>h):),(h.kVals (X:=fun _=>False) k' (fun h=>h):),(h.kCode (X:=fun _=>False) k' (fun h=>h):),h.eqT,h.eqF,
  h.kTyB (X:=fun _=>False) k' (fun h=>h),h.kFnB (X:=fun _=>False) k' (fun h=>h),h.r1,h.r2,h.r3,h.r4,h.r5,h.r6,h.r7,h.r8,h.kTyR (X:=fun _=>False) k',h.kFnR (X:=fun _=>False) k',h.low,h.dvB,h.tyN,h.fnN⟩
end

section
variable{I:LIds} {w w':World} {s:Lkr}
theorem LSt.read (h:LSt I w s) {j:Nat} (k:Kp (one I.rb) w w') (hr:RSt w' I.rb I.dv I.D j):LSt I w' {s with i:=j}:=by
 obtain⟨role,tv,gv,fv,glv,cv,tys,fs,h⟩:=h
 exact⟨role,tv,gv,fv,glv,cv,tys,fs,h.setRd k hr⟩
theorem LSt.quiet (h:LSt I w s) (k:Kp no w w'):LSt I w' s:=by
 obtain⟨role,tv,gv,fv,glv,cv,tys,fs,h⟩:=h
 exact⟨role,tv,gv,fv,glv,cv,tys,fs,h.quiet k⟩
theorem LSt.rd (h:LSt I w s):RSt w I.rb I.dv I.D s.i:=by
 obtain⟨role,tv,gv,fv,glv,cv,tys,fs,h⟩:=h
 exact h.rd
theorem LSt.lowRd (h:LSt I w s) (k:Kp (one I.rb) w w'):Kp (fun b=> ¬I.lo b) w w':=by
 obtain⟨role,tv,gv,fv,glv,cv,tys,fs,h⟩:=h
 exact k.mono (fun b _ (e:b=I.rb) hlt=>by have :=h.low b hlt;rw[e,h.r1]at this;cases this)
theorem LSt.lookAt (h:LSt I w s): ∃tv gv,w.heap[I.kb]? =some (.cells #[ptrTo I.rb,tv,gv,ptrTo I.mb] 182)∧I.kb≠I.rb∧I.kb≠I.mb∧I.mb≠I.rb∧(∃ad cap,tv= .slice ad s.types.length cap)∧(∃ad cap,gv= .slice ad s.gl.length cap):=by
 obtain⟨role,tv,gv,fv,glv,cv,tys,fs,h⟩:=h
 refine⟨tv,gv,h.look,fun e=> ?_,fun e=> ?_,fun e=> ?_,own_shape h.types,own_shape h.globs⟩
 ·have :=h.r3;rw[e,h.r1]at this;cases this
 ·have :=h.r3;rw[e,h.r2]at this;cases this
 ·have :=h.r2;rw[e,h.r1]at this;cases this
end

end Go.Proofs.YtdeplgkhmebalaaGreatDoor

set_option linter.unusedSimpArgs false
set_option linter.unusedVariables false
set_option maxHeartbeats 2000000
set_option maxRecDepth 100000
namespace Go.Proofs.YtdeplgkhmebalaaGreatDoor
open Go.RowKit

def LDone (I:LIds) (w w':World) (m:Except (Int×Int) Lkr) (r:Ending):Prop:=
 match m with
 | .ok s'=>r= .returned (.pointer none)∧LSt I w' s'
 | .error e=> ∃fv,r= .returned fv∧FaultAt w w' fv e
abbrev up (B:Nat):Nat→Prop:=fun b=>B≤b
abbrev upl (I:LIds):Nat→Prop:=fun b=> ¬I.lo b

section
variable{I:LIds} {w:World} {s:Lkr}

theorem readEnd_any (h:LSt I w s):Calls Tryz.prog 81 #[ptrTo I.kb] w fun r w'=>LDone I w w' (if s.i<I.D.length then .error (2,s.i)else .ok s) r∧Kp (upl I) w w':=by
 obtain⟨tv,gv,hlo,hn1,hn2,hn3,-,-⟩:=h.lookAt
 obtain⟨hc,hf⟩:=cells_of hlo
 have hleft:=left_any h.rd
 have hle:=h.rd.le
 have hlen:=h.rd.len
 have hat:=fun W (k:Kp no w W)=>at_any (h.quiet k).rd
 have H:=hide h
 have HLo:=hide hlo
 have HL:=hide hleft
 have HA:=hide hat
 clear h hlo hleft hat
 by_cases hi:s.i<I.D.length
 ·rw[if_pos hi]
  go_enter Tryz.func81,Tryz.ntmps81
  go_wp2_with fail
  refine HL.out.mono ?_
  rintro r w1 ⟨rfl,k1⟩
  obtain⟨hc1,hf1⟩:=cells_of (k1.blk HLo.out (fun h=>h))
  have HA1:=hide (HA.out w1 k1)
  go_wp2_with fail
  refine HA1.out.mono ?_
  rintro r w2 ⟨rfl,rfl⟩
  go_wp2_with fail
  refine(form_any _ _).mono ?_
  rintro r w3 ⟨rfl,rfl⟩
  go_wp2
  go_ret
  exact⟨⟨ptrTo w2.heap.size,rfl,w2.heap.size,rfl,k1.size,heap_alloc_new _ _⟩,k1.any.alloc _⟩
 ·rw[if_neg hi]
  go_enter Tryz.func81,Tryz.ntmps81
  go_wp2_with fail
  refine HL.out.mono ?_
  rintro r w1 ⟨rfl,k1⟩
  go_wp2
  go_ret
  exact⟨⟨rfl,H.out.quiet k1⟩,k1.any⟩

theorem LSt.setPages (h:LSt I w s) (n:Nat):LSt I (w.setCell ⟨I.mb,2,none⟩ (.int .i64 n)) {s with pages:=n}∧Kp (upl I) w (w.setCell ⟨I.mb,2,none⟩ (.int .i64 n))∧(∃fv glv cv,w.heap[I.mb]? =some (.cells #[fv,glv,.int .i64 s.pages,cv] 121)):=by
 obtain⟨role,tv,gv,fv,glv,cv,tys,fs,h⟩:=h
 have k:Kp (fun b=>(fun r=>r=2) (role b)) w (w.setCell ⟨I.mb,2,none⟩ (.int .i64 n)):=Kp.setAt (S:=fun b=>(fun r=>r=2) (role b)) (Kp.refl _ w) (b:=I.mb) h.r2 _ _
 refine⟨⟨role,tv,gv,fv,glv,cv,tys,fs,?_⟩,h.low' (X:=fun r=>r=2) k (by decide),fv,glv,cv,h.mod⟩
 exact⟨Nat.le_trans h.base k.size,(h.kRd (X:=fun r=>r=2) k (by decide) (by decide):),(h.kLook (X:=fun r=>r=2) k (by decide):),heap_setCell h.mod _,(h.kTypes (X:=fun r=>r=2) k (by decide):),(h.kGlobs (X:=fun r=>r=2) k (by decide):),(h.kFuncs (X:=fun r=>r=2) k (by decide):),(h.kVals (X:=fun r=>r=2) k (by decide):),(h.kCode (X:=fun r=>r=2) k (by decide):),h.eqT,h.eqF,
  h.kTyB (X:=fun r=>r=2) k (by decide),h.kFnB (X:=fun r=>r=2) k (by decide),h.r1,h.r2,h.r3,h.r4,h.r5,h.r6,h.r7,h.r8,h.kTyR (X:=fun r=>r=2) k,h.kFnR (X:=fun r=>r=2) k,h.low,h.dvB,h.tyN,h.fnN⟩

def pagesM (I:LIds) (s:Lkr):Except (Int×Int) Lkr:=
 match belowM I.D 5 s.i with
 | .error e=> .error e
 | .ok (n,j)=> .ok {s with pages:=n,i:=j}

theorem readPages_any (h:LSt I w s):Calls Tryz.prog 79 #[ptrTo I.kb] w fun r w'=>LDone I w w' (pagesM I s) r∧Kp (upl I) w w':=by
 have hM:pagesM I s=(match belowM I.D 5 s.i with | .error e=> .error e| .ok (n,j)=> .ok {s with pages:=n,i:=j}):=rfl
 generalize pagesM I s=R at *
 obtain⟨tv,gv,hlo,hn1,hn2,hn3,-,-⟩:=h.lookAt
 obtain⟨hc,hf⟩:=cells_of hlo
 have hbe:=below_any h.rd 5 (by decide) (by decide)
 generalize belowM I.D 5 s.i=Q at *
 have H:=hide h
 have HLo:=hide hlo
 have HB:=hide hbe
 have HM:=hide hM
 clear h hlo hbe hM
 match Q,HM,HB with
 | .error e,HM,HB=>
  go_enter Tryz.func79,Tryz.ntmps79
  go_wp2_with fail
  refine HB.out.mono ?_
  rintro r w1 ⟨⟨fv,j,rfl,⟨fb,rfl,hfb,hfo⟩,h1⟩,k1⟩
  have HF:=hide hfo
  obtain⟨hc1,hf1⟩:=cells_of (k1.blk HLo.out hn1)
  have H1:=hide (H.out.read k1 h1)
  obtain⟨-,k2,fv2,glv2,cv2,hmo⟩:=H1.out.setPages 0
  obtain⟨hm1,hmf1⟩:=cells_of hmo
  have HK:=hide ((H.out.lowRd k1).trans k2)
  have hfm:fb≠I.mb:=by have :=lt_of_blk hmo;obtain⟨-,-,hlo,-⟩:=H.out.setPages 0;intro e;have h3:=H.out.setPages 0;obtain⟨-,-,a,b,c,hmw⟩:=h3;have :=lt_of_blk hmw;omega
  clear hfo h1 k1 k2 hmo hc hf
  go_wp2
  go_ret
  rw[HM.out]
  exact⟨⟨ptrTo fb,rfl,fb,rfl,hfb,heap_setCell_ne hfm _ HF.out⟩,HK.out⟩
 | .ok (n,j),HM,HB=>
  go_enter Tryz.func79,Tryz.ntmps79
  go_wp2_with fail
  refine HB.out.mono ?_
  rintro r w1 ⟨⟨v,rfl,rfl,h1⟩,k1⟩
  obtain⟨hc1,hf1⟩:=cells_of (k1.blk HLo.out hn1)
  have H1:=hide (H.out.read k1 h1)
  obtain⟨h2,k2,fv2,glv2,cv2,hmo⟩:=H1.out.setPages n
  obtain⟨hm1,hmf1⟩:=cells_of hmo
  have H2:=hide h2
  have HK:=hide ((H.out.lowRd k1).trans k2)
  clear h1 k1 k2 hmo hc hf h2
  go_wp2
  go_ret
  rw[HM.out]
  exact⟨⟨rfl,H2.out⟩,HK.out⟩
end

end Go.Proofs.YtdeplgkhmebalaaGreatDoor

set_option linter.unusedSimpArgs false
set_option linter.unusedVariables false
set_option maxHeartbeats 6000000
set_option maxRecDepth 100000
namespace Go.Proofs.YtdeplgkhmebalaaGreatDoor
open Go.RowKit

theorem info_ctype:(Tryz.prog.info? 138).map (fun i=>(i.zero,i.size,i.bytes))=some (some (.agg #[.slice none 0 0,.slice none 0 0]),2,48):=by kernel_rfl

section
variable{I:LIds} {w:World} {s:Lkr}

theorem addType_end {role:Nat→Nat} {tv gv fv glv cv:Value} {tys:List TyV} {fs:List FnV} (h:LStG I w s role tv gv fv glv cv tys fs) {w3 W w5:World} {j:Nat} (k3:Kp (one I.rb) w w3) (hr3:RSt w3 I.rb I.dv I.D j) {pv rv:Value} {p r:List UInt8}
  (hp:BytesAt w3 pv p) (hr:BytesAt w3 rv r) (np: ∀b,pv.ownBlock=some b→w.heap.size≤b∧b<w3.heap.size) (nr: ∀b,rv.ownBlock=some b→w.heap.size≤b∧b<w3.heap.size) (kW:Kp no w3 W)
  {v1:Value} {n:Nat} {xs:List Value} (hn:n=s.types.length+1) (hxs:xs=tys.flatMap tyCells++[pv,rv])
  (hown1:w5.ownsRow I.B 138 2 v1 n xs) (hgrow:W.grownBy w5 tv.ownBlock) (hat:v1.ownBlock=tv.ownBlock∨v1.ownBlock=some W.heap.size):
  LSt I (w5.setCell ⟨I.kb,1,none⟩ v1) {s with i:=j,types:=s.types++[(p,r)]}∧Kp (upl I) w (w5.setCell ⟨I.kb,1,none⟩ v1):=by
 subst hn hxs
 obtain⟨role',hro⟩: ∃role':Nat→Nat,role'=fun k=>if k<w.heap.size then role k else if pv.ownBlock=some k∨rv.ownBlock=some k then 0 else 4:=⟨_,rfl⟩
 have h1:LStG I w s role' tv gv fv glv cv tys fs:=h.rerole (fun k hk=>by rw[hro];simp only[if_pos hk])
 have h2:=(h1.setRd k3 hr3).quiet kW
 have hs3:=k3.size
 have hsW:=kW.size
 have zp: ∀b,pv.ownBlock=some b→role' b=0:=fun b hb=>by rw[hro];simp only[if_neg (show ¬b<w.heap.size by have :=(np b hb).1;omega),hb,true_or,if_true]
 have zr: ∀b,rv.ownBlock=some b→role' b=0:=fun b hb=>by rw[hro];simp only[if_neg (show ¬b<w.heap.size by have :=(nr b hb).1;omega),hb,or_true,if_true]
 have hv1: ∀b,v1.ownBlock=some b→role' b=4:=by
  intro b hb
  rcases hat with e|e
  ·exact h1.r4 b (e▸hb)
  ·rw[hb]at e;cases e
   rw[hro]
   simp only[if_neg (show ¬W.heap.size<w.heap.size by omega)]
   rw[if_neg (fun e=>e.elim (fun e=>by have :=(np _ e).2;omega) (fun e=>by have :=(nr _ e).2;omega))]
 have k4:Kp (fun b=>(fun r=>r=3∨r=4) (role' b)) W w5:=(Kp.refl _ W).grown hgrow (fun b hb=> .inl (.inr (h2.r4 b hb)))
 have k5:Kp (fun b=>(fun r=>r=3∨r=4) (role' b)) W (w5.setCell ⟨I.kb,1,none⟩ v1):=k4.setAt (.inl h2.r3) _ _
 have hlook:w5.heap[I.kb]? =some (.cells #[ptrTo I.rb,tv,gv,ptrTo I.mb] 182):=(hgrow.block I.kb (lt_of_blk h2.look) (fun e=>by have :=h2.r4 _ e.symm;rw[h2.r3]at this;cases this)).trans h2.look
 have ho:(w5.setCell ⟨I.kb,1,none⟩ v1).ownsRow I.B 138 2 v1 (s.types.length+1) (tys.flatMap tyCells++[pv,rv]):=
  ((Kp.refl (one I.kb) w5).set1 _ _).own hown1 (fun b hb (e:b=I.kb)=>by have :=hv1 b hb;rw[e,h2.r3]at this;cases this)
 have kF:Kp (upl I) w (w5.setCell ⟨I.kb,1,none⟩ v1):=((h1.low' (X:=fun r=>r=1) (k3.mono (fun b _ (e:b=I.rb)=>by rw[e];exact h1.r1)) (by decide)).trans kW.any).trans (h2.low' (X:=fun r=>r=3∨r=4) k5 (by decide))
 have hpF:=RowAt.kpR (X:=fun r=>r=3∨r=4) (hp.kp kW (fun _ _ h=>h)) k5 (by decide) (q:=W.heap.size) (fun b hb=>⟨zp b hb,by have :=(np b hb).2;omega⟩)
 have hrF:=RowAt.kpR (X:=fun r=>r=3∨r=4) (hr.kp kW (fun _ _ h=>h)) k5 (by decide) (q:=W.heap.size) (fun b hb=>⟨zr b hb,by have :=(nr b hb).2;omega⟩)
 refine⟨⟨role',v1,gv,fv,glv,cv,tys++[((p,r),pv,rv)],fs,?_⟩,kF⟩
 refine⟨Nat.le_trans h2.base k5.size,(h2.kRd (X:=fun r=>r=3∨r=4) k5 (by decide) (by decide):),heap_setCell hlook _,(h2.kMod (X:=fun r=>r=3∨r=4) k5 (by decide):),?_,(h2.kGlobs (X:=fun r=>r=3∨r=4) k5 (by decide):),(h2.kFuncs (X:=fun r=>r=3∨r=4) k5 (by decide):),(h2.kVals (X:=fun r=>r=3∨r=4) k5 (by decide):),(h2.kCode (X:=fun r=>r=3∨r=4) k5 (by decide):),?_,h2.eqF,?_,h2.kFnB (X:=fun r=>r=3∨r=4) k5 (by decide),h2.r1,h2.r2,h2.r3,hv1,h2.r5,h2.r6,h2.r7,h2.r8,?_,h2.kFnR (X:=fun r=>r=3∨r=4) k5,h2.low,h2.dvB,?_,h2.fnN⟩
 ·simpa[List.flatMap_append,tyCells]using ho
 ·simp[h.eqT]
 ·intro x hx
  rcases List.mem_append.1 hx with e|e
  ·exact h2.kTyB (X:=fun r=>r=3∨r=4) k5 (by decide) x e
  ·simp only[List.mem_singleton]at e;subst e;exact⟨hpF,hrF⟩
 ·intro x hx
  rcases List.mem_append.1 hx with e|e
  ·exact h2.kTyR (X:=fun r=>r=3∨r=4) k5 x e
  ·simp only[List.mem_singleton]at e;subst e
   have :=k5.size
   exact⟨fun b hb=>⟨zp b hb,by have :=(np b hb).2;omega⟩,fun b hb=>⟨zr b hb,by have :=(nr b hb).2;omega⟩⟩
 ·intro x hx
  rcases List.mem_append.1 hx with e|e
  ·exact h2.tyN x e
  ·simp only[List.mem_singleton]at e;subst e
   have :=Nat.le_trans I.hBC h.base
   exact⟨fun b hb=>by have :=(np b hb).1;omega,fun b hb=>by have :=(nr b hb).1;omega⟩
theorem LSt.addType (h:LSt I w s): ∃tv xs gv,w.heap[I.kb]? =some (.cells #[ptrTo I.rb,tv,gv,ptrTo I.mb] 182)∧(∃ad cap,tv= .slice ad s.types.length cap)∧some I.kb≠tv.ownBlock∧(∀W,Kp (one I.rb) w W→W.ownsRow I.B 138 2 tv s.types.length xs)∧
  ∀w3 W w5 j pv rv p r v1 n ys,Kp (one I.rb) w w3→RSt w3 I.rb I.dv I.D j→BytesAt w3 pv p→BytesAt w3 rv r→(∀b,pv.ownBlock=some b→w.heap.size≤b∧b<w3.heap.size)→(∀b,rv.ownBlock=some b→w.heap.size≤b∧b<w3.heap.size)→Kp no w3 W→
   n=s.types.length+1→ys=xs++[pv,rv]→w5.ownsRow I.B 138 2 v1 n ys→W.grownBy w5 tv.ownBlock→(v1.ownBlock=tv.ownBlock∨v1.ownBlock=some W.heap.size)→
   LSt I (w5.setCell ⟨I.kb,1,none⟩ v1) {s with i:=j,types:=s.types++[(p,r)]}∧Kp (upl I) w (w5.setCell ⟨I.kb,1,none⟩ v1):=by
 obtain⟨role,tv,gv,fv,glv,cv,tys,fs,h⟩:=h
 refine⟨tv,tys.flatMap tyCells,gv,h.look,own_shape h.types,fun e=> ?_,fun W k=>k.own h.types (fun b hb (e:b=I.rb)=> ?_),fun w3 W w5 j pv rv p r v1 n ys a1 a2 a3 a4 a5 a6 a7 a8 a9 b1 b2 b3=>addType_end h a1 a2 a3 a4 a5 a6 a7 a8 a9 b1 b2 b3⟩
 ·have :=h.r4 _ e.symm;rw[h.r3]at this;cases this
 ·have :=h.r4 b hb;rw[e,h.r1]at this;cases this
theorem LSt.dvLt (h:LSt I w s) (b:Nat) (hb:I.dv.ownBlock=some b):b<w.heap.size:=by
 obtain⟨role,tv,gv,fv,glv,cv,tys,fs,h⟩:=h
 exact Nat.lt_of_lt_of_le (I.hlo b (h.dvB b hb)) h.base
theorem LSt.kbLt (h:LSt I w s):I.kb<w.heap.size:=by
 obtain⟨role,tv,gv,fv,glv,cv,tys,fs,h⟩:=h
 exact lt_of_blk h.look
theorem LSt.rbLt (h:LSt I w s):I.rb<w.heap.size:=by
 obtain⟨role,tv,gv,fv,glv,cv,tys,fs,h⟩:=h
 exact lt_of_blk h.rd.blk
theorem LSt.base (h:LSt I w s):I.B≤w.heap.size:=by
 obtain⟨role,tv,gv,fv,glv,cv,tys,fs,h⟩:=h
 exact Nat.le_trans I.hBC h.base

theorem many_len {D al:List UInt8} (n:Nat): ∀{i:Nat} {l:List UInt8} {j:Nat},manyM (oneOfM D al) n i= .ok (l,j)→l.length=n:=by
 induction n with
 |zero=>intro i l j h;cases h;rfl
 |succ n ih=>
  intro i l j h
  rw[manyM]at h
  split at h
  ·cases h
  ·split at h
   ·cases h
   ·rename_i h2;cases h;simp[ih h2]
theorem list_len {D:List UInt8} {most i:Nat} {l:List UInt8} {j:Nat} (h:listM D most i= .ok (l,j)):l.length≤most:=by
 unfold listM at h
 split at h
 ·cases h
 ·rename_i n k hb
  have :=below_lt hb
  have :=many_len n h
  omega

def typesL (I:LIds) (s:Lkr):Except (Int×Int) Lkr:=
 match belowM I.D 17 s.i with
 | .error e=> .error e
 | .ok (n,j)=>match manyM (typeM I.D) n j with
  | .error e=> .error e
  | .ok (l,k)=> .ok {s with types:=s.types++l,i:=k}

theorem readTypes_any (h:LSt I w s) (ht:s.types.length≤100):Calls Tryz.prog 76 #[ptrTo I.kb] w fun r w'=>LDone I w w' (typesL I s) r∧Kp (upl I) w w':=by
 have hM:typesL I s=(match belowM I.D 17 s.i with
  | .error e=> .error e
  | .ok (n,j)=>match manyM (typeM I.D) n j with
   | .error e=> .error e
   | .ok (l,k)=> .ok {s with types:=s.types++l,i:=k}):=rfl
 generalize typesL I s=R at *
 obtain⟨i0,hi0,hz0,hz1,hz2⟩:=info_parts info_ctype
 obtain⟨tv,gv,hlo,hn1,hn2,hn3,-,-⟩:=h.lookAt
 obtain⟨hc,hf⟩:=cells_of hlo
 have hbe:=below_any h.rd 17 (by decide) (by decide)
 have hlt:=fun n j=>below_lt (D:=I.D) (lim:=17) (i:=s.i) (n:=n) (j:=j)
 generalize belowM I.D 17 s.i=Q at *
 have H:=hide h
 have HB:=hide hbe
 have HM:=hide hM
 clear h hlo hbe hM
 match Q,HM,HB,hlt with
 | .error e,HM,HB,_=>
  go_enter Tryz.func76,Tryz.ntmps76
  go_wp2_with fail
  refine HB.out.mono ?_
  rintro r w1 ⟨⟨fv,j,rfl,⟨fb,rfl,hfb,hfo⟩,h1⟩,k1⟩
  have HF:=hide hfo
  clear hfo h1
  go_wp2
  go_ret
  rw[HM.out]
  exact⟨⟨ptrTo fb,rfl,fb,rfl,hfb,HF.out⟩,H.out.lowRd k1⟩
 | .ok (n,j),HM,HB,hlt=>
  have hn:=(hlt n j rfl).1
  clear hlt
  go_enter Tryz.func76,Tryz.ntmps76
  go_wp2_with fail
  refine HB.out.mono ?_
  rintro r w1 ⟨⟨v,rfl,rfl,h1⟩,k1⟩
  have H1:=hide (H.out.read k1 h1)
  have HK1:=hide (H.out.lowRd k1)
  clear h1 k1 hc hf
  go_wp2
  go_loopw [20] (fun kv wr=> ∃(k jj:Nat) (l:List Ty),k≤n∧kv= .int .i64 k∧l.length=k∧LSt I wr {s with i:=jj,types:=s.types++l}∧Kp (upl I) w wr∧manyM (typeM I.D) n j=preR l (manyM (typeM I.D) (n -k) jj)) (fun kv _=>n - (intOf kv).toNat)
  case atStart=>exact⟨0,j,[],by omega,rfl,rfl,by rw[List.append_nil];exact H1.out,HK1.out,by rw[preR_nil];rfl⟩
  case round=>
   obtain⟨k,jj,l,hk,rfl,hlk,hst,hkp,hlab⟩:=hrel
   have HS:=hide hst
   have HK:=hide hkp
   have HLa:=hide hlab
   have HLk:=hide hlk
   obtain⟨tv,xs,gv,hlo,⟨adt,capt,hts⟩,hnk,hown,hadd⟩:=hst.addType
   have hlt1:=hst.rd
   obtain⟨-,-,-,hq1,hq2,hq3,-,-⟩:=hst.lookAt
   obtain⟨N,hN⟩: ∃N,N=(s.types++l).length:=⟨_,rfl⟩
   have hlen:N≤200:=by rw[hN];simp[hlk];omega
   simp only[←hN]at hts hown hadd
   clear hN
   subst hts
   obtain⟨hc,hf⟩:=cells_of hlo
   have HLo:=hide hlo
   have HOw:=hide hown
   have HAd:=hide hadd
   have hli:=readList_any hlt1 hst.dvLt 8 (by decide)
   have hszr:=hkp.size
   have hbase:=hst.base
   have hkb:=hst.kbLt
   simp only at hli
   have hL:=HLa.out
   clear hst hkp hlab hlk hlo hown hadd hlt1
   by_cases hkn:k<n
   ·rw[show n -k=(n -k -1)+1 by omega,preR_step,typeM]at hL
    have hrg:=fun p j2=>list_len (D:=I.D) (most:=8) (i:=jj) (l:=p) (j:=j2)
    generalize listM I.D 8 jj=Q2 at *
    have HLi:=hide hli
    have HL:=hide hL
    clear hli hL
    match Q2,HL,HLi,hrg with
    | .error e,HL,HLi,_=>
     go_wp2_with fail
     refine HLi.out.mono ?_
     rintro r w2 ⟨⟨fv,rfl,fb,rfl,hfb,hfo⟩,k2⟩
     have HF:=hide hfo
     clear hfo
     go_wp2
     go_ret
     rw[HM.out]
     show LDone _ _ _ (match manyM (typeM I.D) n j with | .error e=> .error e| .ok (l,k)=> .ok {s with types:=s.types++l,i:=k}) _∧_
     rw[HL.out]
     exact⟨⟨ptrTo fb,rfl,fb,rfl,by omega,HF.out⟩,HK.out.trans (HS.out.lowRd k2)⟩
    | .ok (p,j2),HL,HLi,hrg=>
     have hp8:=hrg p j2 rfl
     go_wp2_with fail
     refine HLi.out.mono ?_
     rintro r w2 ⟨⟨pv,rfl,hpb,hpo,hr2⟩,k2⟩
     obtain⟨hc2,hf2⟩:=cells_of (k2.blk HLo.out hq1)
     have hsz2:=k2.size
     obtain⟨adp,capp,rfl,-⟩:=hpb.shape1
     have hli2:=readList_any hr2 (fun b hb=>by have :=HS.out.dvLt b hb;omega) 1 (by decide)
     have hL2:=HL.out

     have hrg2:=fun p j3=>list_len (D:=I.D) (most:=1) (i:=j2) (l:=p) (j:=j3)
     generalize listM I.D 1 j2=Q3 at hL2 hli2 hrg2
     have HPb:=hide hpb
     have HPo:=hide hpo
     have HK2:=hide k2
     have HLi2:=hide hli2
     have HL2:=hide hL2
     clear hpb hpo hr2 k2 hli2 hL2 hc hf
     match Q3,HL2,HLi2,hrg2 with
     | .error e,HL2,HLi2,_=>
      go_wp2_with fail
      refine HLi2.out.mono ?_
      rintro r w3 ⟨⟨fv,rfl,fb,rfl,hfb,hfo⟩,k3⟩
      have HF:=hide hfo
      clear hfo
      go_wp2
      go_ret
      rw[HM.out]
      show LDone _ _ _ (match manyM (typeM I.D) n j with | .error e=> .error e| .ok (l,k)=> .ok {s with types:=s.types++l,i:=k}) _∧_
      rw[HL2.out]
      exact⟨⟨ptrTo fb,rfl,fb,rfl,by omega,HF.out⟩,HK.out.trans (HS.out.lowRd (HK2.out.trans k3))⟩
     | .ok (q,j3),HL2,HLi2,hrg2=>
      have hq1':=hrg2 q j3 rfl
      go_wp2_with fail
      refine HLi2.out.mono ?_
      rintro r w3 ⟨⟨rv,rfl,hrb,hro,hr3⟩,k3⟩
      obtain⟨hc3,hf3⟩:=cells_of ((HK2.out.trans k3).blk HLo.out hq1)
      have hsz3:=k3.size
      obtain⟨adr,capr,rfl,-⟩:=hrb.shape1
      have HRb:=hide hrb
      have HRo:=hide hro
      have HR3:=hide hr3
      have HK3:=hide (HK2.out.trans k3)
      have HPb3:=hide (HPb.out.kp k3 (fun b hb (e:b=I.rb)=>by have :=HPo.out b hb;have :=HS.out.rbLt;omega))
      clear hrb hro hr3 k3 hc2 hf2
      go_wp2_with(at_builtin;refine wpList_append_at _ rfl _ _ 179 rfl I.B 138 i0 _ 2 48 Tryz.underlying179 hi0 hz0 hz1 hz2 rfl (by decide) _ _ _ rfl ((HOw.out _ HK3.out).alloc _) _ 1 [.slice adp p.length capp,.slice adr q.length capr] rfl (RowAt.allocAt rfl _ _ 1 2 rfl) (by simp[Value.oneCell']) ?c3 ?c4 ?c5 ?_)
      case c3=>unfold maxLen;omega
      case c4=>omega
      case c5=>simp;omega
      intro v4 w5 hown4 hgrow4 hat4
      obtain⟨ad4,cap4,rfl⟩:=own_shape hown4
      have hst5:=HAd.out w3 _ w5 j3 _ _ p q _ _ _ HK3.out HR3.out HPb3.out HRb.out (fun b hb=>⟨(HPo.out b hb).1,by have :=(HPo.out b hb).2;omega⟩) (fun b hb=>⟨by have :=(HRo.out b hb).1;omega,(HRo.out b hb).2⟩) ((Kp.refl no w3).alloc _) rfl rfl hown4 hgrow4 (by simpa using hat4)
      have hlo5:=(hgrow4.block I.kb (by simp;omega) hnk).trans ((((Kp.refl no w3).alloc _).trans (Kp.refl no _)).blk (HK3.out.blk HLo.out hq1) (fun h=>h))
      obtain⟨hc5,hf5⟩:=cells_of hlo5
      have HS5:=hide hst5.1
      have HK5:=hide (HK.out.trans hst5.2)
      clear hown4 hgrow4 hat4 hst5 hlo5 hc3 hf3
      go_wp2
      go_roundw
      case rel=>exact⟨k+1,j3,l++[(p,q)],by omega,by go_num,by simp[HLk.out],by rw[←List.append_assoc];exact HS5.out,HK5.out,by rw[HL2.out,show n - (k+1)=n -k -1 by omega]⟩
      case measure=>simp[intOf];omega
   ·have hkn':k=n:=by omega
    subst hkn'
    rw[Nat.sub_self]at hL
    have HL:=hide hL
    clear hL
    go_wp2
    go_ret
    rw[HM.out]
    show LDone _ _ _ (match manyM (typeM I.D) k j with | .error e=> .error e| .ok (l,k)=> .ok {s with types:=s.types++l,i:=k}) _∧_
    rw[HL.out,manyM,preR,List.append_nil]
    exact⟨⟨rfl,HS.out⟩,HK.out⟩
end

end Go.Proofs.YtdeplgkhmebalaaGreatDoor

set_option linter.unusedSimpArgs false
set_option linter.unusedVariables false
set_option maxHeartbeats 6000000
set_option maxRecDepth 100000
namespace Go.Proofs.YtdeplgkhmebalaaGreatDoor
open Go.RowKit

def magR (D:List UInt8):List UInt8→Nat→Rd Unit
 |[],i=> .ok ((),i)
 |c::l,i=>match oneOfM D [c] i with
  | .error e=> .error e
  | .ok (_,j)=>magR D l j
theorem magicM_eq (D:List UInt8) (i:Nat):magicM D i=magR D [83,84,75,1] i:=rfl
def magB (k:Nat):UInt8:=[83,84,75,1].getD k 0
theorem magR_step (D:List UInt8) (k i:Nat) (hk:k<4):magR D ([83,84,75,1].drop k) i=(match oneOfM D [magB k] i with
  | .error e=> .error e
  | .ok (_,j)=>magR D ([83,84,75,1].drop (k+1)) j):=by
 rcases(by omega :k=0∨k=1∨k=2∨k=3)with rfl |rfl |rfl |rfl <;>rfl

theorem enters_oneOf: ∀args w,(callFunc 104 args).run Tryz.prog w= .ok (.enter 104 args) w:=enters_of Tryz.func104 (by kernel_rfl) rfl

section
variable{I:LIds} {w:World} {s:Lkr}
def magicL (I:LIds) (s:Lkr):Except (Int×Int) Lkr:=
 match magicM I.D s.i with
 | .error e=> .error e
 | .ok (_,j)=> .ok {s with i:=j}

theorem readMagic_any (h:LSt I w s):Calls Tryz.prog 75 #[ptrTo I.kb] w fun r w'=>LDone I w w' (magicL I s) r∧Kp (upl I) w w':=by
 have hM:magicL I s=(match magR I.D [83,84,75,1] s.i with
 | .error e=> .error e
 | .ok (_,j)=> .ok {s with i:=j}):=rfl
 generalize magicL I s=R at *
 have H:=hide h
 have HM:=hide hM
 clear h hM
 go_enter Tryz.func75,Tryz.ntmps75
 go_wp2
 go_loopw [6] (fun kv wr=> ∃(k jj:Nat),k≤4∧kv= .int .i64 k∧LSt I wr {s with i:=jj}∧Kp (upl I) w wr∧magR I.D [83,84,75,1] s.i=magR I.D ([83,84,75,1].drop k) jj) (fun kv _=>4 - (intOf kv).toNat)
 case atStart=>exact⟨0,s.i,by omega,rfl,H.out,(Kp.refl no w).any,rfl⟩
 case round=>
  obtain⟨k,jj,hk,rfl,hst,hkp,hlab⟩:=hrel
  have HS:=hide hst
  have HK:=hide hkp
  obtain⟨tv,gv,hlo,hn1,hn2,hn3,-,-⟩:=hst.lookAt
  obtain⟨hc,hf⟩:=cells_of hlo
  have hsz:=hkp.size
  have hw1:IntKind.i64.wrap 1=1:=by decide
  have hw2:IntKind.i64.wrap 2=2:=by decide
  have hw3:IntKind.i64.wrap 3=3:=by decide
  have hw4:IntKind.i64.wrap 4=4:=by decide
  by_cases hk4:k<4
  ·have hone:=fun W (kW:Kp no wr W)=>oneOf_any (hst.quiet kW).rd ⟨#[magB k]⟩ [magB k] rfl
   simp only at hone
   rw[magR_step I.D k jj hk4]at hlab
   generalize oneOfM I.D [magB k] jj=Q2 at *
   have HOn:=hide hone
   have HL:=hide hlab
   clear hst hkp hlab hone hlo
   match Q2,HL,HOn with
   | .error e,HL,HOn=>
    rcases(by omega :k=0∨k=1∨k=2∨k=3)with rfl |rfl |rfl |rfl
    all_goals
     go_wp2_with fail
     go_region_law (first |((refine step_call (by rfl) 104 _ _ (by rfl) enters_oneOf _ (by rfl) (HOn.out _ (by repeat' first |exact Kp.refl _ _|apply Kp.drew|apply Kp.drewN|apply Kp.alloc)) ?_;rintro e w3 ⟨⟨fv,j,rfl,⟨fb,rfl,hfb,hfo⟩,h1⟩,k3⟩;refine⟨_,rfl,?_⟩)))
     all_goals
      have HF:=hide hfo
      have hfb':w.heap.size≤fb:=Nat.le_trans hsz hfb
      have HK3:=hide (HK.out.trans (HS.out.lowRd (Kp.trans ((Kp.refl (one I.rb) wr).drew) k3)))
      clear hfo h1 k3
      go_wp2
      go_ret
      rw[HM.out]
      show LDone _ _ _ (match magR I.D [83,84,75,1] s.i with | .error e=> .error e| .ok (_,j)=> .ok {s with i:=j}) _∧_
      rw[HL.out]
      exact⟨⟨ptrTo fb,rfl,fb,rfl,hfb',HF.out⟩,HK3.out⟩
   | .ok (t,j2),HL,HOn=>
    rcases(by omega :k=0∨k=1∨k=2∨k=3)with rfl |rfl |rfl |rfl
    all_goals
     go_wp2_with fail
     go_region_law (first |((refine step_call (by rfl) 104 _ _ (by rfl) enters_oneOf _ (by rfl) (HOn.out _ (by repeat' first |exact Kp.refl _ _|apply Kp.drew|apply Kp.drewN|apply Kp.alloc)) ?_;rintro e w3 ⟨⟨v,rfl,rfl,h1⟩,k3⟩;refine⟨_,rfl,?_⟩)))
     all_goals
      have H3:=hide (HS.out.read (Kp.trans ((Kp.refl (one I.rb) wr).drew) k3) h1)
      have HK3:=hide (HK.out.trans (HS.out.lowRd (Kp.trans ((Kp.refl (one I.rb) wr).drew) k3)))
      clear h1 k3
      go_wp2
      go_roundw
      case rel=>exact⟨_,j2,by omega,by go_num,H3.out,HK3.out,HL.out⟩
      case measure=>simp[intOf]
  ·obtain rfl :k=4:=by omega
   have HL:=hide hlab
   clear hst hkp hlab hlo
   go_wp2
   go_ret
   rw[HM.out]
   show LDone _ _ _ (match magR I.D [83,84,75,1] s.i with | .error e=> .error e| .ok (_,j)=> .ok {s with i:=j}) _∧_
   rw[HL.out]
   exact⟨⟨rfl,HS.out⟩,HK.out⟩
end

end Go.Proofs.YtdeplgkhmebalaaGreatDoor

set_option linter.unusedSimpArgs false
set_option linter.unusedVariables false
namespace Go.Proofs.YtdeplgkhmebalaaGreatDoor
open Go.RowKit

theorem info_global:(Tryz.prog.info? 256).map (fun i=>(i.zero,i.size,i.bytes))=some (some (.agg #[.int .u8 0,.bool false]),2,2):=by kernel_rfl
theorem info_cfunc:(Tryz.prog.info? 140).map (fun i=>(i.zero,i.size,i.bytes))=some (some (.agg #[.slice none 0 0,.slice none 0 0,.int .i64 0,.int .i64 0]),4,64):=by kernel_rfl
theorem info_u64:(Tryz.prog.info? 38).map (fun i=>(i.zero,i.size,i.bytes))=some (some (.int .u64 0),1,8):=by kernel_rfl

section
variable{I:LIds} {w:World} {s:Lkr}

theorem addGlob_end {role:Nat→Nat} {tv gv fv glv cv:Value} {tys:List TyV} {fs:List FnV} (h:LStG I w s role tv gv fv glv cv tys fs) {W w5:World} (kW:Kp no w W) (x:UInt8×Bool)
  {v1:Value} {n:Nat} {xs:List Value} (hn:n=s.gl.length+1) (hxs:xs=s.gl.flatMap glCells++glCells x)
  (hown1:w5.ownsRow I.B 256 2 v1 n xs) (hgrow:W.grownBy w5 gv.ownBlock) (hat:v1.ownBlock=gv.ownBlock∨v1.ownBlock=some W.heap.size):
  LSt I (w5.setCell ⟨I.kb,2,none⟩ v1) {s with gl:=s.gl++[x]}∧Kp (upl I) w (w5.setCell ⟨I.kb,2,none⟩ v1):=by
 subst hn hxs
 obtain⟨role',hro⟩: ∃role':Nat→Nat,role'=fun k=>if k<w.heap.size then role k else 5:=⟨_,rfl⟩
 have h1:LStG I w s role' tv gv fv glv cv tys fs:=h.rerole (fun k hk=>by rw[hro];simp only[if_pos hk])
 have h2:=h1.quiet kW
 have hsW:=kW.size
 have hv1: ∀b,v1.ownBlock=some b→role' b=5:=by
  intro b hb
  rcases hat with e|e
  ·exact h1.r5 b (e▸hb)
  ·rw[hb]at e;cases e
   rw[hro]
   simp only[if_neg (show ¬W.heap.size<w.heap.size by omega)]
 have k4:Kp (fun b=>(fun r=>r=3∨r=5) (role' b)) W w5:=(Kp.refl _ W).grown hgrow (fun b hb=> .inl (.inr (h2.r5 b hb)))
 have k5:Kp (fun b=>(fun r=>r=3∨r=5) (role' b)) W (w5.setCell ⟨I.kb,2,none⟩ v1):=k4.setAt (.inl h2.r3) _ _
 have hlook:w5.heap[I.kb]? =some (.cells #[ptrTo I.rb,tv,gv,ptrTo I.mb] 182):=(hgrow.block I.kb (lt_of_blk h2.look) (fun e=>by have :=h2.r5 _ e.symm;rw[h2.r3]at this;cases this)).trans h2.look
 have ho:(w5.setCell ⟨I.kb,2,none⟩ v1).ownsRow I.B 256 2 v1 (s.gl.length+1) (s.gl.flatMap glCells++glCells x):=
  ((Kp.refl (one I.kb) w5).set1 _ _).own hown1 (fun b hb (e:b=I.kb)=>by have :=hv1 b hb;rw[e,h2.r3]at this;cases this)
 have kF:Kp (upl I) w (w5.setCell ⟨I.kb,2,none⟩ v1):=kW.any.trans (h2.low' (X:=fun r=>r=3∨r=5) k5 (by decide))
 refine⟨⟨role',tv,v1,fv,glv,cv,tys,fs,?_⟩,kF⟩
 refine⟨Nat.le_trans h2.base k5.size,(h2.kRd (X:=fun r=>r=3∨r=5) k5 (by decide) (by decide):),heap_setCell hlook _,(h2.kMod (X:=fun r=>r=3∨r=5) k5 (by decide):),(h2.kTypes (X:=fun r=>r=3∨r=5) k5 (by decide):),?_,(h2.kFuncs (X:=fun r=>r=3∨r=5) k5 (by decide):),(h2.kVals (X:=fun r=>r=3∨r=5) k5 (by decide):),(h2.kCode (X:=fun r=>r=3∨r=5) k5 (by decide):),h2.eqT,h2.eqF,h2.kTyB (X:=fun r=>r=3∨r=5) k5 (by decide),h2.kFnB (X:=fun r=>r=3∨r=5) k5 (by decide),h2.r1,h2.r2,h2.r3,h2.r4,hv1,h2.r6,h2.r7,h2.r8,h2.kTyR (X:=fun r=>r=3∨r=5) k5,h2.kFnR (X:=fun r=>r=3∨r=5) k5,h2.low,h2.dvB,h2.tyN,h2.fnN⟩
 simpa[List.flatMap_append]using ho

theorem addVal_end {role:Nat→Nat} {tv gv fv glv cv:Value} {tys:List TyV} {fs:List FnV} (h:LStG I w s role tv gv fv glv cv tys fs) {W w5:World} (kW:Kp no w W) (x:Nat)
  {v1:Value} {n:Nat} {xs:List Value} (hn:n=s.vals.length+1) (hxs:xs=(s.vals.map fun n=>Value.int .u64 (n:Nat))++[.int .u64 (x:Nat)])
  (hown1:w5.ownsRow I.B 38 1 v1 n xs) (hgrow:W.grownBy w5 glv.ownBlock) (hat:v1.ownBlock=glv.ownBlock∨v1.ownBlock=some W.heap.size):
  LSt I (w5.setCell ⟨I.mb,1,none⟩ v1) {s with vals:=s.vals++[x]}∧Kp (upl I) w (w5.setCell ⟨I.mb,1,none⟩ v1):=by
 subst hn hxs
 obtain⟨role',hro⟩: ∃role':Nat→Nat,role'=fun k=>if k<w.heap.size then role k else 7:=⟨_,rfl⟩
 have h1:LStG I w s role' tv gv fv glv cv tys fs:=h.rerole (fun k hk=>by rw[hro];simp only[if_pos hk])
 have h2:=h1.quiet kW
 have hsW:=kW.size
 have hv1: ∀b,v1.ownBlock=some b→role' b=7:=by
  intro b hb
  rcases hat with e|e
  ·exact h1.r7 b (e▸hb)
  ·rw[hb]at e;cases e
   rw[hro]
   simp only[if_neg (show ¬W.heap.size<w.heap.size by omega)]
 have k4:Kp (fun b=>(fun r=>r=2∨r=7) (role' b)) W w5:=(Kp.refl _ W).grown hgrow (fun b hb=> .inl (.inr (h2.r7 b hb)))
 have k5:Kp (fun b=>(fun r=>r=2∨r=7) (role' b)) W (w5.setCell ⟨I.mb,1,none⟩ v1):=k4.setAt (.inl h2.r2) _ _
 have hmod:w5.heap[I.mb]? =some (.cells #[fv,glv,.int .i64 s.pages,cv] 121):=(hgrow.block I.mb (lt_of_blk h2.mod) (fun e=>by have :=h2.r7 _ e.symm;rw[h2.r2]at this;cases this)).trans h2.mod
 have ho:(w5.setCell ⟨I.mb,1,none⟩ v1).ownsRow I.B 38 1 v1 (s.vals.length+1) ((s.vals.map fun n=>Value.int .u64 (n:Nat))++[.int .u64 (x:Nat)]):=
  ((Kp.refl (one I.mb) w5).set1 _ _).own hown1 (fun b hb (e:b=I.mb)=>by have :=hv1 b hb;rw[e,h2.r2]at this;cases this)
 have kF:Kp (upl I) w (w5.setCell ⟨I.mb,1,none⟩ v1):=kW.any.trans (h2.low' (X:=fun r=>r=2∨r=7) k5 (by decide))
 refine⟨⟨role',tv,gv,fv,v1,cv,tys,fs,?_⟩,kF⟩
 refine⟨Nat.le_trans h2.base k5.size,(h2.kRd (X:=fun r=>r=2∨r=7) k5 (by decide) (by decide):),(h2.kLook (X:=fun r=>r=2∨r=7) k5 (by decide):),heap_setCell hmod _,(h2.kTypes (X:=fun r=>r=2∨r=7) k5 (by decide):),(h2.kGlobs (X:=fun r=>r=2∨r=7) k5 (by decide):),(h2.kFuncs (X:=fun r=>r=2∨r=7) k5 (by decide):),?_,(h2.kCode (X:=fun r=>r=2∨r=7) k5 (by decide):),h2.eqT,h2.eqF,h2.kTyB (X:=fun r=>r=2∨r=7) k5 (by decide),h2.kFnB (X:=fun r=>r=2∨r=7) k5 (by decide),h2.r1,h2.r2,h2.r3,h2.r4,h2.r5,h2.r6,hv1,h2.r8,h2.kTyR (X:=fun r=>r=2∨r=7) k5,h2.kFnR (X:=fun r=>r=2∨r=7) k5,h2.low,h2.dvB,h2.tyN,h2.fnN⟩
 simpa using ho

theorem addFunc_end {role:Nat→Nat} {tv gv fv glv cv:Value} {tys:List TyV} {fs:List FnV} (h:LStG I w s role tv gv fv glv cv tys fs) {W w5:World} (kW:Kp no w W) {x:TyV} (hx:x∈tys)
  {v1:Value} {n:Nat} {xs:List Value} (hn:n=s.fns.length+1) (hxs:xs=fs.flatMap fnCells++[x.2.1,x.2.2,.int .i64 0,.int .i64 0])
  (hown1:w5.ownsRow I.B 140 4 v1 n xs) (hgrow:W.grownBy w5 fv.ownBlock) (hat:v1.ownBlock=fv.ownBlock∨v1.ownBlock=some W.heap.size):
  LSt I (w5.setCell ⟨I.mb,0,none⟩ v1) {s with fns:=s.fns++[⟨x.1,0,0⟩]}∧Kp (upl I) w (w5.setCell ⟨I.mb,0,none⟩ v1):=by
 subst hn hxs
 obtain⟨role',hro⟩: ∃role':Nat→Nat,role'=fun k=>if k<w.heap.size then role k else 6:=⟨_,rfl⟩
 have h1:LStG I w s role' tv gv fv glv cv tys fs:=h.rerole (fun k hk=>by rw[hro];simp only[if_pos hk])
 have h2:=h1.quiet kW
 have hsW:=kW.size
 have hv1: ∀b,v1.ownBlock=some b→role' b=6:=by
  intro b hb
  rcases hat with e|e
  ·exact h1.r6 b (e▸hb)
  ·rw[hb]at e;cases e
   rw[hro]
   simp only[if_neg (show ¬W.heap.size<w.heap.size by omega)]
 have k4:Kp (fun b=>(fun r=>r=2∨r=6) (role' b)) W w5:=(Kp.refl _ W).grown hgrow (fun b hb=> .inl (.inr (h2.r6 b hb)))
 have k5:Kp (fun b=>(fun r=>r=2∨r=6) (role' b)) W (w5.setCell ⟨I.mb,0,none⟩ v1):=k4.setAt (.inl h2.r2) _ _
 have hmod:w5.heap[I.mb]? =some (.cells #[fv,glv,.int .i64 s.pages,cv] 121):=(hgrow.block I.mb (lt_of_blk h2.mod) (fun e=>by have :=h2.r6 _ e.symm;rw[h2.r2]at this;cases this)).trans h2.mod
 have ho:(w5.setCell ⟨I.mb,0,none⟩ v1).ownsRow I.B 140 4 v1 (s.fns.length+1) (fs.flatMap fnCells++[x.2.1,x.2.2,.int .i64 0,.int .i64 0]):=
  ((Kp.refl (one I.mb) w5).set1 _ _).own hown1 (fun b hb (e:b=I.mb)=>by have :=hv1 b hb;rw[e,h2.r2]at this;cases this)
 have kF:Kp (upl I) w (w5.setCell ⟨I.mb,0,none⟩ v1):=kW.any.trans (h2.low' (X:=fun r=>r=2∨r=6) k5 (by decide))
 have hTB:=h2.kTyB (X:=fun r=>r=2∨r=6) k5 (by decide)
 have hTR:=h2.kTyR (X:=fun r=>r=2∨r=6) k5
 refine⟨⟨role',tv,gv,v1,glv,cv,tys,fs++[(⟨x.1,0,0⟩,x.2.1,x.2.2)],?_⟩,kF⟩
 refine⟨Nat.le_trans h2.base k5.size,(h2.kRd (X:=fun r=>r=2∨r=6) k5 (by decide) (by decide):),(h2.kLook (X:=fun r=>r=2∨r=6) k5 (by decide):),heap_setCell hmod _,(h2.kTypes (X:=fun r=>r=2∨r=6) k5 (by decide):),(h2.kGlobs (X:=fun r=>r=2∨r=6) k5 (by decide):),?_,(h2.kVals (X:=fun r=>r=2∨r=6) k5 (by decide):),(h2.kCode (X:=fun r=>r=2∨r=6) k5 (by decide):),h2.eqT,?_,hTB,?_,h2.r1,h2.r2,h2.r3,h2.r4,h2.r5,hv1,h2.r7,h2.r8,hTR,?_,h2.low,h2.dvB,h2.tyN,?_⟩
 ·simpa[List.flatMap_append,fnCells]using ho
 ·simp[h.eqF]
 ·intro y hy
  rcases List.mem_append.1 hy with e|e
  ·exact h2.kFnB (X:=fun r=>r=2∨r=6) k5 (by decide) y e
  ·simp only[List.mem_singleton]at e;subst e;exact hTB x hx
 ·intro y hy
  rcases List.mem_append.1 hy with e|e
  ·exact h2.kFnR (X:=fun r=>r=2∨r=6) k5 y e
  ·simp only[List.mem_singleton]at e;subst e;exact hTR x hx
 ·intro y hy
  rcases List.mem_append.1 hy with e|e
  ·exact h2.fnN y e
  ·simp only[List.mem_singleton]at e;subst e;exact h2.tyN x hx
end

end Go.Proofs.YtdeplgkhmebalaaGreatDoor

set_option linter.unusedSimpArgs false
set_option linter.unusedVariables false
set_option maxHeartbeats 6000000
set_option maxRecDepth 100000
namespace Go.Proofs.YtdeplgkhmebalaaGreatDoor
open Go.RowKit
section
variable{I:LIds} {w:World} {s:Lkr}

theorem LSt.addFunc (h:LSt I w s): ∃tv gv fv glv cv xs,w.heap[I.kb]? =some (.cells #[ptrTo I.rb,tv,gv,ptrTo I.mb] 182)∧w.heap[I.mb]? =some (.cells #[fv,glv,.int .i64 s.pages,cv] 121)∧
  (∃ad cap,fv= .slice ad s.fns.length cap)∧some I.mb≠fv.ownBlock∧some I.kb≠fv.ownBlock∧(∀W,Kp no w W→W.ownsRow I.B 140 4 fv s.fns.length xs)∧
  ∀n,n<s.types.length→ ∃a o cap ap lp cp ar lr cr,tv= .slice (some ⟨a,o,none⟩) s.types.length cap∧a≠I.mb∧some a≠fv.ownBlock∧a<w.heap.size∧
   (∀W,Kp no w W→W.cell? ⟨a,o+n*2,none⟩=some (.slice ap lp cp)∧W.cell? ⟨a,o+n*2+1,none⟩=some (.slice ar lr cr))∧
   ∀W w5 v1 m ys,Kp no w W→m=s.fns.length+1→ys=xs++[.slice ap lp cp,.slice ar lr cr,.int .i64 0,.int .i64 0]→w5.ownsRow I.B 140 4 v1 m ys→W.grownBy w5 fv.ownBlock→(v1.ownBlock=fv.ownBlock∨v1.ownBlock=some W.heap.size)→
    LSt I (w5.setCell ⟨I.mb,0,none⟩ v1) {s with fns:=s.fns++[⟨s.types.getD n ([],[]),0,0⟩]}∧Kp (upl I) w (w5.setCell ⟨I.mb,0,none⟩ v1):=by
 obtain⟨role,tv,gv,fv,glv,cv,tys,fs,h⟩:=h
 refine⟨tv,gv,fv,glv,cv,fs.flatMap fnCells,h.look,h.mod,own_shape h.funcs,fun e=> ?_,fun e=> ?_,fun W k=>k.own h.funcs (fun _ _ h=>h),fun n hn=> ?_⟩
 ·have :=h.r6 _ e.symm;rw[h.r2]at this;cases this
 ·have :=h.r6 _ e.symm;rw[h.r3]at this;cases this
 have hl:s.types.length=tys.length:=by rw[h.eqT,List.length_map]
 obtain⟨x,hx⟩: ∃x,tys[n]? =some x:=⟨tys[n]'(by omega),by simp[List.getElem?_eq_getElem (show n<tys.length by omega)]⟩
 have hm:x∈tys:=List.mem_of_getElem? hx
 have hty:s.types.getD n ([],[])=x.1:=by rw[h.eqT];simp[List.getD_eq_getElem?_getD,List.getElem?_map,hx]
 have g0:(tys.flatMap tyCells)[n*2]? =some x.2.1:=by
  have :=flat_get tyLen tys n 0 (by omega);rw[Nat.add_zero]at this;rw[this,hx];rfl
 have g1:(tys.flatMap tyCells)[n*2+1]? =some x.2.2:=by
  rw[flat_get tyLen tys n 1 (by omega),hx];rfl
 have hrow:=RowAt.own h.types
 have hob: ∀b,tv.ownBlock=some b→b<w.heap.size:=fun b hb=>own_lt h.types hb
 obtain⟨hll,⟨rfl,h0⟩|⟨a,o,cap,rfl,hc,hcell⟩⟩:=hrow
 ·omega
 obtain⟨ap,cp,e1,-⟩:=(h.tyB x hm).1.shape
 obtain⟨ar,cr,e2,-⟩:=(h.tyB x hm).2.shape
 refine⟨a,o,cap,ap,x.1.1.length,cp,ar,x.1.2.length,cr,rfl,fun e=> ?_,fun e=> ?_,hob a rfl,fun W k=> ?_,fun W w5 v1 m ys kW b1 b2 b3 b4 b5=> ?_⟩
 ·have :=h.r4 a rfl;rw[e,h.r2]at this;cases this
 ·have :=h.r6 a e.symm;rw[h.r4 a rfl]at this;cases this
 ·rw[←e1,←e2]
  exact⟨k.cell (hcell _ _ g0) (fun h=>h),by rw[Nat.add_assoc];exact k.cell (hcell _ _ g1) (fun h=>h)⟩
 ·rw[hty]
  exact addFunc_end h kW hm b1 (by rw[b2,e1,e2]) b3 b4 b5

theorem enters_below: ∀args w,(callFunc 105 args).run Tryz.prog w= .ok (.enter 105 args) w:=enters_of Tryz.func105 (by kernel_rfl) rfl

def fnOne (D:List UInt8) (ts:List Ty) (i:Nat):Rd Ty:=match belowM D ts.length i with
 | .error e=> .error e
 | .ok (k,j)=> .ok (ts.getD k ([],[]),j)
def funcsL (I:LIds) (s:Lkr):Except (Int×Int) Lkr:=
 match belowM I.D 17 s.i with
 | .error e=> .error e
 | .ok (n,j)=>match manyM (fnOne I.D s.types) n j with
  | .error e=> .error e
  | .ok (l,k)=> .ok {s with fns:=s.fns++l.map (fun t=>⟨t,0,0⟩),i:=k}

theorem readFuncs_any (h:LSt I w s) (ht:s.types.length≤200) (hfn:s.fns.length≤100):Calls Tryz.prog 77 #[ptrTo I.kb] w fun r w'=>LDone I w w' (funcsL I s) r∧Kp (upl I) w w':=by
 have hM:funcsL I s=(match belowM I.D 17 s.i with
  | .error e=> .error e
  | .ok (n,j)=>match manyM (fnOne I.D s.types) n j with
   | .error e=> .error e
   | .ok (l,k)=> .ok {s with fns:=s.fns++l.map (fun t=>⟨t,0,0⟩),i:=k}):=rfl
 generalize funcsL I s=R at *
 obtain⟨i0,hi0,hz0,hz1,hz2⟩:=info_parts info_cfunc
 obtain⟨tv,gv,hlo,hn1,hn2,hn3,-,-⟩:=h.lookAt
 obtain⟨hc,hf⟩:=cells_of hlo
 have hbe:=below_any h.rd 17 (by decide) (by decide)
 have hlt:=fun n j=>below_lt (D:=I.D) (lim:=17) (i:=s.i) (n:=n) (j:=j)
 generalize belowM I.D 17 s.i=Q at *
 have H:=hide h
 have HB:=hide hbe
 have HM:=hide hM
 clear h hlo hbe hM
 match Q,HM,HB,hlt with
 | .error e,HM,HB,_=>
  go_enter Tryz.func77,Tryz.ntmps77
  go_wp2_with fail
  refine HB.out.mono ?_
  rintro r w1 ⟨⟨fv,j,rfl,⟨fb,rfl,hfb,hfo⟩,h1⟩,k1⟩
  have HF:=hide hfo
  clear hfo h1
  go_wp2
  go_ret
  rw[HM.out]
  exact⟨⟨ptrTo fb,rfl,fb,rfl,hfb,HF.out⟩,H.out.lowRd k1⟩
 | .ok (n,j),HM,HB,hlt=>
  have hn:=(hlt n j rfl).1
  clear hlt
  go_enter Tryz.func77,Tryz.ntmps77
  go_wp2_with fail
  refine HB.out.mono ?_
  rintro r w1 ⟨⟨v,rfl,rfl,h1⟩,k1⟩
  have H1:=hide (H.out.read k1 h1)
  have HK1:=hide (H.out.lowRd k1)
  clear h1 k1 hc hf
  go_wp2
  go_loopw [19] (fun kv wr=> ∃(k jj:Nat) (l:List Ty),k≤n∧kv= .int .i64 k∧l.length=k∧LSt I wr {s with i:=jj,fns:=s.fns++l.map (fun t=>⟨t,0,0⟩)}∧Kp (upl I) w wr∧manyM (fnOne I.D s.types) n j=preR l (manyM (fnOne I.D s.types) (n -k) jj)) (fun kv _=>n - (intOf kv).toNat)
  case atStart=>exact⟨0,j,[],by omega,rfl,rfl,by simpa using H1.out,HK1.out,by rw[preR_nil];rfl⟩
  case round=>
   obtain⟨k,jj,l,hk,rfl,hlk,hst,hkp,hlab⟩:=hrel
   have HS:=hide hst
   have HK:=hide hkp
   have HLa:=hide hlab
   have HLk:=hide hlk
   obtain⟨tv,gv,hlo,hq1,hq2,hq3,⟨adt,capt,rfl⟩,-⟩:=hst.lookAt
   obtain⟨hc,hf⟩:=cells_of hlo
   have HLo:=hide hlo
   have hszr:=hkp.size
   have hL:=HLa.out
   have hbe2:=fun W (kW:Kp no wr W)=>below_any (hst.quiet kW).rd s.types.length (by omega) (by omega)
   clear hst hkp hlab hlk hlo
   by_cases hkn:k<n
   ·rw[show n -k=(n -k -1)+1 by omega,preR_step,fnOne]at hL
    have hrg:=fun p j2=>below_lt (D:=I.D) (lim:=s.types.length) (i:=jj) (n:=p) (j:=j2)
    simp only at hbe2
    generalize belowM I.D (s.types.length) jj=Q2 at *
    have HB2:=hide hbe2
    have HL:=hide hL
    clear hbe2 hL
    match Q2,HL,HB2,hrg with
    | .error e,HL,HB2,_=>
     go_wp2_with fail
     refine wp_region_S 15 (fun w'=> ∀o,w'.cell? ⟨I.kb,o,none⟩= #[ptrTo I.rb,.slice adt s.types.length capt,gv,ptrTo I.mb][o]?) (by kernel_rfl) (n:=15) rfl rfl ?hS (fun hS=> ?_)
     case hS=>exact fun o=>hc o
     refine tk 0 [] rfl (by kernel_rfl) rfl (fun _ _ _ h=>h) hS (fun _ h=>by(try dsimp only at h);go_simp;all_goals with_reducible rfl) ?_
     simp only[pS]
     refine tk 1 [] rfl (by kernel_rfl) rfl (fun _ _ _ h=>h) hS (fun _ h=>by(try dsimp only at h);go_simp;all_goals with_reducible rfl) ?_
     simp only[pS]
     refine tk 2 [] rfl (by kernel_rfl) rfl (fun _ _ _ h=>h) hS (fun _ h=>by(try dsimp only at h);go_simp;all_goals with_reducible rfl) ?_
     simp only[pS]
     refine tk 3 [] rfl (by kernel_rfl) rfl (fun _ _ _ h=>h) hS (fun _ h=>by(try dsimp only at h);go_simp;all_goals with_reducible rfl) ?_
     simp only[pS]
     refine tk 4 [] rfl (by kernel_rfl) rfl (fun _ _ _ h=>h) hS (fun _ h=>by(try dsimp only at h);go_simp;all_goals with_reducible rfl) ?_
     simp only[pS]
     refine tk 5 [] rfl (by kernel_rfl) rfl (fun _ _ _ h=>h) hS (fun _ h=>by(try dsimp only at h);go_simp;all_goals with_reducible rfl) ?_
     simp only[pS]
     refine tk 6 [] rfl (by kernel_rfl) rfl (fun _ _ _ h=>h) hS (fun _ h=>by(try dsimp only at h);go_simp;all_goals with_reducible rfl) ?_
     simp only[pS]
     refine tk 7 [] rfl (by kernel_rfl) rfl (fun _ _ _ h=>h) hS (fun _ h=>by(try dsimp only at h);go_simp;all_goals with_reducible rfl) ?_
     simp only[pS]
     refine tk 8 [] rfl (by kernel_rfl) rfl (fun _ _ _ h=>h) hS (fun _ h=>by(try dsimp only at h);go_simp;all_goals with_reducible rfl) ?_
     simp only[pS]
     refine wpAnyS_one 9 rfl (by kernel_rfl) rfl (fun K hK=> ?_)
     refine step_call (by rfl) 105 _ _ (by rfl) enters_below _ (by rfl) (HB2.out _ ((Kp.refl _ _).drew)) ?_
     rintro e w3 ⟨⟨fv,j9,rfl,⟨fb,rfl,hfb,hfo⟩,h1⟩,k3⟩
     refine⟨_,rfl,hK _ _ (fun o=> ?_) (fun hS=> ?_)⟩
     ·exact(cells_of (k3.blk (a:=wr.drew) HLo.out hq1)).1 o
     clear hK K
     refine tk 10 [] rfl (by kernel_rfl) rfl (fun _ _ _ h=>h) hS (fun _ h=>by(try dsimp only at h);go_simp;all_goals with_reducible rfl) ?_
     simp only[pS]
     refine tk 11 [] rfl (by kernel_rfl) rfl (fun _ _ _ h=>h) hS (fun _ h=>by(try dsimp only at h);go_simp;all_goals with_reducible rfl) ?_
     simp only[pS]
     refine tk 12 [] rfl (by kernel_rfl) rfl (fun _ _ _ h=>h) hS (fun _ h=>by(try dsimp only at h);go_simp;all_goals with_reducible rfl) ?_
     simp only[pS]
     refine tk 13 [] rfl (by kernel_rfl) rfl (fun _ _ _ h=>h) hS (fun _ h=>by(try dsimp only at h);go_simp;all_goals with_reducible rfl) ?_
     simp only[pS]
     refine tk 14 [] rfl (by kernel_rfl) rfl (fun _ _ _ h=>h) hS (fun _ h=>by(try dsimp only at h);go_simp;all_goals with_reducible rfl) ?_
     simp only[pS]
     refine wpAnyS_done (by kernel_rfl) ?_ _
     have HF:=hide hfo
     have hfb':w.heap.size≤fb:=Nat.le_trans hszr hfb
     have HK3:=hide (HK.out.trans (HS.out.lowRd (Kp.trans ((Kp.refl (one I.rb) wr).drew) k3)))
     clear hfo h1 k3
     go_wp2
     go_ret
     rw[HM.out]
     show LDone _ _ _ (match manyM (fnOne I.D s.types) n j with | .error e=> .error e| .ok (l,k)=> .ok {s with fns:=s.fns++l.map (fun t=>⟨t,0,0⟩),i:=k}) _∧_
     rw[HL.out]
     exact⟨⟨ptrTo fb,rfl,fb,rfl,hfb',HF.out⟩,HK3.out⟩
    | .ok (p,j2),HL,HB2,hrg=>
     have hp:=(hrg p j2 rfl).1
     clear hrg
     go_wp2_with fail
     refine wp_region_S 15 (fun w'=> ∀o,w'.cell? ⟨I.kb,o,none⟩= #[ptrTo I.rb,.slice adt s.types.length capt,gv,ptrTo I.mb][o]?) (by kernel_rfl) (n:=15) rfl rfl ?hS (fun hS=> ?_)
     case hS=>exact fun o=>hc o
     refine tk 0 [] rfl (by kernel_rfl) rfl (fun _ _ _ h=>h) hS (fun _ h=>by(try dsimp only at h);go_simp;all_goals with_reducible rfl) ?_
     simp only[pS]
     refine tk 1 [] rfl (by kernel_rfl) rfl (fun _ _ _ h=>h) hS (fun _ h=>by(try dsimp only at h);go_simp;all_goals with_reducible rfl) ?_
     simp only[pS]
     refine tk 2 [] rfl (by kernel_rfl) rfl (fun _ _ _ h=>h) hS (fun _ h=>by(try dsimp only at h);go_simp;all_goals with_reducible rfl) ?_
     simp only[pS]
     refine tk 3 [] rfl (by kernel_rfl) rfl (fun _ _ _ h=>h) hS (fun _ h=>by(try dsimp only at h);go_simp;all_goals with_reducible rfl) ?_
     simp only[pS]
     refine tk 4 [] rfl (by kernel_rfl) rfl (fun _ _ _ h=>h) hS (fun _ h=>by(try dsimp only at h);go_simp;all_goals with_reducible rfl) ?_
     simp only[pS]
     refine tk 5 [] rfl (by kernel_rfl) rfl (fun _ _ _ h=>h) hS (fun _ h=>by(try dsimp only at h);go_simp;all_goals with_reducible rfl) ?_
     simp only[pS]
     refine tk 6 [] rfl (by kernel_rfl) rfl (fun _ _ _ h=>h) hS (fun _ h=>by(try dsimp only at h);go_simp;all_goals with_reducible rfl) ?_
     simp only[pS]
     refine tk 7 [] rfl (by kernel_rfl) rfl (fun _ _ _ h=>h) hS (fun _ h=>by(try dsimp only at h);go_simp;all_goals with_reducible rfl) ?_
     simp only[pS]
     refine tk 8 [] rfl (by kernel_rfl) rfl (fun _ _ _ h=>h) hS (fun _ h=>by(try dsimp only at h);go_simp;all_goals with_reducible rfl) ?_
     simp only[pS]
     refine wpAnyS_one 9 rfl (by kernel_rfl) rfl (fun K hK=> ?_)
     refine step_call (by rfl) 105 _ _ (by rfl) enters_below _ (by rfl) (HB2.out _ ((Kp.refl _ _).drew)) ?_
     rintro e w3 ⟨⟨v,rfl,rfl,h1⟩,k3⟩
     refine⟨_,rfl,hK _ _ (fun o=> ?_) (fun hS=> ?_)⟩
     ·exact(cells_of (k3.blk (a:=wr.drew) HLo.out hq1)).1 o
     clear hK K
     refine tk 10 [] rfl (by kernel_rfl) rfl (fun _ _ _ h=>h) hS (fun _ h=>by(try dsimp only at h);go_simp;all_goals with_reducible rfl) ?_
     simp only[pS]
     refine tk 11 [] rfl (by kernel_rfl) rfl (fun _ _ _ h=>h) hS (fun _ h=>by(try dsimp only at h);go_simp;all_goals with_reducible rfl) ?_
     simp only[pS]
     refine tk 12 [] rfl (by kernel_rfl) rfl (fun _ _ _ h=>h) hS (fun _ h=>by(try dsimp only at h);go_simp;all_goals with_reducible rfl) ?_
     simp only[pS]
     refine tk 13 [] rfl (by kernel_rfl) rfl (fun _ _ _ h=>h) hS (fun _ h=>by(try dsimp only at h);go_simp;all_goals with_reducible rfl) ?_
     simp only[pS]
     refine tk 14 [] rfl (by kernel_rfl) rfl (fun _ _ _ h=>h) hS (fun _ h=>by(try dsimp only at h);go_simp;all_goals with_reducible rfl) ?_
     simp only[pS]
     refine wpAnyS_done (by kernel_rfl) ?_ _
     have h3:=HS.out.read (Kp.trans ((Kp.refl (one I.rb) wr).drew) k3) h1
     have HS3:=hide h3
     have HK3:=hide (HK.out.trans (HS.out.lowRd (Kp.trans ((Kp.refl (one I.rb) wr).drew) k3)))
     have hsz3:=h3.base
     have hkb3:=h3.kbLt
     obtain⟨tv3,gv3,fv3,glv3,cv3,xs3,hlo3,hmo3,⟨adf,capf,hfs⟩,hnm,hnk,hown3,hadd3⟩:=h3.addFunc
     obtain⟨N,hN⟩: ∃N,N=(s.fns++l.map (fun t=>(⟨t,0,0⟩:FnM))).length:=⟨_,rfl⟩
     have hlen:N≤200:=by rw[hN];simp[HLk.out];omega
     simp only[←hN]at hfs hown3 hadd3
     clear hN
     subst hfs
     obtain⟨a,o,cap,ap,lp,cp,ar,lr,cr,rfl,ham,haf,haw,hcs,hadd⟩:=hadd3 p (by simpa using hp)
     have hpN:p<s.types.length:=by simpa using hp
     obtain⟨hcs0,hcs1⟩:=hcs w3 (Kp.refl no w3)
     have hc3:=(cells_of hlo3).1
     have hm3:=(cells_of hmo3).1 0
     have hmf3:=(cells_of hmo3).2 0
     have hmb3:=lt_of_blk hmo3
     have HOw:=hide hown3
     have HAd:=hide hadd
     have HLo3:=hide hlo3
     have HMo3:=hide hmo3
     have HC:=hide hcs
     obtain⟨S,hSd⟩: ∃S:World→Prop,S=fun w'=>(∀q,w'.cell? ⟨I.kb,q,none⟩= #[ptrTo I.rb,.slice (some ⟨a,o,none⟩) s.types.length cap,gv3,ptrTo I.mb][q]?)∧w'.cell? ⟨I.mb,0,none⟩=some (.slice adf N capf)∧w'.frozen? ⟨I.mb,0,none⟩=false∧w'.cell? ⟨a,o+p*2,none⟩=some (.slice ap lp cp)∧w'.cell? ⟨a,o+p*2+1,none⟩=some (.slice ar lr cr):=⟨_,rfl⟩
     have hSk: ∀W,Kp (fun b=>some b=(Value.slice adf N capf).ownBlock) w3 W→S W:=fun W k=>by
      rw[hSd];exact⟨(cells_of (k.blk hlo3 hnk)).1,(cells_of (k.blk hmo3 hnm)).1 0,(cells_of (k.blk hmo3 hnm)).2 0,k.cell hcs0 haf,k.cell hcs1 haf⟩
     have HSk:=hide hSk
     have HSd:=hide hSd
     clear h1 k3 hc hf h3 hlo3 hmo3 hown3 hadd hcs hadd3 hS hSk hSd hc3 hm3 hmf3 hcs0 hcs1
     go_wp2_with fail
     refine wp_region_S 23 (S) (by kernel_rfl) (n:=24) rfl rfl ?hS (fun hS=> ?_)
     case hS=>exact HSk.out _ ((Kp.refl _ _).drew)
     have hSd:=HSd.out
     subst hSd
     refine tk 0 [] rfl (by kernel_rfl) rfl (fun _ _ _ h=>h) hS (fun _ h=>by(try dsimp only at h);go_simp;all_goals with_reducible rfl) ?_
     simp only[pS]
     refine tk 1 [] rfl (by kernel_rfl) rfl (fun _ _ _ h=>h) hS (fun _ h=>by(try dsimp only at h);go_simp;all_goals with_reducible rfl) ?_
     simp only[pS]
     refine tk 2 [] rfl (by kernel_rfl) rfl (fun _ _ _ h=>h) hS (fun _ h=>by(try dsimp only at h);go_simp;all_goals with_reducible rfl) ?_
     simp only[pS]
     refine tk 3 [] rfl (by kernel_rfl) rfl (fun _ _ _ h=>h) hS (fun _ h=>by(try dsimp only at h);go_simp;all_goals with_reducible rfl) ?_
     simp only[pS]
     refine tk 4 [] rfl (by kernel_rfl) rfl (fun _ _ _ h=>h) hS (fun _ h=>by(try dsimp only at h);go_simp;all_goals with_reducible rfl) ?_
     simp only[pS]
     refine tk 5 [] rfl (by kernel_rfl) rfl (fun _ _ _ h=>h) hS (fun _ h=>by(try dsimp only at h);go_simp;all_goals with_reducible rfl) ?_
     simp only[pS]
     refine tk 6 [] rfl (by kernel_rfl) rfl (fun _ _ _ h=>h) hS (fun _ h=>by(try dsimp only at h);go_simp;all_goals with_reducible rfl) ?_
     simp only[pS]
     refine tk 7 [] rfl (by kernel_rfl) rfl (fun _ _ _ h=>h) hS (fun _ h=>by(try dsimp only at h);go_simp;all_goals with_reducible rfl) ?_
     simp only[pS]
     refine tk 8 [] rfl (by kernel_rfl) rfl (fun _ _ _ h=>h) hS (fun _ h=>by(try dsimp only at h);go_simp;all_goals with_reducible rfl) ?_
     simp only[pS]
     refine tk 9 [] rfl (by kernel_rfl) rfl (fun _ _ _ h=>h) hS (fun _ h=>by(try dsimp only at h);go_simp;all_goals with_reducible rfl) ?_
     simp only[pS]
     refine tk 10 [] rfl (by kernel_rfl) rfl (fun _ _ _ h=>h) hS (fun _ h=>by(try dsimp only at h);go_simp;all_goals with_reducible rfl) ?_
     simp only[pS]
     refine tk 11 [] rfl (by kernel_rfl) rfl (fun _ _ _ h=>h) hS (fun _ h=>by(try dsimp only at h);go_simp;all_goals with_reducible rfl) ?_
     simp only[pS]
     refine tk 12 [] rfl (by kernel_rfl) rfl (fun _ _ _ h=>h) hS (fun _ h=>by(try dsimp only at h);go_simp;all_goals with_reducible rfl) ?_
     simp only[pS]
     refine tk 13 [] rfl (by kernel_rfl) rfl (fun _ _ _ h=>h) hS (fun _ h=>by(try dsimp only at h);go_simp;all_goals with_reducible rfl) ?_
     simp only[pS]
     refine tk 14 [] rfl (by kernel_rfl) rfl (fun _ _ _ h=>h) hS (fun _ h=>by(try dsimp only at h);go_simp;all_goals with_reducible rfl) ?_
     simp only[pS]
     refine tk 15 [] rfl (by kernel_rfl) rfl (fun _ _ _ h=>h) hS (fun _ h=>by(try dsimp only at h);go_simp;all_goals with_reducible rfl) ?_
     simp only[pS]
     refine tk 16 [] rfl (by kernel_rfl) rfl (fun _ _ _ h=>h) hS (fun _ h=>by(try dsimp only at h);go_simp;all_goals with_reducible rfl) ?_
     simp only[pS]
     refine tk 17 [] rfl (by kernel_rfl) rfl (fun _ _ _ h=>h) hS (fun _ h=>by(try dsimp only at h);go_simp;all_goals with_reducible rfl) ?_
     simp only[pS]
     refine tk 18 [] rfl (by kernel_rfl) rfl (fun _ _ _ h=>h) hS (fun _ h=>by(try dsimp only at h);go_simp;all_goals with_reducible rfl) ?_
     simp only[pS]
     refine wpAnyS_one 19 rfl (by kernel_rfl) rfl (fun K hK=> ?_)
     go_simp
     refine hK _ _ (HSk.out _ (((Kp.refl _ _).drew).alloc _)) (fun hS=> ?_)
     clear hK K
     refine wpAnyS_one 20 rfl (by kernel_rfl) rfl (fun K hK=> ?_)
     refine step_append_at _ (by rfl) _ _ _ (by rfl) I.B 140 i0 _ 4 64 Tryz.underlying118 hi0 hz0 hz1 hz2 rfl (by omega) _ N _ (by rfl) (HOw.out _ (((Kp.refl _ _).drew).alloc _)) (.slice (some ⟨w3.heap.size,0,none⟩) 1 1) 1 [.slice ap lp cp,.slice ar lr cr,.int .i64 0,.int .i64 0] (by rfl) (RowAt.allocAt rfl #[.slice ap lp cp,.slice ar lr cr,.int .i64 0,.int .i64 0] _ 1 4 rfl) (by simp[Value.oneCell']) (by simp only[maxLen];omega) (by omega) (by simp;omega) ?_
     intro v1 w5 hown1 hgrow hat
     refine hK _ _ (HSk.out _ ((((Kp.refl _ _).drew).alloc _).grown hgrow (fun k e=> .inl e.symm))) (fun hS=> ?_)
     clear hK K
     obtain⟨ad1,cap1,rfl⟩:=own_shape hown1
     refine tk 21 [22] rfl (by kernel_rfl) rfl (fun _ _ _ h=>h) hS (fun _ h=>by(try dsimp only at h);go_simp;all_goals with_reducible rfl) ?_
     simp only[pS]
     refine tk 22 [] rfl (by kernel_rfl) rfl (fun _ _ _ h=>h) hS (fun _ h=>by(try dsimp only at h);go_simp;all_goals with_reducible rfl) ?_
     simp only[pS]
     refine wpAnyS_end 23 rfl (by kernel_rfl) rfl (by kernel_rfl) (fun K hK=> ?_)
     go_simp
     refine hK _ _ ?_
     clear hK K
     refine wpAnyS_done (by kernel_rfl) ?_ _
     obtain⟨h8,k8⟩:=HAd.out _ _ _ _ _ (((Kp.refl no w3).drew).alloc _) rfl rfl hown1 hgrow hat
     have HK8:=hide (HK3.out.trans k8)
     have H8:=hide h8
     clear h8 k8 hown1 hgrow hat hS HSk
     go_wp2
     go_roundw
     case rel=>exact⟨k+1,j2,l++[s.types.getD p ([],[])],by omega,by go_num,by simp[HLk.out],by simpa using H8.out,HK8.out,by rw[HL.out,show n - (k+1)=n -k -1 by omega]⟩
     case measure=>simp[intOf];omega
   ·obtain rfl :k=n:=by omega
    rw[Nat.sub_self]at hL
    have HL:=hide hL
    clear hL
    go_wp2
    go_ret
    rw[HM.out]
    show LDone _ _ _ (match manyM (fnOne I.D s.types) k j with | .error e=> .error e| .ok (l,k)=> .ok {s with fns:=s.fns++l.map (fun t=>⟨t,0,0⟩),i:=k}) _∧_
    rw[HL.out,manyM,preR,List.append_nil]
    exact⟨⟨rfl,HS.out⟩,HK.out⟩
end

end Go.Proofs.YtdeplgkhmebalaaGreatDoor
