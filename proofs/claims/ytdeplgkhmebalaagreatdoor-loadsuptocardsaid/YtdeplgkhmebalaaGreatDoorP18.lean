/- The program's look at a body: its stack. -/
import Derived.Test.YtdeplgkhmebalaaGreatDoorP17
import Derived.Test.YtdeplgkhmebalaaGreatDoorP15

set_option linter.unusedSimpArgs false
set_option linter.unusedVariables false
set_option maxHeartbeats 1000000
set_option maxRecDepth 100000
namespace Go.Proofs.YtdeplgkhmebalaaGreatDoor
open Go.RowKit

theorem info_u8:(Tryz.prog.info? 5).map (fun i=>(i.zero,i.size,i.bytes))=some (some (.int .u8 0),1,1):=by kernel_rfl

section
variable{E:Env} {g:Nat} {w:World} {s:Bd}

theorem put_end {role:Nat→Nat} {sv cv:Value} {kc:Nat} {bs:List BkV} (h:BStG E g w s role sv cv kc bs) (ts:List UInt8) {w1:World} {v1:Value} {n:Nat} {xs:List Value} (hn:n=s.stack.length+ts.length) (hxs:xs=(s.stack.map fun c=> .int .u8 c.toNat)++(ts.map fun c=> .int .u8 c.toNat))
  (hown1:w1.ownsRow E.B 5 1 v1 n xs) (hgrow:w.grownBy w1 sv.ownBlock) (hat:v1.ownBlock=sv.ownBlock∨v1.ownBlock=some w.heap.size):
  BSt E g (w1.setCell ⟨E.bb,4,none⟩ v1) (putM s ts)∧Kp (nro E.ro) w (w1.setCell ⟨E.bb,4,none⟩ v1):=by
 subst hn hxs
 have h':=h.renew 4
 have hm:=lt_of_blk h.body
 have k1:Kp (fun b=>(fun r=>r=3∨r=4) (newRole role w.heap.size 4 b)) w w1:=(Kp.refl _ w).grown hgrow (fun b hb=> .inl (.inr (h'.r4 b hb)))
 have k2:Kp (fun b=>(fun r=>r=3∨r=4) (newRole role w.heap.size 4 b)) w (w1.setCell ⟨E.bb,4,none⟩ v1):=k1.setAt (.inl h'.r3) 4 v1
 have hr: ∀b,v1.ownBlock=some b→newRole role w.heap.size 4 b=4:=by
  intro b hb
  rcases hat with e|e
  ·exact h'.r4 b (e▸hb)
  ·rw[hb]at e;cases e;exact newRole_new (Nat.le_refl _)
 have hbody:w1.heap[E.bb]? =some (bodyObj E g s sv kc):=(hgrow.block E.bb hm (fun e=>by have :=h.r4 _ e.symm;rw[h.r3]at this;cases this)).trans h.body
 refine⟨⟨_,v1,cv,kc,bs,h'.setStack (l:=s.stack++ts) k2 (heap_setCell hbody v1) ?_ hr⟩,h'.nro (X:=fun r=>r=3∨r=4) k2 (by decide)⟩
 have ho:(w1.setCell ⟨E.bb,4,none⟩ v1).ownsRow E.B 5 1 v1 (s.stack.length+ts.length) ((s.stack.map fun c=> .int .u8 c.toNat)++(ts.map fun c=> .int .u8 c.toNat)):=
  ((Kp.refl (one E.bb) w1).set1 4 v1).own hown1 (fun b hb (e:b=E.bb)=>by subst e;have :=hr _ hb;rw[h'.r3]at this;cases this)
 simpa using ho

theorem put_any (h:BSt E g w s) {tv:Value} {ts:List UInt8} (ht:BytesAt w tv ts) (hs:s.stack.length≤1000000) (hts:ts.length≤1000000):
  Calls Tryz.prog 269 #[ptrTo E.bb,tv] w fun r w'=>r= .returned (.tuple #[])∧BSt E g w' (putM s ts)∧Kp (nro E.ro) w w':=by
 obtain⟨role,sv,cv,kc,bs,h⟩:=h
 obtain⟨i0,hi0,hz0,hz1,hz2⟩:=info_parts info_u8
 obtain⟨hb,hbf⟩:=cells_of h.body
 have hB:=h.env.base
 have hlb:=lt_of_blk h.body
 obtain⟨ad,cap,rfl⟩:=own_shape h.stack
 obtain⟨ad2,cap2,rfl,-⟩:=ht.shape
 have n1:some E.bb≠(Value.slice ad s.stack.length cap).ownBlock:=fun e=>by have :=h.r4 _ e.symm;rw[h.r3]at this;cases this
 have H:=hide h
 have HT:=hide ht
 clear h ht
 go_enter Tryz.func269,Tryz.ntmps269
 go_wp2_with(at_builtin;refine wpList_append_at _ rfl _ _ 25 rfl E.B 5 i0 (.int .u8 0) 1 1 Tryz.underlying25 hi0 hz0 hz1 hz2 rfl (by decide) _ _ _ rfl H.out.stack _ ts.length _ rfl HT.out (bytes_oneCell _) ?c3 ?c4 hB ?_)
 case c3=>unfold maxLen;omega
 case c4=>omega
 intro v1 w1 hown1 hgrow hat
 obtain⟨ad1,cap1,rfl⟩:=own_shape hown1
 have hbc:=hgrow.cell_far ⟨E.bb,4,none⟩ hlb n1
 have hbf1:=(hgrow.frozen_far ⟨E.bb,4,none⟩ hlb n1).trans (hbf 4)
 rw[hb]at hbc
 have HO:=hide hown1
 have HG:=hide hgrow
 have HA:=hide hat
 clear hown1 hgrow hat
 go_wp2
 go_end0
 exact⟨rfl,put_end H.out ts rfl rfl HO.out HG.out HA.out⟩

theorem take_end {role:Nat→Nat} {sv cv:Value} {kc:Nat} {bs:List BkV} (h:BStG E g w s role sv cv kc bs) {ad:Option Addr} {cap:Nat} (hsv:sv= .slice ad s.stack.length cap) (hl:0<s.stack.length) {W:World} (kW:Kp no w W):
  BSt E g (W.setCell ⟨E.bb,4,none⟩ (.slice ad (s.stack.length -1) cap)) {s with stack:=s.stack.take (s.stack.length -1)}∧Kp (one E.bb) w (W.setCell ⟨E.bb,4,none⟩ (.slice ad (s.stack.length -1) cap)):=by
 subst hsv
 have k2:Kp (fun b=>(fun r=>r=3∨r=4) (role b)) w (W.setCell ⟨E.bb,4,none⟩ (.slice ad (s.stack.length -1) cap)):=Kp.setAt kW.any (.inl h.r3) 4 _
 have hbody:=kW.blk h.body (fun h=>h)
 refine⟨⟨role,_,cv,kc,bs,h.setStack (l:=s.stack.take (s.stack.length -1)) k2 (heap_setCell hbody _) ?_ (fun b hb=>h.r4 b (by cases ad with |none=>cases hb|some a=>exact hb))⟩,Kp.set1 kW.any 4 _⟩
 have ho:(W.setCell ⟨E.bb,4,none⟩ (.slice ad (s.stack.length -1) cap)).ownsRow E.B 5 1 (.slice ad s.stack.length cap) s.stack.length (s.stack.map fun c=> .int .u8 c.toNat):=
  ((Kp.refl (one E.bb) W).set1 4 _).own (kW.own h.stack (fun _ _ h=>h)) (fun b hb (e:b=E.bb)=>by subst e;have :=h.r4 _ hb;rw[h.r3]at this;cases this)
 obtain⟨h1,⟨h2,h3⟩|⟨g',cap',cur,hv,hb,hh,hc,hm,hsz,ht⟩⟩:=ho
 ·omega
 ·cases hv
  have hlen:(s.stack.take (s.stack.length -1)).length=s.stack.length -1:=by simp
  refine⟨by simp,.inr ⟨g',cap,cur,by rw[hlen],hb,hh,by omega,hm,hsz,?_⟩⟩
  rw[hlen,List.map_take,←ht,List.take_take]
  simp

theorem BStG.bk {role:Nat→Nat} {sv cv:Value} {kc:Nat} {bs:List BkV} (h:BStG E g w s role sv cv kc bs) {k:Nat} (hk:k<s.blocks.length):
  ∃rv wv,bs[k]? =some (s.bk k,rv,wv)∧w.cell? ⟨g,k*5,none⟩=some (.int .i64 (s.bk k).kind)∧w.cell? ⟨g,k*5+1,none⟩=some rv∧w.cell? ⟨g,k*5+2,none⟩=some (.int .i64 (s.bk k).height)∧
   w.cell? ⟨g,k*5+3,none⟩=some (.int .i64 (s.bk k).start)∧w.cell? ⟨g,k*5+4,none⟩=some wv:=by
 have hl:s.blocks.length=bs.length:=by rw[h.eq,List.length_map]
 have hk':k<bs.length:=by omega
 have hb:bs[k]? =some bs[k]:=List.getElem?_eq_getElem hk'
 have e:s.bk k=bs[k].1:=by
  unfold Bd.bk
  rw[h.eq,List.getD,List.getElem?_map,hb];rfl
 have hc: ∀j,j<5→w.cell? ⟨g,k*5+j,none⟩=(bkCells bs[k])[j]? :=by
  intro j hj
  rw[h.blocks.cellAt (k*5+j) (by omega),flat_get bkLen bs k j hj,hb];rfl
 refine⟨bs[k].2.1,bs[k].2.2,by rw[hb,e],?_,?_,?_,?_,?_⟩
 ·rw[e];exact hc 0 (by decide)
 ·exact hc 1 (by decide)
 ·rw[e];exact hc 2 (by decide)
 ·rw[e];exact hc 3 (by decide)
 ·exact hc 4 (by decide)

theorem BStG.stackCell {role:Nat→Nat} {sv cv:Value} {kc:Nat} {bs:List BkV} (h:BStG E g w s role sv cv kc bs) {k:Nat} (hk:k<s.stack.length):
  ∃a cap,sv= .slice (some ⟨a,0,none⟩) s.stack.length cap∧s.stack.length≤cap∧w.cell? ⟨a,k,none⟩=some (.int .u8 (s.stack.getD k 0).toNat):=by
 obtain⟨h1,⟨h2,h3⟩|⟨g',cap',cur,hv,hb,hh,hc,hm,hsz,ht⟩⟩:=h.stack
 ·omega
 ·refine⟨g',cap',hv,hc,?_⟩
  have :=h.stack
  rw[hv]at this
  rw[this.cellAt k (by omega)]
  simp[List.getD,List.getElem?_eq_getElem hk]

theorem takeAny_ok (h:BSt E g w s) (hb:s.blocks≠[]) (hbl:s.blocks.length≤17) (hs:s.stack.length≤1000000) (hh:s.top.height<s.stack.length):
  Calls Tryz.prog 286 #[ptrTo E.bb] w fun r w'=>r= .returned (.tuple #[.int .u8 (s.stack.getD (s.stack.length -1) 0).toNat,.bool true])∧BSt E g w' {s with stack:=s.stack.take (s.stack.length -1)}∧Kp (one E.bb) w w':=by
 have hin:=inner_any' h hb (by omega)
 obtain⟨role,sv,cv,kc,bs,h⟩:=h
 have hl:0<s.blocks.length:=List.length_pos_iff.2 hb
 obtain⟨rv,wv,-,-,-,hht,-,-⟩:=h.bk (k:=s.blocks.length -1) (by omega)
 change w.cell? _=some (.int .i64 (s.top.height:Nat))at hht
 obtain⟨a,cap,hsv,hcap,hsc⟩:=h.stackCell (k:=s.stack.length -1) (by omega)
 have hend:=fun W (kW:Kp no w W)=>take_end h hsv (by omega) kW
 generalize s.top.height=ht at *
 generalize s.stack.getD (s.stack.length -1) 0=u at *
 subst hsv
 obtain⟨hc,hf⟩:=cells_of h.body
 have HB:=hide h.body
 have HI:=hide hin
 have HE:=hide hend
 clear h hin hend
 go_enter Tryz.func286,Tryz.ntmps286
 go_wp2_with fail
 refine HI.out.mono ?_
 rintro e w1 ⟨rfl,k1⟩
 have hht1:=k1.allCells hht
 have hsc1:=k1.allCells hsc
 obtain⟨hc1,hf1⟩:=cells_of (k1.blk HB.out (fun h=>h))
 have HK:=hide k1
 clear hht hsc hc hf k1
 go_wp2
 go_ret2
 exact⟨rfl,HE.out w1 HK.out⟩

theorem takeAny_no (h:BSt E g w s) (hb:s.blocks≠[]) (hbl:s.blocks.length≤17) (hs:s.stack.length≤1000000) (hh:s.stack.length≤s.top.height):
  Calls Tryz.prog 286 #[ptrTo E.bb] w fun r w'=>r= .returned (.tuple #[.int .u8 0,.bool false])∧Kp no w w':=by
 have hin:=inner_any' h hb (by omega)
 obtain⟨role,sv,cv,kc,bs,h⟩:=h
 have hl:0<s.blocks.length:=List.length_pos_iff.2 hb
 obtain⟨rv,wv,-,-,-,hht,-,-⟩:=h.bk (k:=s.blocks.length -1) (by omega)
 change w.cell? _=some (.int .i64 (s.top.height:Nat))at hht
 generalize s.top.height=ht at *
 obtain⟨hc,hf⟩:=cells_of h.body
 obtain⟨ad,cap,rfl⟩:=own_shape h.stack
 have HI:=hide hin
 clear h hin
 go_enter Tryz.func286,Tryz.ntmps286
 go_wp2_with fail
 refine HI.out.mono ?_
 rintro e w1 ⟨rfl,k1⟩
 have hht1:=k1.allCells hht
 have HK:=hide k1
 clear hht hc hf k1
 go_wp2
 go_ret2
 exact⟨rfl,HK.out⟩

def TookAny (E:Env) (g:Nat) (w':World) (s:Bd) (m:Option (UInt8×Bd)) (r:Ending):Prop:=
 match m with
 |some (u,s')=>r= .returned (.tuple #[.int .u8 u.toNat,.bool true])∧BSt E g w' s'
 |none=>r= .returned (.tuple #[.int .u8 0,.bool false])∧BSt E g w' s

theorem BSt.nroBb {w':World} (h:BSt E g w s) (k:Kp (one E.bb) w w'):Kp (nro E.ro) w w':=by
 obtain⟨role,sv,cv,kc,bs,h⟩:=h
 exact k.mono (fun b _ (e:b=E.bb) hr=>by have :=h.ro b hr;rw[e,h.r3]at this;cases this)

theorem takeAny_any (h:BSt E g w s) (hb:s.blocks≠[]) (hbl:s.blocks.length≤17) (hs:s.stack.length≤1000000):
  Calls Tryz.prog 286 #[ptrTo E.bb] w fun r w'=>TookAny E g w' s (takeAnyM s) r∧Kp (one E.bb) w w':=by
 unfold takeAnyM
 by_cases hh:s.stack.length≤s.top.height
 ·rw[if_pos hh]
  refine(takeAny_no h hb hbl hs hh).mono ?_
  rintro r w' ⟨rfl,k⟩
  obtain⟨role,sv,cv,kc,bs,h⟩:=h
  exact⟨⟨rfl,role,sv,cv,kc,bs,h.quiet k⟩,k.any⟩
 ·rw[if_neg hh]
  refine(takeAny_ok h hb hbl hs (by omega)).mono ?_
  rintro r w' ⟨rfl,h',k⟩
  exact⟨⟨rfl,h'⟩,k⟩

theorem u8_eq (x y:UInt8):((x.toNat:Int)==(y.toNat:Int))=(x==y):=by
 rw[Bool.eq_iff_iff];simp[←UInt8.toNat_inj];omega

def Sunk (s s':Bd):Prop:= ∃l,s'={s with stack:=l}∧l.length≤s.stack.length
theorem Sunk.refl (s:Bd):Sunk s s:=⟨s.stack,rfl,Nat.le_refl _⟩
theorem Sunk.trans {a b c:Bd} (h:Sunk a b) (k:Sunk b c):Sunk a c:=by
 obtain⟨l,rfl,hl⟩:=h
 obtain⟨m,rfl,hm⟩:=k
 exact⟨m,rfl,Nat.le_trans hm hl⟩
theorem takeAny_sunk {s s':Bd} {u:UInt8} (h:takeAnyM s=some (u,s')):Sunk s s':=by
 unfold takeAnyM at h
 split at h
 ·cases h
 ·cases h
  exact⟨_,rfl,by simp⟩
theorem take_sunk {s s':Bd} {u:UInt8} (h:takeM s u=some s'):Sunk s s':=by
 unfold takeM at h
 split at h
 ·cases h
 ·rename_i v s1 h1
  split at h
  ·cases h;exact takeAny_sunk h1
  ·cases h

def Took (E:Env) (g:Nat) (w':World) (s:Bd) (m:Option Bd) (r:Ending):Prop:=
 match m with
 |some s'=>r= .returned (.bool true)∧BSt E g w' s'
 |none=>r= .returned (.bool false)∧ ∃s',BSt E g w' s'∧Sunk s s'

theorem take_any' (h:BSt E g w s) (hb:s.blocks≠[]) (hbl:s.blocks.length≤17) (hs:s.stack.length≤1000000) (t:UInt8):
  Calls Tryz.prog 276 #[ptrTo E.bb,.int .u8 t.toNat] w fun r w'=>Took E g w' s (takeM s t) r∧Kp (one E.bb) w w':=by
 have hta:=takeAny_any h hb hbl hs
 have hM:takeM s t=(match takeAnyM s with |none=>none|some (u,s')=>if u=t then some s' else none):=rfl
 have hsk:=fun u s'=>takeAny_sunk (s:=s) (s':=s') (u:=u)
 generalize takeM s t=R at *
 generalize takeAnyM s=Q at *
 have HT:=hide hta
 have HM:=hide hM
 clear hta hM h
 match Q,HM,HT,hsk with
 |none,HM,HT,_=>
  go_enter Tryz.func276,Tryz.ntmps276
  go_wp2_with fail
  refine HT.out.mono ?_
  rintro r w1 ⟨⟨rfl,h1⟩,k1⟩
  have H1:=hide h1
  have HK:=hide k1
  clear h1 k1
  go_wp2
  go_ret
  rw[HM.out]
  exact⟨⟨rfl,s,H1.out,Sunk.refl s⟩,HK.out⟩
 |some (u,s'),HM,HT,hsk=>
  have HS:=hide (hsk u s' rfl)
  clear hsk
  have hq:=u8_eq u t
  by_cases hut:u=t
  ·have hq1:(u==t)=true:=by simpa using hut
   rw[hq1]at hq
   have HU:=hide hut
   clear hut hq1
   go_enter Tryz.func276,Tryz.ntmps276
   go_wp2_with fail
   refine HT.out.mono ?_
   rintro r w1 ⟨⟨rfl,h1⟩,k1⟩
   have H1:=hide h1
   have HK:=hide k1
   clear h1 k1
   go_wp2
   go_ret
   rw[HM.out]
   simp only[if_pos HU.out]
   exact⟨⟨rfl,H1.out⟩,HK.out⟩
  ·have hq1:(u==t)=false:=by simpa using hut
   rw[hq1]at hq
   have HU:=hide hut
   clear hut hq1
   go_enter Tryz.func276,Tryz.ntmps276
   go_wp2_with fail
   refine HT.out.mono ?_
   rintro r w1 ⟨⟨rfl,h1⟩,k1⟩
   have H1:=hide h1
   have HK:=hide k1
   clear h1 k1
   go_wp2
   go_ret
   rw[HM.out]
   simp only[if_neg HU.out]
   exact⟨⟨rfl,s',H1.out,HS.out⟩,HK.out⟩

end

end Go.Proofs.YtdeplgkhmebalaaGreatDoor

set_option linter.unusedSimpArgs false
set_option linter.unusedVariables false
set_option maxHeartbeats 1000000
set_option maxRecDepth 100000
namespace Go.Proofs.YtdeplgkhmebalaaGreatDoor
open Go.RowKit

section
variable{E:Env} {g:Nat} {w:World} {s:Bd}

theorem takeN_sunk {ts:List UInt8} (k:Nat): ∀{s s':Bd},takeN ts k s=some s'→Sunk s s':=by
 induction k with
 |zero=>intro s s' h;cases h;exact Sunk.refl s
 |succ k ih=>
  intro s s' h
  rw[takeN]at h
  split at h
  ·cases h
  ·rename_i s1 h1
   exact(take_sunk h1).trans (ih h)

theorem takeAll_any (h:BSt E g w s) (hb:s.blocks≠[]) (hbl:s.blocks.length≤17) (hs:s.stack.length≤1000000) {tv:Value} {ts:List UInt8} (ht:BytesAt w tv ts) (htl:ts.length≤1000000) (hne: ∀b,tv.ownBlock=some b→b≠E.bb):
  Calls Tryz.prog 267 #[ptrTo E.bb,tv] w fun r w'=>Took E g w' s (takeAllM s ts) r∧Kp (one E.bb) w w':=by
 have hM:takeAllM s ts=takeN ts ts.length s:=rfl
 generalize takeAllM s ts=R at *
 obtain⟨ad,cap,hv,hcap⟩:=ht.shape
 have H:=hide h
 have HT:=hide ht
 have HM:=hide hM
 have HN:=hide hne
 subst hv
 clear h ht hM hne
 go_enter Tryz.func267,Tryz.ntmps267
 go_wp2
 go_loopw [5] (fun kv wr=> ∃(k:Nat) (sk:Bd),k≤ts.length∧kv= .int .i64 ((k:Int) -1)∧BSt E g wr sk∧Kp (one E.bb) w wr∧takeN ts k sk=takeN ts ts.length s∧Sunk s sk) (fun kv _=>((intOf kv)+1).toNat)
 case atStart=>exact⟨ts.length,s,Nat.le_refl _,rfl,H.out,Kp.refl _ _,rfl,Sunk.refl s⟩
 case round=>
  obtain⟨k,sk,hk,rfl,hst,hkp,hg,hsk⟩:=hrel
  have hbk:sk.blocks≠[]∧sk.blocks.length≤17∧sk.stack.length≤1000000:=by
   obtain⟨l,rfl,hl⟩:=hsk
   exact⟨hb,hbl,by simp only;omega⟩
  have HB:=hide hbk
  have HS:=hide hst
  have HK:=hide hkp
  have HG:=hide hg
  have HSk:=hide hsk
  clear hst hkp hg hsk hbk
  by_cases hk0:k=0
  ·have HG0:takeN ts 0 sk=takeN ts ts.length s:=by rw[←hk0];exact HG.out
   have HG1:=hide HG0
   have hk1:(k:Int) -1<0:=by omega
   clear HG0 hk0
   go_wp2
   go_ret
   rw[HM.out,←HG1.out]
   exact⟨⟨rfl,HS.out⟩,HK.out⟩
  ·obtain⟨q,rfl⟩: ∃q,k=q+1:=⟨k -1,by omega⟩
   have hq:(((q+1:Nat):Int) -1)=(q:Int):=by omega
   obtain⟨a,o,cap',hv,_,hcell⟩:=BytesAt.get (HT.out.kp HK.out (fun b hb e=>HN.out b hb e)) (show q<ts.length by omega)
   simp only[Value.slice.injEq]at hv
   obtain⟨rfl,-,rfl⟩:=hv
   have hg:=HG.out
   rw[takeN]at hg
   have htk:=take_any' HS.out HB.out.1 HB.out.2.1 HB.out.2.2 (ts.getD q 0)
   have htsk:=fun s'=>take_sunk (s:=sk) (s':=s') (u:=ts.getD q 0)
   generalize ts.getD q 0=t at *
   generalize takeM sk t=Q at *
   have HTk:=hide htk
   clear htk HG
   rw[hq]
   match Q,HTk,hg,htsk with
   |none,HTk,hg,_=>
    have HG:=hide hg
    clear hg
    go_wp2_with fail
    refine HTk.out.mono ?_
    rintro r w1 ⟨⟨rfl,s1,h1,hs1⟩,k1⟩
    have H1:=hide h1
    have HS1:=hide hs1
    clear h1 hs1
    go_wp2
    go_ret
    rw[HM.out,←HG.out]
    exact⟨⟨rfl,s1,H1.out,HSk.out.trans HS1.out⟩,HK.out.trans k1⟩
   |some s1,HTk,hg,htsk=>
    have HG:=hide hg
    have HS1:=hide (htsk s1 rfl)
    clear hg htsk
    go_wp2_with fail
    refine HTk.out.mono ?_
    rintro r w1 ⟨⟨rfl,h1⟩,k1⟩
    have H1:=hide h1
    clear h1
    go_wp2
    go_roundw
    case rel=>exact⟨q,s1,by omega,rfl,H1.out,HK.out.trans k1,HG.out,HSk.out.trans HS1.out⟩
    case measure=>simp[intOf]

theorem value_any (h:BSt E g w s) {k:Nat} (hk:k<s.blocks.length):
  Calls Tryz.prog 288 #[.pointer (some ⟨g,k*5,none⟩)] w fun r w'=>(∃v,r= .returned v∧BytesAt w v (valueM (s.bk k))∧(∀b,v.ownBlock=some b→b≠E.bb))∧w'=w:=by
 obtain⟨role,sv,cv,kc,bs,h⟩:=h
 obtain⟨rv,wv,hbs,hkd,hr,-,-,-⟩:=h.bk hk
 have hrb:=h.results k _ hbs
 have hrr:=h.rr k _ hbs
 have hr3:=h.r3
 have hM:valueM (s.bk k)=if (s.bk k).kind=2 then []else (s.bk k).result:=rfl
 generalize valueM (s.bk k)=R at *
 generalize s.bk k=b at *
 obtain⟨kd,res,ht,st,ws⟩:=b
 simp only at *
 obtain⟨ad,cap,rfl,-⟩:=hrb.shape
 have HB:=hide hrb
 have HR:=hide hrr
 have H3:=hide hr3
 have HM:=hide hM
 clear h hrb hrr hbs hr3 hM
 by_cases h2:kd=2
 ·subst h2
  go_enter Tryz.func288,Tryz.ntmps288
  go_wp2
  go_ret
  rw[HM.out]
  exact⟨⟨_,rfl,BytesAt.nil w,fun b hb=>by cases hb⟩,rfl⟩
 ·have hq:((kd:Int)==2)=false:=by simp;omega
  go_enter Tryz.func288,Tryz.ntmps288
  go_wp2
  go_ret
  rw[HM.out,if_neg h2]
  exact⟨⟨_,rfl,HB.out,fun b hb e=>by have :=(HR.out b hb).1;rw[e,H3.out]at this;cases this⟩,rfl⟩

end

end Go.Proofs.YtdeplgkhmebalaaGreatDoor

set_option linter.unusedSimpArgs false
set_option linter.unusedVariables false
set_option maxHeartbeats 1000000
set_option maxRecDepth 100000
namespace Go.Proofs.YtdeplgkhmebalaaGreatDoor
open Go.RowKit

section
variable{E:Env} {g:Nat} {w:World} {s:Bd}

theorem BSt.quiet (h:BSt E g w s) {w':World} (k:Kp no w w'):BSt E g w' s:=by
 obtain⟨role,sv,cv,kc,bs,h⟩:=h
 exact⟨role,sv,cv,kc,bs,h.quiet k⟩
theorem BSt.read (h:BSt E g w s) {w':World} {j:Nat} (k:Kp (one E.rb) w w') (hr:RSt w' E.rb E.dv E.c.D j):BSt E g w' {s with i:=j}:=by
 obtain⟨role,sv,cv,kc,bs,h⟩:=h
 exact⟨role,sv,cv,kc,bs,h.setRd k hr⟩
theorem BSt.nroRb (h:BSt E g w s) {w':World} (k:Kp (one E.rb) w w'):Kp (nro E.ro) w w':=by
 obtain⟨role,sv,cv,kc,bs,h⟩:=h
 exact k.mono (fun b _ (e:b=E.rb) hr=>by have :=h.ro b hr;rw[e,h.r1]at this;cases this)
theorem BSt.rd (h:BSt E g w s):RSt w E.rb E.dv E.c.D s.i:=by
 obtain⟨role,sv,cv,kc,bs,h⟩:=h
 exact h.rd
theorem BSt.env (h:BSt E g w s):E.Ok w:=by
 obtain⟨role,sv,cv,kc,bs,h⟩:=h
 exact h.env

theorem full_closed (h:BSt E g w s) (k:Nat) (hcl:s.closed=true):
  Calls Tryz.prog 280 #[ptrTo E.bb,.pointer (some ⟨g,k*5,none⟩)] w fun r w'=>r= .returned (.bool true)∧Kp no w w':=by
 obtain⟨role,sv,cv,kc,bs,h⟩:=h
 obtain⟨hc,hf⟩:=cells_of h.body
 rw[hcl]at hc
 clear h hcl
 go_enter Tryz.func280,Tryz.ntmps280
 go_wp2
 go_quiet(fail)
 go_wp2
 go_ret
 exact⟨rfl,(Kp.refl _ _).drewN _⟩

theorem full_open (h:BSt E g w s) {k:Nat} (hk:k<s.blocks.length) (hh:(s.bk k).height≤s.stack.length) (_hs:s.stack.length≤1000000) (hcl:s.closed=false):
  Calls Tryz.prog 280 #[ptrTo E.bb,.pointer (some ⟨g,k*5,none⟩)] w fun r w'=>r= .returned (.bool (s.stack.drop (s.bk k).height==(s.bk k).result))∧Kp no w w':=by
 obtain⟨role,sv,cv,kc,bs,h⟩:=h
 obtain⟨hc,hf⟩:=cells_of h.body
 rw[hcl]at hc
 obtain⟨rv,wv,hbs,-,hr,hht,-,-⟩:=h.bk hk
 have hrb:=h.results k _ hbs
 have hst:BytesAt w sv s.stack:=RowAt.own h.stack
 simp only at hrb
 generalize s.bk k=b at *
 obtain⟨kd,res,ht,st,ws⟩:=b
 simp only at *
 have HB:=hide hrb
 have HS:=hide hst
 obtain⟨ad2,cap2,rfl,-⟩:=hrb.shape
 have hi0:(0:Int)≤(ht:Int):=by omega
 have hi1:(ht:Int)≤(s.stack.length:Int):=by omega
 rcases hst.cases with⟨rfl,hnil⟩|⟨a,o,cap,rfl,hcap,-⟩
 ·rw[hnil]at hh
  have h0:ht=0:=by simpa using hh
  subst h0
  clear h hcl hrb hst hbs
  go_enter Tryz.func280,Tryz.ntmps280
  go_wp2_with fail
  go_region_held3 (fun w'=>w'.cell? ⟨E.bb,7,none⟩=some (.bool false)∧w'.cell? ⟨E.bb,4,none⟩=some (.slice none 0 0)∧w'.cell? ⟨g,k*5+1,none⟩=some (.slice ad2 res.length cap2)∧w'.cell? ⟨g,k*5+2,none⟩=some (.int .i64 0)) (go_keep) (first |(go_at_call 287;refine(equal_any (w:=w.drew) (BytesAt.nil w) HB.out).mono ?_;rintro e w' ⟨rfl,rfl⟩))
  go_wp2
  go_ret
  rw[hnil]
  exact⟨by cases res<;>rfl,(Kp.refl _ _).drew⟩
 ·clear h hcl hrb hst hbs
  have hi2:(s.stack.length:Int)≤(cap:Int):=by omega
  by_cases hcap2:cap=ht
  ·have HE:=hide (show BytesAt w (.slice (some ⟨a,o,none⟩) (s.stack.length -ht) 0) (s.stack.drop ht)by rw[show s.stack.length -ht=0 by omega,List.drop_of_length_le (by omega)];exact⟨rfl,.inr ⟨a,o,0,rfl,Nat.le_refl _,fun _ _ h=>by simp at h⟩⟩)
   go_enter Tryz.func280,Tryz.ntmps280
   go_wp2_with fail
   go_region_held3 (fun w'=>w'.cell? ⟨E.bb,7,none⟩=some (.bool false)∧w'.cell? ⟨E.bb,4,none⟩=some (.slice (some ⟨a,o,none⟩) s.stack.length cap)∧w'.cell? ⟨g,k*5+1,none⟩=some (.slice ad2 res.length cap2)∧w'.cell? ⟨g,k*5+2,none⟩=some (.int .i64 ht)) (go_keep) (first |(go_at_call 287;refine(equal_any (w:=w.drew) HE.out HB.out).mono ?_;rintro e w' ⟨rfl,rfl⟩))
   go_wp2
   go_ret
   exact⟨rfl,(Kp.refl _ _).drew⟩
  ·go_enter Tryz.func280,Tryz.ntmps280
   go_wp2_with fail
   go_region_held3 (fun w'=>w'.cell? ⟨E.bb,7,none⟩=some (.bool false)∧w'.cell? ⟨E.bb,4,none⟩=some (.slice (some ⟨a,o,none⟩) s.stack.length cap)∧w'.cell? ⟨g,k*5+1,none⟩=some (.slice ad2 res.length cap2)∧w'.cell? ⟨g,k*5+2,none⟩=some (.int .i64 ht)) (go_keep) (first |(go_at_call 287;refine(equal_any (w:=w.drew) (HS.out.mid ht s.stack.length hh (Nat.le_refl _)) HB.out).mono ?_;rintro e w' ⟨rfl,rfl⟩))
   go_wp2
   go_ret
   exact⟨rfl,(Kp.refl _ _).drew⟩

theorem full_any (h:BSt E g w s) {k:Nat} (hk:k<s.blocks.length) (hh:(s.bk k).height≤s.stack.length) (hs:s.stack.length≤1000000):
  Calls Tryz.prog 280 #[ptrTo E.bb,.pointer (some ⟨g,k*5,none⟩)] w fun r w'=>r= .returned (.bool (fullM s k))∧Kp no w w':=by
 cases hcl:s.closed
 ·refine(full_open h hk hh hs hcl).mono ?_
  rintro r w' ⟨rfl,k⟩
  exact⟨by simp[fullM,hcl],k⟩
 ·refine(full_closed h k hcl).mono ?_
  rintro r w' ⟨rfl,k⟩
  exact⟨by simp[fullM,hcl],k⟩

def GotLabel (E:Env) (g:Nat) (w w':World) (m:Except (Int×Int) (Nat×Bd)) (r:Ending):Prop:=
 match m with
 | .ok (k,s')=>r= .returned (.tuple #[.pointer (some ⟨g,k*5,none⟩),.pointer none])∧BSt E g w' s'
 | .error e=> ∃fv,r= .returned (.tuple #[.pointer none,fv])∧FaultAt w w' fv e

theorem below_lt {D:List UInt8} {lim:Int} {i n j:Nat} (h:belowM D lim i= .ok (n,j)):(n:Int)<lim∧i<j∧j≤D.length:=by
 unfold belowM at h
 split at h
 ·cases h
 ·rename_i n' j' hu
  split at h
  ·cases h
  ·cases h
   have :=UM_le hu
   omega

theorem label_any (h:BSt E g w s) (hb:s.blocks≠[]) (hbl:s.blocks.length≤17):
  Calls Tryz.prog 283 #[ptrTo E.bb] w fun r w'=>GotLabel E g w w' (labelM E.c s) r∧Kp (one E.rb) w w':=by
 have hM:labelM E.c s=(match belowM E.c.D s.blocks.length s.i with | .error e=> .error e| .ok (n,j)=> .ok (s.blocks.length -1 -n,{s with i:=j})):=rfl
 generalize labelM E.c s=R at *
 have hbe:=fun W (k:Kp no w W)=>below_any (h.quiet k).rd s.blocks.length (by omega) (by omega)
 have hlt:=fun n j=>below_lt (D:=E.c.D) (lim:=(s.blocks.length:Int)) (i:=s.i) (n:=n) (j:=j)
 generalize belowM E.c.D s.blocks.length s.i=Q at *
 have hl:0<s.blocks.length:=List.length_pos_iff.2 hb
 have H:=hide h
 obtain⟨role,sv,cv,kc,bs,h⟩:=h
 obtain⟨hc,hf⟩:=cells_of h.body
 have HBo:=hide h.body
 have hne:E.bb≠E.rb:=fun e=>by have :=h.r3;rw[e,h.r1]at this;cases this
 have HB:=hide hbe
 clear h hbe
 match Q,hM,HB,hlt with
 | .error e,hM,HB,_=>
  have HM:=hide hM
  clear hM
  go_enter Tryz.func283,Tryz.ntmps283
  go_wp2_with fail
  go_region_held3 (fun w'=>w'.cell? ⟨E.bb,0,none⟩=some (ptrTo E.rb)∧w'.cell? ⟨E.bb,5,none⟩=some (.slice (some ⟨g,0,none⟩) s.blocks.length kc)) (go_keep) (first |(go_at_call 105;refine(HB.out w.drew ((Kp.refl no w).drew)).mono ?_;rintro e w1 ⟨⟨fv,j,rfl,⟨fb,rfl,hfb,hfo⟩,h1⟩,k1⟩;obtain⟨hc1,hf1⟩:=cells_of (k1.blk (show w.drew.heap[E.bb]? =_ from HBo.out) hne)))
  have HF:=hide hfo
  clear hfo h1
  go_wp2
  go_ret2
  rw[HM.out]
  exact⟨⟨ptrTo fb,rfl,fb,rfl,hfb,HF.out⟩,((Kp.refl (one E.rb) w).drew).trans k1⟩
 | .ok (n,j),hM,HB,hlt=>
  have hn:=(hlt n j rfl).1
  have HM:=hide hM
  clear hM hlt
  go_enter Tryz.func283,Tryz.ntmps283
  go_wp2_with fail
  go_region_held3 (fun w'=>w'.cell? ⟨E.bb,0,none⟩=some (ptrTo E.rb)∧w'.cell? ⟨E.bb,5,none⟩=some (.slice (some ⟨g,0,none⟩) s.blocks.length kc)) (go_keep) (first |(go_at_call 105;refine(HB.out w.drew ((Kp.refl no w).drew)).mono ?_;rintro e w1 ⟨⟨v,rfl,rfl,h1⟩,k1⟩;obtain⟨hc1,hf1⟩:=cells_of (k1.blk (show w.drew.heap[E.bb]? =_ from HBo.out) hne)))
  have H1:=hide h1
  have HK:=hide ((Kp.refl (one E.rb) w).drew.trans k1)
  clear h1 k1 hc hf
  go_wp2
  go_quiet(fail)
  go_wp2
  go_ret2
  rw[HM.out]
  exact⟨⟨rfl,(H.out.read HK.out H1.out).quiet ((Kp.refl no w1).drewN _)⟩,HK.out.drewN _⟩
end

end Go.Proofs.YtdeplgkhmebalaaGreatDoor

set_option linter.unusedSimpArgs false
set_option linter.unusedVariables false
set_option maxHeartbeats 1000000
set_option maxRecDepth 100000
namespace Go.Proofs.YtdeplgkhmebalaaGreatDoor
open Go.RowKit

section
variable{E:Env} {g:Nat} {w:World} {s:Bd}

theorem Sunk.bk {s s':Bd} (h:Sunk s s') (k:Nat):s'.bk k=s.bk k:=by
 obtain⟨l,rfl,-⟩:=h;rfl
theorem Sunk.len {s s':Bd} (h:Sunk s s'):s'.blocks.length=s.blocks.length:=by
 obtain⟨l,rfl,-⟩:=h;rfl
theorem Sunk.stk {s s':Bd} (h:Sunk s s'):s'.stack.length≤s.stack.length:=by
 obtain⟨l,rfl,hl⟩:=h;exact hl
theorem Sunk.pos {s s':Bd} (h:Sunk s s'):s'.pos=s.pos:=by
 obtain⟨l,rfl,hl⟩:=h;rfl

def Carried (E:Env) (g:Nat) (w':World) (s:Bd) (m:Option Bd) (r:Ending):Prop:=
 match m with
 |some s'=>r= .returned (.bool true)∧BSt E g w' s'
 |none=>r= .returned (.bool false)∧ ∃s',BSt E g w' s'∧s'.pos=s.pos

theorem carries_any (h:BSt E g w s) (hbl:s.blocks.length≤17) (hs:s.stack.length≤1000000) {k:Nat} (hk:k<s.blocks.length) (hv:(valueM (s.bk k)).length≤1):
  Calls Tryz.prog 284 #[ptrTo E.bb,.pointer (some ⟨g,k*5,none⟩)] w fun r w'=>Carried E g w' s (carriesM s k) r∧Kp (nro E.ro) w w':=by
 have hM:carriesM s k=(takeAllM s (valueM (s.bk k))).map fun s'=>putM s' (valueM (s.bk k)):=rfl
 generalize carriesM s k=R at *
 have hb:s.blocks≠[]:=fun e=>by rw[e]at hk;simp at hk
 have hval:=value_any h hk
 have H:=hide h
 have hv2: ∀s',takeAllM s (valueM (s.bk k))=some s'→Sunk s s':=fun s' hs'=>takeN_sunk _ hs'
 have HMM:=hide hM
 have HV:=hide hval
 clear h hval hM
 go_enter Tryz.func284,Tryz.ntmps284
 go_wp2_with fail
 refine HV.out.mono ?_
 rintro r w1 ⟨⟨v,rfl,hbv,hne⟩,rfl⟩
 have hta:=takeAll_any H.out hb hbl hs hbv (by omega) hne
 have hM:=HMM.out
 generalize takeAllM s (valueM (s.bk k))=Q at *
 have HT:=hide hta
 have HN:=hide hne
 have HBV:=hide hbv
 obtain⟨ad,cap,rfl,-⟩:=hbv.shape
 clear hta HMM hne hbv
 match Q,hM,HT,hv2 with
 |none,hM,HT,_=>
  have HM:=hide hM
  clear hM
  go_wp2_with fail
  refine HT.out.mono ?_
  rintro r w2 ⟨⟨rfl,s2,h2,hs2⟩,k2⟩
  have H2:=hide h2
  have HS2:=hide hs2
  clear h2 hs2
  go_wp2
  go_ret
  rw[HM.out]
  exact⟨⟨rfl,s2,H2.out,HS2.out.pos⟩,H.out.nroBb k2⟩
 |some s2,hM,HT,hv2=>
  have HM:=hide hM
  have HS:=hide (hv2 s2 rfl)
  clear hM hv2
  go_wp2_with fail
  refine HT.out.mono ?_
  rintro r w2 ⟨⟨rfl,h2⟩,k2⟩
  have H2:=hide h2
  clear h2
  have hval2:=value_any H2.out (k:=k) (by rw[HS.out.len];exact hk)
  rw[HS.out.bk]at hval2
  have HV2:=hide hval2
  clear hval2
  go_wp2_with fail
  refine HV2.out.mono ?_
  rintro r w3 ⟨⟨v3,rfl,hbv3,hne3⟩,rfl⟩
  have HBV3:=hide hbv3
  clear hne3 hbv3
  go_wp2_with fail
  refine(put_any H2.out HBV3.out (by have :=HS.out.stk;omega) (by omega)).mono ?_
  rintro r w4 ⟨rfl,h4,k4⟩
  have H4:=hide h4
  clear h4
  go_wp2
  go_ret
  rw[HM.out]
  exact⟨⟨rfl,H4.out⟩,(H.out.nroBb k2).trans k4⟩

theorem aim_end {role:Nat→Nat} {sv cv:Value} {kc:Nat} {bs:List BkV} (h:BStG E g w s role sv cv kc bs) {n a:Nat} {cap:Nat} (hcv:cv= .slice (some ⟨a,0,none⟩) s.code.length cap) (hn:n<s.code.length) {W:World} (kW:Kp no w W):
  BSt E g (W.setCell ⟨a,n*5+2,none⟩ (.int .i64 s.code.length)) (aimM s n)∧Kp (nro E.ro) w (W.setCell ⟨a,n*5+2,none⟩ (.int .i64 s.code.length)):=by
 subst hcv
 have h':=h.quiet kW
 have k2:Kp (fun b=>(fun r=>r=2∨r=6) (role b)) W (W.setCell ⟨a,n*5+2,none⟩ (.int .i64 s.code.length)):=(Kp.refl _ W).setAt (.inr (h.r6 a rfl)) _ _
 have hst:=(h'.code.stored (n*5+2) (.int .i64 s.code.length)).1
 have hx:s.code[n]? =some s.code[n]:=List.getElem?_eq_getElem hn
 have hset:(s.code.flatMap Ins.cells).set (n*5+2) (.int .i64 s.code.length)=(s.code.set n {s.code.getD n ⟨0,0,0,0,0⟩with goal:=s.code.length}).flatMap Ins.cells:=
  flat_set Ins.len s.code n 2 (by decide) s.code[n] _ _ hx (by rw[List.getD,hx];rfl)
 rw[hset]at hst
 have hb:(W.setCell ⟨a,n*5+2,none⟩ (.int .i64 s.code.length)).heap[E.mb]? =some (modObj E (.slice (some ⟨a,0,none⟩) s.code.length cap)):=heap_setCell_ne (fun e=>by have :=h.r6 a rfl;rw[←e,h.r2]at this;cases this) _ h'.mod
 refine⟨⟨role,sv,_,kc,bs,h'.setCode k2 hb ?_ h'.r6⟩,kW.any.trans (h'.nro (X:=fun r=>r=2∨r=6) k2 (by decide))⟩
 simpa using hst

theorem aim_any (h:BSt E g w s) {n:Nat} (hn:n<s.code.length) (hc:s.code.length≤1000000):
  Calls Tryz.prog 282 #[ptrTo E.bb,.int .i64 n] w fun r w'=>r= .returned (.tuple #[])∧BSt E g w' (aimM s n)∧Kp (nro E.ro) w w':=by
 have hhere:=fun W (k:Kp no w W)=>here_any (h.quiet k) hc
 obtain⟨role,sv,cv,kc,bs,h⟩:=h
 obtain⟨hcb,-⟩:=cells_of h.body
 obtain⟨hm,hmf⟩:=cells_of h.mod
 obtain⟨a,cap,hcv,-,-⟩:=h.code.form (by omega)
 have hcap:=RowAt.own h.code
 obtain⟨ad',cap',hcv',hcap'⟩:=hcap.shape
 have hend:=fun W (k:Kp no w W)=>aim_end h hcv hn k
 have hab:a≠E.bb:=fun e=>by have :=h.r6 a (by rw[hcv];rfl);rw[e,h.r3]at this;cases this
 have ham:a≠E.mb:=fun e=>by have :=h.r6 a (by rw[hcv];rfl);rw[e,h.r2]at this;cases this
 have hcell:=fun W (k:Kp no w W)=>(k.own h.code (fun _ _ h=>h))
 have HBo:=hide h.body
 have HMo:=hide h.mod
 subst hcv
 cases hcv'
 have hce: ∀W,Kp no w W→W.cell? ⟨a,n*5+2,none⟩=some (.int .i64 (s.code.getD n ⟨0,0,0,0,0⟩).goal)∧W.frozen? ⟨a,n*5+2,none⟩=false:=by
  intro W k
  refine⟨?_,(hcell W k).frozenAt _⟩
  rw[(hcell W k).cellAt (n*5+2) (by omega),flat_get Ins.len s.code n 2 (by decide),List.getD,List.getElem?_eq_getElem hn];rfl
 generalize(s.code.getD n ⟨0,0,0,0,0⟩).goal=gl0 at *
 have HH:=hide hhere
 have HE:=hide hend
 have HC:=hide hce
 have hi0:(0:Int)≤(n:Int):=by omega
 have hi1:(n:Int)<(s.code.length:Int):=by omega
 obtain⟨hc0,hf0⟩:=hce w (Kp.refl no w)
 clear h hhere hend hcell hce hcap
 go_enter Tryz.func282,Tryz.ntmps282
 go_wp2_with fail
 go_region_held3 (fun w'=>w'.cell? ⟨E.bb,1,none⟩=some (ptrTo E.mb)∧w'.cell? ⟨E.mb,3,none⟩=some (.slice (some ⟨a,0,none⟩) s.code.length cap)) (go_keep) (first |(go_at_call 278;refine(HH.out w.drew ((Kp.refl no w).drew)).mono ?_;rintro e w1 ⟨rfl,k1⟩;obtain⟨hc1,hf1⟩:=cells_of (k1.blk (show w.drew.heap[E.bb]? =_ from HBo.out) (fun h=>h));obtain⟨hm1,hmf1⟩:=cells_of (k1.blk (show w.drew.heap[E.mb]? =_ from HMo.out) (fun h=>h));obtain⟨hcc1,hcf1⟩:=HC.out w1 ((Kp.refl no w).drew.trans k1)))
 have HK:=hide ((Kp.refl no w).drew.trans k1)
 go_end0
 exact⟨rfl,HE.out w1 HK.out⟩

theorem int1_info:(Tryz.prog.info? 3).map (fun i=>(i.zero,i.size,i.bytes))=some (some (.int .i64 0),1,8):=by kernel_rfl

theorem kindOf_any (op:UInt8) (w:World):Calls Tryz.prog 277 #[.int .u8 op.toNat] w fun r w'=>r= .returned (.int .i64 ((if op=3 then 2 else if op=4 then 3 else 1:Nat):Int))∧w'=w:=by
 have q3:((op.toNat:Int)==3)=(op==3):=u8_eq op 3
 have q4:((op.toNat:Int)==4)=(op==4):=u8_eq op 4
 by_cases h3:op=3
 ·rw[if_pos h3]
  have q:(op==3)=true:=by simpa using h3
  rw[q]at q3
  clear q4 q h3
  go_enter Tryz.func277,Tryz.ntmps277
  go_wp2
  go_ret
  exact⟨rfl,rfl⟩
 ·rw[if_neg h3]
  have q:(op==3)=false:=by simpa using h3
  rw[q]at q3
  by_cases h4:op=4
  ·rw[if_pos h4]
   have q:(op==4)=true:=by simpa using h4
   rw[q]at q4
   clear q h3 h4
   go_enter Tryz.func277,Tryz.ntmps277
   go_wp2
   go_ret
   exact⟨rfl,rfl⟩
  ·rw[if_neg h4]
   have q:(op==4)=false:=by simpa using h4
   rw[q]at q4
   clear q h3 h4
   go_enter Tryz.func277,Tryz.ntmps277
   go_wp2
   go_ret
   exact⟨rfl,rfl⟩

theorem waits_end {role:Nat→Nat} {sv cv:Value} {kc:Nat} {bs:List BkV} (h:BStG E g w s role sv cv kc bs) {k:Nat} (hk:k<s.blocks.length) {rv wv:Value} (hbs:bs[k]? =some (s.bk k,rv,wv)) {W w1:World} (kW:Kp no w W) {v1:Value} {n:Nat} {xs:List Value} {at_:Nat}
  (hn:n=(s.bk k).waits.length+1) (hxs:xs=((s.bk k).waits.map fun n=>Value.int .i64 ((n:Nat):Int))++[.int .i64 at_])
  (hown1:w1.ownsRow E.B 3 1 v1 n xs) (hgrow:W.grownBy w1 wv.ownBlock) (hat:v1.ownBlock=wv.ownBlock∨v1.ownBlock=some W.heap.size):
  BSt E g (w1.setCell ⟨g,k*5+4,none⟩ v1) {s with blocks:=s.blocks.set k {s.bk k with waits:=(s.bk k).waits++[at_]}}∧Kp (nro E.ro) w (w1.setCell ⟨g,k*5+4,none⟩ v1):=by
 subst hn hxs
 have h':=h.renew (100+k)
 have k1:Kp (fun b=>(fun r=>r=5∨r=100+k) (newRole role w.heap.size (100+k) b)) w w1:=(kW.any).grown hgrow (fun b hb=> .inl (.inr (h'.rw k _ hbs b hb)))
 have k2:Kp (fun b=>(fun r=>r=5∨r=100+k) (newRole role w.heap.size (100+k) b)) w (w1.setCell ⟨g,k*5+4,none⟩ v1):=k1.setAt (.inl h'.r5) _ v1
 have hr: ∀b,v1.ownBlock=some b→newRole role w.heap.size (100+k) b=100+k:=by
  intro b hb
  rcases hat with e|e
  ·exact h'.rw k _ hbs b (e▸hb)
  ·rw[hb]at e;cases e;exact newRole_new kW.size
 have k1a:Kp (fun b=>(fun r=>r=100+k) (newRole role w.heap.size (100+k) b)) w w1:=(kW.any).grown hgrow (fun b hb=> .inl (h'.rw k _ hbs b hb))
 have hblk1:=h'.kBlocks (X:=fun r=>r=100+k) k1a (by omega)
 have hst:=(hblk1.stored (k*5+4) v1).1
 have hset:(bs.flatMap bkCells).set (k*5+4) v1=(bs.set k ({s.bk k with waits:=(s.bk k).waits++[at_]},rv,v1)).flatMap bkCells:=flat_set bkLen bs k 4 (by decide) _ _ _ hbs rfl
 rw[hset]at hst
 have hl:k<bs.length:=by
  have :=h.eq
  rw[this,List.length_map]at hk;exact hk
 have hget: ∀(j:Nat) (x:BkV),(bs.set k ({s.bk k with waits:=(s.bk k).waits++[at_]},rv,v1))[j]? =some x→(j=k∧x=({s.bk k with waits:=(s.bk k).waits++[at_]},rv,v1))∨(j≠k∧bs[j]? =some x):=by
  intro j x hx
  rw[List.getElem?_set]at hx
  by_cases e:k=j
  ·rw[if_pos e,if_pos hl]at hx;cases hx;exact .inl ⟨e.symm,rfl⟩
  ·rw[if_neg e]at hx;exact .inr ⟨fun e'=>e e'.symm,hx⟩
 have hv1:(w1.setCell ⟨g,k*5+4,none⟩ v1).ownsRow E.B 3 1 v1 ((s.bk k).waits.length+1) (((s.bk k).waits.map fun n=>Value.int .i64 ((n:Nat):Int))++[.int .i64 at_]):=
  ((Kp.refl (one g) w1).set1 _ v1).own hown1 (fun b hb (e:b=g)=>by subst e;have :=hr _ hb;rw[h'.r5]at this;omega)
 refine⟨⟨newRole role w.heap.size (100+k),sv,cv,kc,bs.set k ({s.bk k with waits:=(s.bk k).waits++[at_]},rv,v1),?_⟩,h'.nro (X:=fun r=>r=5∨r=100+k) k2 (by omega)⟩
 refine⟨h'.kEnv (X:=fun r=>r=5∨r=100+k) k2 (by omega),(h'.kRd (X:=fun r=>r=5∨r=100+k) k2 (by omega) (by omega):),?_,(h'.kMod (X:=fun r=>r=5∨r=100+k) k2 (by omega):),(h'.kStack (X:=fun r=>r=5∨r=100+k) k2 (by omega):),?_,(h'.kCode (X:=fun r=>r=5∨r=100+k) k2 (by omega):),?_,?_,?_,h'.r1,h'.r2,h'.r3,h'.r4,h'.r5,h'.r6,?_,?_,h'.ro,h'.kLt (X:=fun r=>r=5∨r=100+k) k2⟩
 ·have :=h'.kBody (X:=fun r=>r=5∨r=100+k) k2 (by omega)
  simpa[bodyObj]using this
 ·simpa using hst
 ·simp only[List.map_set,h.eq]
 ·intro j x hx
  rcases hget j x hx with⟨rfl,rfl⟩|⟨hj,hx⟩
  ·simpa using hv1
  ·exact h'.kWaits (X:=fun r=>r=5∨r=100+k) k2 j x hx (by omega)
 ·intro j x hx
  rcases hget j x hx with⟨rfl,rfl⟩|⟨hj,hx⟩
  ·exact(h'.kResults (X:=fun r=>r=5∨r=100+j) k2 (by omega) j _ hbs:)
  ·exact h'.kResults (X:=fun r=>r=5∨r=100+k) k2 (by omega) j x hx
 ·intro j x hx
  rcases hget j x hx with⟨rfl,rfl⟩|⟨hj,hx⟩
  ·exact hr
  ·exact h'.rw j x hx
 ·intro j x hx
  rcases hget j x hx with⟨rfl,rfl⟩|⟨hj,hx⟩
  ·exact(h'.kRr (X:=fun r=>r=5∨r=100+j) k2 j _ hbs:)
  ·exact h'.kRr (X:=fun r=>r=5∨r=100+k) k2 j x hx
end

end Go.Proofs.YtdeplgkhmebalaaGreatDoor

set_option linter.unusedSimpArgs false
set_option linter.unusedVariables false
set_option maxHeartbeats 4000000
set_option maxRecDepth 100000
namespace Go.Proofs.YtdeplgkhmebalaaGreatDoor
open Go.RowKit

section
variable{E:Env} {g:Nat} {w:World} {s:Bd}

theorem jump_loop_eq {k:Nat} {op:UInt8} (h2:(s.bk k).kind=2):jumpM s op k=emitM s ⟨op,0,(s.bk k).start,(s.bk k).height,(valueM (s.bk k)).length⟩:=by
 unfold jumpM;rw[if_pos h2]

theorem jump_loop (h:BSt E g w s) {k:Nat} (hk:k<s.blocks.length) (op:UInt8) (hc:s.code.length≤1000000) (hst:(s.bk k).start≤1000000) (hht:(s.bk k).height≤1000000) (h2:(s.bk k).kind=2):
  Calls Tryz.prog 281 #[ptrTo E.bb,.int .u8 op.toNat,.pointer (some ⟨g,k*5,none⟩)] w fun r w'=>r= .returned (.tuple #[])∧BSt E g w' (jumpM s op k)∧Kp (nro E.ro) w w':=by
 rw[jump_loop_eq h2]
 have hval:=fun W (kW:Kp no w W)=>value_any (h.quiet kW) hk
 have hvl:valueM (s.bk k)=[]:=by unfold valueM;rw[if_pos h2]
 rw[hvl]at hval⊢
 have H:=hide h
 obtain⟨role,sv,cv,kc,bs,h⟩:=h
 obtain⟨rv,wv,hbs,hkd,hr,hhe,hsta,-⟩:=h.bk hk
 rw[h2]at hkd
 have hlg:=own_lt h.blocks rfl
 generalize s.bk k=b at *
 obtain⟨kd,res,ht,st,ws⟩:=b
 simp only at *
 subst h2
 have HV:=hide hval
 clear h hval hbs hvl
 go_enter Tryz.func281,Tryz.ntmps281
 go_wp2_with fail
 go_region_held3 (fun w'=>w'.cell? ⟨g,k*5+2,none⟩=some (.int .i64 ht)) (go_keep) (first |(go_at_call 288;refine(HV.out _ (by first |exact(Kp.refl no w).drew|exact((Kp.refl no w).alloc _).drew)).mono ?_;rintro e w1 ⟨⟨v,rfl,hbv,hne⟩,rfl⟩;obtain⟨adv,capv,rfl,-⟩:=hbv.shape;clear hbv hne))
 all_goals
  go_wp2_with fail
  refine(emit_any (H.out.quiet (((Kp.refl no w).alloc _).drew)) ⟨op,0,st,ht,0⟩ hc).mono ?_
  rintro e w2 ⟨rfl,h2,k2⟩
  have H2:=hide h2
  have HK:=hide ((((Kp.refl (nro E.ro) w).alloc _).drew).trans k2)
  clear h2 k2
  go_wp2
  go_end0
  exact⟨rfl,H2.out,HK.out⟩

theorem enters_here: ∀args w,(callFunc 278 args).run Tryz.prog w= .ok (.enter 278 args) w:=enters_of Tryz.func278 (by kernel_rfl) rfl

theorem jump_wait_eq {k:Nat} {op:UInt8} (h2:(s.bk k).kind≠2):jumpM s op k=emitM {s with blocks:=s.blocks.set k {s.bk k with waits:=(s.bk k).waits++[s.code.length]}} ⟨op,0,0,(s.bk k).height,(valueM (s.bk k)).length⟩:=by
 unfold jumpM;rw[if_neg h2]

theorem jump_wait (h:BSt E g w s) {k:Nat} (hk:k<s.blocks.length) (op:UInt8) (hc:s.code.length≤1000000) (hht:(s.bk k).height≤1000000) (hws:(s.bk k).waits.length≤1000000) (_hvl:(valueM (s.bk k)).length≤1) (h2:(s.bk k).kind≠2):
  Calls Tryz.prog 281 #[ptrTo E.bb,.int .u8 op.toNat,.pointer (some ⟨g,k*5,none⟩)] w fun r w'=>r= .returned (.tuple #[])∧BSt E g w' (jumpM s op k)∧Kp (nro E.ro) w w':=by
 rw[jump_wait_eq h2]
 obtain⟨i0,hi0,hz0,hz1,hz2⟩:=info_parts int1_info
 have hval:=fun W (kW:Kp no w W)=>value_any (h.quiet kW) hk
 have hhere:=fun W (kW:Kp no w W)=>here_any (h.quiet kW) hc
 have hB:=h.env.base
 obtain⟨role,sv,cv,kc,bs,h⟩:=h
 obtain⟨rv,wv,hbs,hkd,hr,hhe,hsta,hwv⟩:=h.bk hk
 have hlg:g<w.heap.size:=own_lt h.blocks rfl
 have hcg:=fun W (kW:Kp no w W)=>kW.allCells hwv
 have hfg:=fun W (kW:Kp no w W)=>(kW.own h.blocks (fun _ _ h=>h)).frozenAt (k*5+4)
 have how:=fun W (kW:Kp no w W)=>kW.own (h.waits k _ hbs) (fun _ _ h=>h)
 have hlw: ∀b,wv.ownBlock=some b→b<w.heap.size:=fun b hb=>own_lt (h.waits k _ hbs) hb
 have ng:some g≠wv.ownBlock:=fun e=>by have :=h.rw k _ hbs g e.symm;rw[h.r5]at this;omega
 have hend:=fun W w1 (kW:Kp no w W) v1 n xs at_=>waits_end h hk hbs (W:=W) (w1:=w1) kW (v1:=v1) (n:=n) (xs:=xs) (at_:=at_)
 simp only at how
 obtain⟨adw,capw,hwsh⟩:=own_shape (how w (Kp.refl no w))
 generalize valueM (s.bk k)=vl at *
 generalize s.bk k=b at *
 obtain⟨kd,res,ht,st,ws⟩:=b
 simp only at *
 have q2:((kd:Int)==2)=false:=by simp;omega
 subst hwsh
 have HV:=hide hval
 have HH:=hide hhere
 have HE:=hide hend
 have HW:=hide how
 have HC:=hide hcg
 have HF:=hide hfg
 clear h hval hhere hend how hbs h2 hcg hfg
 go_enter Tryz.func281,Tryz.ntmps281
 go_wp2_with fail
 go_region_held3 (fun w'=>w'.cell? ⟨g,k*5+2,none⟩=some (.int .i64 ht)) (go_keep) (first |(go_at_call 288;refine(HV.out _ (by first |exact(Kp.refl no w).drew|exact((Kp.refl no w).alloc _).drew)).mono ?_;rintro e w1 ⟨⟨v,rfl,hbv,hne⟩,rfl⟩;obtain⟨adv,capv,rfl,-⟩:=hbv.shape;clear hbv hne))
 all_goals
  go_wp2_with fail
  go_region_law (first |((refine step_call (by rfl) 278 _ _ (by rfl) enters_here #[ptrTo E.bb] (by rfl) (HH.out _ (by repeat' first |exact Kp.refl _ _|apply Kp.drew|apply Kp.drewN|apply Kp.alloc)) ?_;rintro e w3 ⟨rfl,k3⟩;refine⟨_,rfl,?_⟩;have k4:=Kp.trans (show Kp no w _ from(by repeat' first |exact Kp.refl _ _|apply Kp.drew|apply Kp.drewN|apply Kp.alloc)) k3;have hcw3:=HC.out w3 k4;have hfw3:=HF.out w3 k4;have hlg3:g<w3.heap.size:=Nat.lt_of_lt_of_le hlg k4.size;have hgb3:=Kp.blk k3 (k:=w.heap.size) (o:= .cells #[.int .i64 0,.int .i64 ht,.int .i64 vl.length] 212) (heap_alloc_new w _) (fun h=>h)))|((refine step_append_at _ (by rfl) _ _ _ (by rfl) E.B 3 i0 _ 1 8 Tryz.underlying44 hi0 hz0 hz1 hz2 rfl (by omega) (.slice adw ws.length capw) ws.length _ (by rfl) ((HW.out w3 k4).alloc _) (.slice (some ⟨w3.heap.size,0,none⟩) 1 1) 1 [.int .i64 s.code.length] (by rfl) (RowAt.allocAt rfl #[.int .i64 s.code.length] _ 1 1 rfl) (by simp[Value.oneCell']) (by simp only[maxLen];omega) (by omega) (by have :=k4.size;simp;omega) ?_;intro v1 w5 hown1 hgrow hat;obtain⟨ad1,cap1,rfl⟩:=own_shape hown1;have hmc1:=(hgrow.cell_far ⟨g,k*5+4,none⟩ (by simp;omega) ng).trans (HC.out _ (k4.alloc _));have hmf1:=(hgrow.frozen_far ⟨g,k*5+4,none⟩ (by simp;omega) ng).trans (HF.out _ (k4.alloc _));have hgb5:=(hgrow.block w.heap.size (by have :=lt_of_blk hgb3;simp;omega) (fun e=>by have :=hlw _ e.symm;omega)).trans (heap_alloc_old hgb3))))
 all_goals
  obtain⟨h6,k6⟩:=HE.out _ _ (k4.alloc _) _ _ _ _ rfl rfl hown1 hgrow hat
  have H6:=hide h6
  have HK6:=hide k6
  obtain⟨hgc,hgf⟩:=cells_of (heap_setCell_ne (b:=g) (o:=k*5+4) (by omega) (.slice ad1 (ws.length+1) cap1) hgb5)
  clear h6 k6 hown1 hgrow hat hgb5 hgb3 k3 k4 hcw3 hfw3 hmc1 hmf1
  go_wp2_with fail
  refine(emit_any H6.out ⟨op,0,0,ht,vl.length⟩ hc).mono ?_
  rintro e w7 ⟨rfl,h7,k7⟩
  have H7:=hide h7
  have HK7:=hide (HK6.out.trans k7)
  clear h7 k7
  go_wp2
  go_end0
  exact⟨rfl,H7.out,HK7.out⟩
end

end Go.Proofs.YtdeplgkhmebalaaGreatDoor

set_option linter.unusedSimpArgs false
set_option linter.unusedVariables false
namespace Go.Proofs.YtdeplgkhmebalaaGreatDoor
open Go.RowKit

structure Sz (N:Nat) (s:Bd):Prop where
 bl:s.blocks.length≤17
 st:s.stack.length≤N
 cd:s.code.length≤N
 top:s.top.height≤s.stack.length
 mono: ∀j k,j≤k→k<s.blocks.length→(s.bk j).height≤(s.bk k).height
 wt: ∀k,k<s.blocks.length→(s.bk k).waits.length≤N∧(s.bk k).start≤N+1∧(s.bk k).result.length≤1∧(∀n∈(s.bk k).waits,n<s.code.length)∧((s.bk k).kind=3→1≤(s.bk k).start∧(s.bk k).start≤s.code.length)
theorem Sz.height {N:Nat} {s:Bd} (z:Sz N s) {k:Nat} (hk:k<s.blocks.length):(s.bk k).height≤s.stack.length:=by
 have h1:=z.mono k (s.blocks.length -1) (by omega) (by omega)
 have h2:=z.top
 unfold Bd.top at h2
 omega
theorem Sz.le {N M:Nat} {s:Bd} (z:Sz N s) (h:N≤M):Sz M s:=
 ⟨z.bl,Nat.le_trans z.st h,Nat.le_trans z.cd h,z.top,z.mono,fun k hk=>⟨Nat.le_trans (z.wt k hk).1 h,by have :=(z.wt k hk).2.1;omega,(z.wt k hk).2.2⟩⟩
theorem Sz.read {N:Nat} {s:Bd} (z:Sz N s) (i p:Nat) (c:Bool):Sz N {s with i:=i,pos:=p,closed:=c}:=⟨z.bl,z.st,z.cd,z.top,z.mono,z.wt⟩
theorem value_len {b:Bk} (h:b.result.length≤1):(valueM b).length≤1:=by
 unfold valueM;split
 ·simp
 ·exact h

theorem sunk_sz {N:Nat} {s s':Bd} (z:Sz N s) (h:Sunk s s') (ht:s'.top.height≤s'.stack.length):Sz N s':=by
 obtain⟨l,rfl,hl⟩:=h
 exact⟨z.bl,Nat.le_trans hl z.st,z.cd,ht,z.mono,z.wt⟩
theorem takeAny_len {s s':Bd} {u:UInt8} (h:takeAnyM s=some (u,s')):s'.stack.length+1=s.stack.length∧s'.top.height≤s'.stack.length∧Sunk s s':=by
 have hs:=takeAny_sunk h
 unfold takeAnyM at h
 split at h
 ·cases h
 ·rename_i hc
  cases h
  refine⟨by simp;omega,?_,hs⟩
  show s.top.height≤_
  simp;omega
theorem take_len {s s':Bd} {u:UInt8} (h:takeM s u=some s'):s'.stack.length+1=s.stack.length∧s'.top.height≤s'.stack.length∧Sunk s s':=by
 unfold takeM at h
 split at h
 ·cases h
 ·rename_i v s1 h1
  split at h
  ·cases h;exact takeAny_len h1
  ·cases h
theorem takeN_len {ts:List UInt8} (k:Nat): ∀{s s':Bd},s.top.height≤s.stack.length→takeN ts k s=some s'→s'.stack.length+k=s.stack.length∧s'.top.height≤s'.stack.length∧Sunk s s':=by
 induction k with
 |zero=>intro s s' h0 h;cases h;exact⟨rfl,h0,Sunk.refl s⟩
 |succ k ih=>
  intro s s' h0 h
  rw[takeN]at h
  split at h
  ·cases h
  ·rename_i s1 h1
   obtain⟨a,b,c⟩:=take_len h1
   obtain⟨a',b',c'⟩:=ih b h
   exact⟨by omega,b',c.trans c'⟩
theorem take_sz {N:Nat} {s s':Bd} {u:UInt8} (z:Sz N s) (h:takeM s u=some s'):Sz N s':=sunk_sz z (take_len h).2.2 (take_len h).2.1
theorem takeAny_sz {N:Nat} {s s':Bd} {u:UInt8} (z:Sz N s) (h:takeAnyM s=some (u,s')):Sz N s':=sunk_sz z (takeAny_len h).2.2 (takeAny_len h).2.1
theorem takeAll_sz {N:Nat} {s s':Bd} {ts:List UInt8} (z:Sz N s) (h:takeAllM s ts=some s'):Sz N s':=sunk_sz z (takeN_len _ z.top h).2.2 (takeN_len _ z.top h).2.1
theorem put_sz {N:Nat} {s:Bd} (z:Sz N s) (ts:List UInt8):Sz (N+ts.length) (putM s ts):=
 ⟨z.bl,by simp[putM];exact z.st,by have :=z.cd;simp[putM];omega,by have :=z.top;show s.top.height≤_;simp[putM];omega,z.mono,fun k hk=>by have :=z.wt k hk;exact⟨Nat.le_trans this.1 (by omega),Nat.le_trans this.2.1 (by omega),this.2.2⟩⟩
theorem carries_sz {N:Nat} {s s':Bd} {k:Nat} (z:Sz N s) (h:carriesM s k=some s'):Sz N s'∧Sunk s s':=by
 unfold carriesM at h
 rw[Option.map_eq_some_iff]at h
 obtain⟨s1,h1,rfl⟩:=h
 obtain⟨a,b,c⟩:=takeN_len _ z.top h1
 have hl:(putM s1 (valueM (s.bk k))).stack.length=s.stack.length:=by simp[putM];exact a
 obtain⟨l,rfl,hl'⟩:=c
 refine⟨⟨z.bl,by rw[hl];exact z.st,z.cd,?_,z.mono,z.wt⟩,⟨_,rfl,Nat.le_of_eq hl⟩⟩
 rw[hl];exact z.top
theorem emit_sz {N:Nat} {s:Bd} (z:Sz N s) (x:Ins):Sz (N+1) (emitM s x):=
 ⟨z.bl,Nat.le_succ_of_le z.st,by have :=z.cd;simp[emitM];omega,z.top,z.mono,fun k hk=>by
  have :=z.wt k hk
  refine⟨Nat.le_succ_of_le this.1,Nat.le_succ_of_le this.2.1,this.2.2.1,fun n hn=> ?_,fun h3=> ?_⟩
  ·have :=this.2.2.2.1 n hn;simp[emitM];omega
  ·have :=this.2.2.2.2 h3;simp[emitM];exact⟨this.1,Nat.le_succ_of_le this.2⟩⟩
theorem bk_set {s:Bd} {k:Nat} (hk:k<s.blocks.length) (b:Bk) (j:Nat):Bd.bk {s with blocks:=s.blocks.set k b} j=if k=j then b else s.bk j:=by
 unfold Bd.bk
 simp only[List.getD,List.getElem?_set]
 split <;>rfl
theorem wait_sz {N:Nat} {s:Bd} (z:Sz N s) (x:Ins) {k:Nat} (hk:k<s.blocks.length) (b:Bk) (h1:b.kind=(s.bk k).kind) (h2:b.height=(s.bk k).height) (h3:b.start=(s.bk k).start) (h4:b.result=(s.bk k).result) (h5:b.waits=(s.bk k).waits++[s.code.length]):
  Sz (N+1) (emitM {s with blocks:=s.blocks.set k b} x):=by
 have hb: ∀j,(emitM {s with blocks:=s.blocks.set k b} x).bk j=if k=j then b else s.bk j:=fun j=>bk_set hk b j
 have hh: ∀j,((emitM {s with blocks:=s.blocks.set k b} x).bk j).height=(s.bk j).height:=by
  intro j;rw[hb];split
  ·rename_i e;rw[←e];exact h2
  ·rfl
 have hl:(emitM {s with blocks:=s.blocks.set k b} x).blocks.length=s.blocks.length:=by simp[emitM]
 have hcl:(emitM {s with blocks:=s.blocks.set k b} x).code.length=s.code.length+1:=by simp[emitM]
 refine⟨by rw[hl];exact z.bl,Nat.le_succ_of_le z.st,by have :=z.cd;omega,?_,?_,?_⟩
 ·have :=z.top
  unfold Bd.top at *
  rw[hh,hl];exact this
 ·intro i j hij hj
  rw[hh,hh];exact z.mono i j hij (by rw[hl]at hj;exact hj)
 ·intro j hj
  rw[hl]at hj
  have hw:=z.wt j hj
  rw[hb,hcl]
  split
  ·rename_i e
   subst e
   rw[h1,h3,h4,h5]
   refine⟨by simp;exact hw.1,by omega,hw.2.2.1,?_,?_⟩
   ·intro n hn
    simp only[List.mem_append,List.mem_singleton]at hn
    rcases hn with hn|hn
    ·have :=hw.2.2.2.1 n hn;omega
    ·omega
   ·intro h3;have :=hw.2.2.2.2 h3;omega
  ·refine⟨by omega,by omega,hw.2.2.1,?_,?_⟩
   ·intro n hn;have :=hw.2.2.2.1 n hn;omega
   ·intro h3;have :=hw.2.2.2.2 h3;omega
theorem jump_sz {N:Nat} {s:Bd} (z:Sz N s) (op:UInt8) {k:Nat} (hk:k<s.blocks.length):Sz (N+1) (jumpM s op k):=by
 unfold jumpM
 split
 ·exact emit_sz z _
 ·exact wait_sz z _ hk _ rfl rfl rfl rfl rfl
theorem aim_sz {N:Nat} {s:Bd} (z:Sz N s) (n:Nat):Sz N (aimM s n):=
 ⟨z.bl,z.st,by simpa[aimM]using z.cd,z.top,z.mono,fun k hk=>by simpa[aimM,Bd.bk]using z.wt k hk⟩

end Go.Proofs.YtdeplgkhmebalaaGreatDoor

set_option linter.unusedSimpArgs false
set_option linter.unusedVariables false
set_option maxHeartbeats 1000000
set_option maxRecDepth 100000
namespace Go.Proofs.YtdeplgkhmebalaaGreatDoor
open Go.RowKit

abbrev Env.plus (E:Env) (X:Nat→Prop):Env:={E with ro:=fun k=>E.ro k∨X k}

section
variable{E:Env} {g N:Nat} {w:World} {s:Bd}

theorem BSt.guard (h:BSt E g w s) {W:World} (k:Kp no w W) (X:Nat→Prop) (hX: ∀b,X b→w.heap.size≤b∧b<W.heap.size):BSt (E.plus X) g W s:=by
 obtain⟨role,sv,cv,kc,bs,h⟩:=h
 have h1:BStG E g w s (newRole role w.heap.size 0) sv cv kc bs:=h.renew 0
 have h2:=h1.quiet k
 refine⟨_,sv,cv,kc,bs,⟨⟨h2.env.base,fun b hb=> .inl (h2.env.dv b hb),?_,?_,h2.env.locals,fun b hb=> .inl (h2.env.lv b hb),h2.env.nf,h2.env.ng,h2.env.nl,h2.env.res⟩,h2.rd,h2.body,h2.mod,h2.stack,h2.blocks,h2.code,h2.eq,h2.waits,h2.results,h2.r1,h2.r2,h2.r3,h2.r4,h2.r5,h2.r6,h2.rw,h2.rr,?_,?_⟩⟩
 ·obtain⟨ad,cap,h3,h4,h5⟩:=h2.env.funcs
  refine⟨ad,cap,h3,h4,fun j hj=> ?_⟩
  obtain⟨a,o,pv,rv,p1,p2,p3,p4,p5,p6,p7,p8⟩:=h5 j hj
  exact⟨a,o,pv,rv,p1,.inl p2,p3,p4,p5,fun b hb=> .inl (p6 b hb),p7,fun b hb=> .inl (p8 b hb)⟩
 ·obtain⟨ad,cap,h3,h4,h5⟩:=h2.env.gl
  refine⟨ad,cap,h3,h4,fun j hj=> ?_⟩
  obtain⟨a,o,p1,p2,p3,p4⟩:=h5 j hj
  exact⟨a,o,p1,.inl p2,p3,p4⟩
 ·intro b hb
  rcases hb with hb|hb
  ·exact h2.ro b hb
  ·exact newRole_new (hX b hb).1
 ·intro b hb
  rcases hb with hb|hb
  ·exact h2.lt b hb
  ·exact(hX b hb).2
theorem BSt.unguard {X:Nat→Prop} (h:BSt (E.plus X) g w s) (hE:E.Ok w):BSt E g w s:=by
 obtain⟨role,sv,cv,kc,bs,h⟩:=h
 exact⟨role,sv,cv,kc,bs,⟨hE,h.rd,h.body,h.mod,h.stack,h.blocks,h.code,h.eq,h.waits,h.results,h.r1,h.r2,h.r3,h.r4,h.r5,h.r6,h.rw,h.rr,fun b hb=>h.ro b (.inl hb),fun b hb=>h.lt b (.inl hb)⟩⟩
theorem Kp.unguard {X:Nat→Prop} {w':World} (k:Kp (nro (E.plus X).ro) w w'):Kp (nro E.ro) w w':=k.mono (fun _b _ hb hr=>hb (.inl hr))

theorem closed_end (h:BSt E g w s) (c:Bool):BSt E g (w.setCell ⟨E.bb,7,none⟩ (.bool c)) {s with closed:=c}∧Kp (one E.bb) w (w.setCell ⟨E.bb,7,none⟩ (.bool c)):=by
 obtain⟨role,sv,cv,kc,bs,h⟩:=h
 have k:Kp (one E.bb) w (w.setCell ⟨E.bb,7,none⟩ (.bool c)):=(Kp.refl _ w).set1 _ _
 exact⟨⟨role,sv,cv,kc,bs,h.setPos (p:=s.pos) (c:=c) (k.mono (fun b _ (e:b=E.bb)=>by rw[e];exact h.r3)) (heap_setCell h.body _)⟩,k⟩
theorem pos_end (h:BSt E g w s) (p:Nat):BSt E g (w.setCell ⟨E.bb,6,none⟩ (.int .i64 p)) {s with pos:=p}∧Kp (one E.bb) w (w.setCell ⟨E.bb,6,none⟩ (.int .i64 p)):=by
 obtain⟨role,sv,cv,kc,bs,h⟩:=h
 have k:Kp (one E.bb) w (w.setCell ⟨E.bb,6,none⟩ (.int .i64 p)):=(Kp.refl _ w).set1 _ _
 exact⟨⟨role,sv,cv,kc,bs,h.setPos (p:=p) (c:=s.closed) (k.mono (fun b _ (e:b=E.bb)=>by rw[e];exact h.r3)) (heap_setCell h.body _)⟩,k⟩
theorem BSt.bodyAt (h:BSt E g w s): ∃sv kc,w.heap[E.bb]? =some (bodyObj E g s sv kc)∧(∃ad cap,sv= .slice ad s.stack.length cap):=by
 obtain⟨role,sv,cv,kc,bs,h⟩:=h
 exact⟨sv,kc,h.body,own_shape h.stack⟩

theorem jump_any (h:BSt E g w s) (z:Sz N s) (hN:N≤500000) {k:Nat} (hk:k<s.blocks.length) (op:UInt8):
  Calls Tryz.prog 281 #[ptrTo E.bb,.int .u8 op.toNat,.pointer (some ⟨g,k*5,none⟩)] w fun r w'=>r= .returned (.tuple #[])∧BSt E g w' (jumpM s op k)∧Kp (nro E.ro) w w':=by
 have h1:=z.wt k hk
 have h2:=z.height hk
 have h3:=z.st
 have h4:=z.cd
 by_cases h5:(s.bk k).kind=2
 ·exact jump_loop h hk op (by omega) (by omega) (by omega) h5
 ·exact jump_wait h hk op (by omega) (by omega) (by omega) (value_len h1.2.2.1) h5

def Done (E:Env) (w w':World) (m:Res) (r:Ending):Prop:=
 match m with
 | .ok s'=>r= .returned (.pointer none)∧ ∃g',BSt E g' w' s'
 | .error e=> ∃fv,r= .returned fv∧FaultAt w w' fv e

theorem stop_any (h:BSt E g w s) (z:Sz N s) (hN:N≤500000):Calls Tryz.prog 254 #[ptrTo E.bb] w fun r w'=>Done E w w' (stopM s) r∧Kp (nro E.ro) w w':=by
 have hc:=z.cd
 have H:=hide h
 clear h z
 go_enter Tryz.func254,Tryz.ntmps254
 go_wp2_with fail
 refine(emit_any H.out ⟨0,0,0,0,0⟩ (by omega)).mono ?_
 rintro e w1 ⟨rfl,h1,k1⟩
 have H1:=hide h1
 obtain⟨sv,kc,hb,-⟩:=h1.bodyAt
 obtain⟨hc1,hf1⟩:=cells_of hb
 clear h1 hb
 go_wp2
 go_ret
 obtain⟨h2,k2⟩:=closed_end H1.out true
 exact⟨⟨rfl,g,h2⟩,k1.trans (H1.out.nroBb k2)⟩

theorem leave_any (h:BSt E g w s) (z:Sz N s) (hN:N≤500000) (hne:s.blocks≠[]):Calls Tryz.prog 260 #[ptrTo E.bb] w fun r w'=>Done E w w' (leaveM s) r∧Kp (nro E.ro) w w':=by
 have hM:leaveM s=(match carriesM s 0 with |none=>wrongM s|some s1=> .ok {jumpM s1 12 0 with closed:=true}):=rfl
 generalize leaveM s=R at *
 have hz:0<s.blocks.length:=List.length_pos_iff.2 hne
 have hbl:=z.bl
 have hst:=z.st
 have hca:=fun W (kW:Kp no w W)=>carries_any (h.quiet kW) z.bl (by omega) (k:=0) hz (value_len (z.wt 0 hz).2.2.1)
 have hzz: ∀s1,carriesM s 0=some s1→Sz N s1∧Sunk s s1:=fun s1 h1=>carries_sz z h1
 generalize carriesM s 0=Q at *
 have H:=hide h
 obtain⟨sv,kc,hb,ad,cap,rfl⟩:=h.bodyAt
 obtain⟨hc0,hf0⟩:=cells_of hb
 have HC:=hide hca
 clear h hca hb
 match Q,hM,HC,hzz with
 |none,hM,HC,_=>
  have HM:=hide hM
  clear hM
  go_enter Tryz.func260,Tryz.ntmps260
  go_wp2_with fail
  refine(HC.out _ (Kp.refl no w)).mono ?_
  rintro e w1 ⟨⟨rfl,s1,h1,hp⟩,k1⟩
  have HW:=hide (wrong_any h1)
  have HP:=hide hp
  clear h1 hp
  go_wp2_with fail
  refine HW.out.mono ?_
  rintro e w2 ⟨⟨fv,rfl,fb,rfl,hfb,hfo⟩,k2⟩
  have HF:=hide hfo
  clear hfo
  go_wp2
  go_ret
  rw[HM.out]
  exact⟨⟨ptrTo fb,rfl,fb,rfl,by have :=k1.size;omega,by rw[←HP.out];exact HF.out⟩,k1.trans k2.any⟩
 |some s1,hM,HC,hzz=>
  have HM:=hide hM
  have HZ:=hide (hzz s1 rfl)
  clear hM hzz
  go_enter Tryz.func260,Tryz.ntmps260
  go_wp2_with fail
  refine(HC.out _ (Kp.refl no w)).mono ?_
  rintro e w1 ⟨⟨rfl,h1⟩,k1⟩
  have HJ:=hide (jump_any h1 HZ.out.1 hN (k:=0) (by rw[HZ.out.2.len];exact hz) 12)
  clear h1
  go_wp2_with fail
  refine HJ.out.mono ?_
  rintro e w2 ⟨rfl,h2,k2⟩
  have H2:=hide h2
  obtain⟨sv2,kc2,hb2,-⟩:=h2.bodyAt
  obtain⟨hc2,hf2⟩:=cells_of hb2
  clear h2 hb2
  go_wp2
  go_ret
  rw[HM.out]
  obtain⟨h3,k3⟩:=closed_end H2.out true
  exact⟨⟨rfl,g,h3⟩,(k1.trans k2).trans (H2.out.nroBb k3)⟩

end

end Go.Proofs.YtdeplgkhmebalaaGreatDoor

set_option linter.unusedSimpArgs false
set_option linter.unusedVariables false
set_option maxHeartbeats 2000000
set_option maxRecDepth 100000
namespace Go.Proofs.YtdeplgkhmebalaaGreatDoor
open Go.RowKit

section
variable{E:Env} {g N:Nat} {w:World} {s:Bd}

theorem drop_any (h:BSt E g w s) (z:Sz N s) (hN:N≤500000) (hne:s.blocks≠[]):Calls Tryz.prog 262 #[ptrTo E.bb] w fun r w'=>Done E w w' (dropM s) r∧Kp (nro E.ro) w w':=by
 have hM:dropM s=(match takeAnyM s with |none=>wrongM s|some (_,s1)=> .ok (emitM s1 ⟨26,0,0,0,0⟩)):=rfl
 generalize dropM s=R at *
 have hst:=z.st
 have hta:=takeAny_any h hne z.bl (by omega)
 have hzz: ∀u s1,takeAnyM s=some (u,s1)→Sz N s1:=fun u s1 h1=>takeAny_sz z h1
 generalize takeAnyM s=Q at *
 have H:=hide h
 have HT:=hide hta
 clear h hta
 match Q,hM,HT,hzz with
 |none,hM,HT,_=>
  have HM:=hide hM
  clear hM
  go_enter Tryz.func262,Tryz.ntmps262
  go_wp2_with fail
  refine HT.out.mono ?_
  rintro e w1 ⟨⟨rfl,h1⟩,k1⟩
  have HK:=hide (H.out.nroBb k1)
  obtain⟨s1,hs1⟩: ∃s1,s1=s:=⟨s,rfl⟩
  have hp:s1.pos=s.pos:=by rw[hs1]
  rw[←hs1]at h1
  clear hs1
  have HP:=hide hp
  have HW:=hide (wrong_any h1)
  clear h1 hp
  go_wp2_with fail
  refine HW.out.mono ?_
  rintro e w8 ⟨⟨fv,rfl,fb,rfl,hfb,hfo⟩,k8⟩
  have HF:=hide hfo
  clear hfo
  go_wp2
  go_ret
  rw[HM.out]
  exact⟨⟨ptrTo fb,rfl,fb,rfl,by have :=HK.out.size;omega,by rw[←HP.out];exact HF.out⟩,HK.out.trans k8.any⟩
 |some (u,s1),hM,HT,hzz=>
  have HM:=hide hM
  have hz1:=(hzz u s1 rfl).cd
  clear hM hzz
  go_enter Tryz.func262,Tryz.ntmps262
  go_wp2_with fail
  refine HT.out.mono ?_
  rintro e w1 ⟨⟨rfl,h1⟩,k1⟩
  have HE:=hide (emit_any h1 ⟨26,0,0,0,0⟩ (by omega))
  have HK:=hide (H.out.nroBb k1)
  clear h1
  go_wp2_with fail
  refine HE.out.mono ?_
  rintro e w2 ⟨rfl,h2,k2⟩
  have H2:=hide h2
  clear h2
  go_wp2
  go_ret
  rw[HM.out]
  exact⟨⟨rfl,g,H2.out⟩,HK.out.trans k2⟩

theorem label_ok {c:Ctx} {s:Bd} {k:Nat} {s1:Bd} (hne:s.blocks≠[]) (h:labelM c s= .ok (k,s1)):k<s.blocks.length∧ ∃j,s1={s with i:=j}:=by
 have hl:0<s.blocks.length:=List.length_pos_iff.2 hne
 unfold labelM at h
 split at h
 ·cases h
 ·cases h
  exact⟨by omega,_,rfl⟩

theorem one_byte (w:World) (t:UInt8):BytesAt (w.alloc (.cells #[.int .u8 t.toNat] 5)) (.slice (some ⟨w.heap.size,0,none⟩) 1 1) [t]:=RowAt.ofBlock (heap_alloc_new _ _) 1 1 rfl

theorem choose_any (h:BSt E g w s) (z:Sz N s) (hN:N≤500000) (hne:s.blocks≠[]):Calls Tryz.prog 263 #[ptrTo E.bb] w fun r w'=>Done E w w' (chooseM s) r∧Kp (nro E.ro) w w':=by
 have hM:chooseM s=(match takeM s 127 with
  |none=>wrongM s
  |some s1=>
   match takeAnyM s1 with
   |none=>wrongM s
   |some (t,s2)=>
    match takeM s2 t with
    |none=>wrongM s
    |some s3=> .ok (putM (emitM s3 ⟨27,0,0,0,0⟩) [t])):=rfl
 generalize chooseM s=R at *
 have hst:=z.st
 have hta:=take_any' h hne z.bl (by omega) 127
 have hzz: ∀s1,takeM s 127=some s1→Sz N s1∧Sunk s s1:=fun s1 h1=>⟨take_sz z h1,take_sunk h1⟩
 generalize takeM s 127=Q at *
 have H:=hide h
 have HT:=hide hta
 clear h hta
 match Q,hM,HT,hzz with
 |none,hM,HT,_=>
  have HM:=hide hM
  clear hM
  go_enter Tryz.func263,Tryz.ntmps263
  go_wp2_with fail
  refine HT.out.mono ?_
  rintro e w1 ⟨⟨rfl,s1,h1,hs1⟩,k1⟩
  have HK:=hide (H.out.nroBb k1)
  have hp:=hs1.pos
  clear hs1
  have HP:=hide hp
  have HW:=hide (wrong_any h1)
  clear h1 hp
  go_wp2_with fail
  refine HW.out.mono ?_
  rintro e w8 ⟨⟨fv,rfl,fb,rfl,hfb,hfo⟩,k8⟩
  have HF:=hide hfo
  clear hfo
  go_wp2
  go_ret
  rw[HM.out]
  exact⟨⟨ptrTo fb,rfl,fb,rfl,by have :=HK.out.size;omega,by rw[←HP.out];exact HF.out⟩,HK.out.trans k8.any⟩
 |some s1,hM,HT,hzz=>
  have HZ:=hide (hzz s1 rfl)
  clear hzz
  have hz1:=HZ.out.1.st
  simp only at hM
  have hzz2: ∀u s2,takeAnyM s1=some (u,s2)→Sz N s2∧Sunk s s2:=fun u s2 h2=>⟨takeAny_sz HZ.out.1 h2,HZ.out.2.trans (takeAny_sunk h2)⟩
  have hta2:=fun W (h1:BSt E g W s1)=>takeAny_any h1 (by rw[←List.length_pos_iff,HZ.out.2.len];exact List.length_pos_iff.2 hne) HZ.out.1.bl (by omega)
  generalize takeAnyM s1=Q2 at *
  have HT2:=hide hta2
  clear hta2
  match Q2,hM,HT2,hzz2 with
  |none,hM,HT2,_=>
   have HM:=hide hM
   clear hM
   go_enter Tryz.func263,Tryz.ntmps263
   go_wp2_with fail
   refine HT.out.mono ?_
   rintro e w1 ⟨⟨rfl,h1⟩,k1⟩
   have HT3:=hide (HT2.out w1 h1)
   have HK1:=hide (H.out.nroBb k1)
   have H1:=hide h1
   clear h1
   go_wp2_with fail
   refine HT3.out.mono ?_
   rintro e w2 ⟨⟨rfl,h1⟩,k2⟩
   have HK:=hide (HK1.out.trans (H1.out.nroBb k2))
   have hp:=HZ.out.2.pos
   have HP:=hide hp
   have HW:=hide (wrong_any h1)
   clear h1 hp
   go_wp2_with fail
   refine HW.out.mono ?_
   rintro e w8 ⟨⟨fv,rfl,fb,rfl,hfb,hfo⟩,k8⟩
   have HF:=hide hfo
   clear hfo
   go_wp2
   go_ret
   rw[HM.out]
   exact⟨⟨ptrTo fb,rfl,fb,rfl,by have :=HK.out.size;omega,by rw[←HP.out];exact HF.out⟩,HK.out.trans k8.any⟩
  |some (t,s2),hM,HT2,hzz2=>
   have HZ2:=hide (hzz2 t s2 rfl)
   have hz2:=HZ2.out.1.st
   clear hzz2
   simp only at hM
   have hzz3: ∀s3,takeM s2 t=some s3→Sz N s3∧Sunk s s3:=fun s3 h3=>⟨take_sz HZ2.out.1 h3,HZ2.out.2.trans (take_sunk h3)⟩
   have hta3:=fun W (h2:BSt E g W s2)=>take_any' h2 (by rw[←List.length_pos_iff,HZ2.out.2.len];exact List.length_pos_iff.2 hne) HZ2.out.1.bl (by omega) t
   generalize takeM s2 t=Q3 at *
   have HT3:=hide hta3
   clear hta3
   match Q3,hM,HT3,hzz3 with
   |none,hM,HT3,_=>
    have HM:=hide hM
    clear hM
    go_enter Tryz.func263,Tryz.ntmps263
    go_wp2_with fail
    refine HT.out.mono ?_
    rintro e w1 ⟨⟨rfl,h1⟩,k1⟩
    have HT4:=hide (HT2.out w1 h1)
    have HK1:=hide (H.out.nroBb k1)
    have H1:=hide h1
    clear h1
    go_wp2_with fail
    refine HT4.out.mono ?_
    rintro e w2 ⟨⟨rfl,h2⟩,k2⟩
    have HT5:=hide (HT3.out w2 h2)
    have HK2:=hide (HK1.out.trans (H1.out.nroBb k2))
    have H2:=hide h2
    clear h2
    go_wp2_with fail
    refine HT5.out.mono ?_
    rintro e w3 ⟨⟨rfl,s3,h1,hs3⟩,k3⟩
    have HK:=hide (HK2.out.trans (H2.out.nroBb k3))
    have hp:=(HZ2.out.2.trans hs3).pos
    clear hs3
    have HP:=hide hp
    have HW:=hide (wrong_any h1)
    clear h1 hp
    go_wp2_with fail
    refine HW.out.mono ?_
    rintro e w8 ⟨⟨fv,rfl,fb,rfl,hfb,hfo⟩,k8⟩
    have HF:=hide hfo
    clear hfo
    go_wp2
    go_ret
    rw[HM.out]
    exact⟨⟨ptrTo fb,rfl,fb,rfl,by have :=HK.out.size;omega,by rw[←HP.out];exact HF.out⟩,HK.out.trans k8.any⟩
   |some s3,hM,HT3,hzz3=>
    have HM:=hide hM
    have HZ3:=hide (hzz3 s3 rfl)
    have hz3:=HZ3.out.1.st
    have hc3:=HZ3.out.1.cd
    clear hM hzz3
    go_enter Tryz.func263,Tryz.ntmps263
    go_wp2_with fail
    refine HT.out.mono ?_
    rintro e w1 ⟨⟨rfl,h1⟩,k1⟩
    have HT4:=hide (HT2.out w1 h1)
    have HK1:=hide (H.out.nroBb k1)
    have H1:=hide h1
    clear h1
    go_wp2_with fail
    refine HT4.out.mono ?_
    rintro e w2 ⟨⟨rfl,h2⟩,k2⟩
    have HT5:=hide (HT3.out w2 h2)
    have HK2:=hide (HK1.out.trans (H1.out.nroBb k2))
    have H2:=hide h2
    clear h2
    go_wp2_with fail
    refine HT5.out.mono ?_
    rintro e w3 ⟨⟨rfl,h3⟩,k3⟩
    have HK3:=hide (HK2.out.trans (H2.out.nroBb k3))
    have HE:=hide (emit_any h3 ⟨27,0,0,0,0⟩ (by omega))
    clear h3
    go_wp2_with fail
    refine HE.out.mono ?_
    rintro e w4 ⟨rfl,h4,k4⟩
    have HP:=hide (put_any (h4.quiet ((Kp.refl no w4).alloc (.cells #[.int .u8 t.toNat] 5))) (one_byte w4 t) (by simp only;omega) (by simp))
    have HK4:=hide (HK3.out.trans k4)
    clear h4 k4
    go_wp2_with fail
    refine HP.out.mono ?_
    rintro e w5 ⟨rfl,h5,k5⟩
    have H5:=hide h5
    have HK5:=hide ((HK4.out.alloc _).trans k5)
    clear h5 k5
    go_wp2
    go_ret
    rw[HM.out]
    exact⟨⟨rfl,g,H5.out⟩,HK5.out⟩

theorem branch_any (h:BSt E g w s) (z:Sz N s) (hN:N≤500000) (hne:s.blocks≠[]) (op:UInt8) (hop:op=12∨op=13):Calls Tryz.prog 258 #[ptrTo E.bb,.int .u8 op.toNat] w fun r w'=>Done E w w' (branchM E.c op s) r∧Kp (nro E.ro) w w':=by
 have hM:branchM E.c op s=(match labelM E.c s with
  | .error e=> .error e
  | .ok (k,s1)=>
   match (if op=13 then takeM s1 127 else some s1)with
   |none=>wrongM s
   |some s2=>
    match carriesM s2 k with
    |none=>wrongM s
    |some s3=> .ok {jumpM s3 op k with closed:=op==12}):=rfl
 generalize branchM E.c op s=R at *
 have hst:=z.st
 have hla:=label_any h hne z.bl
 have hlb:=fun k s1=>label_ok (c:=E.c) (s:=s) (k:=k) (s1:=s1) hne
 generalize labelM E.c s=Q at *
 have H:=hide h
 have HL:=hide hla
 clear h hla
 match Q,hM,HL,hlb with
 | .error e,hM,HL,_=>
  have HM:=hide hM
  clear hM
  go_enter Tryz.func258,Tryz.ntmps258
  go_wp2_with fail
  refine HL.out.mono ?_
  rintro r w1 ⟨⟨fv,rfl,fb,rfl,hfb,hfo⟩,k1⟩
  have HF:=hide hfo
  clear hfo
  go_wp2
  go_ret
  rw[HM.out]
  exact⟨⟨ptrTo fb,rfl,fb,rfl,hfb,HF.out⟩,H.out.nroRb k1⟩
 | .ok (k,s1),hM,HL,hlb=>
  obtain⟨hk,j,hs1⟩:=hlb k s1 rfl
  have z1:Sz N s1:=by rw[hs1];exact z.read j s.pos s.closed
  have hne1:s1.blocks≠[]:=by rw[hs1];exact hne
  have hp1:s1.pos=s.pos:=by rw[hs1]
  have hk1:k<s1.blocks.length:=by rw[hs1];exact hk
  clear hlb hs1
  simp only at hM
  have q12:((op.toNat:Int)==12)=(op==12):=u8_eq op 12
  have q13:((op.toNat:Int)==13)=(op==13):=u8_eq op 13
  rcases hop with hop|hop
  ·have e13:op≠13:=by rw[hop];decide
   rw[if_neg e13]at hM
   have b12:(op==12)=true:=by rw[hop];rfl
   have b13:(op==13)=false:=by rw[hop];rfl
   rw[b12]at hM q12
   rw[b13]at q13
   clear hop e13 b12 b13
   simp only at hM
   have hca:=fun W (h1:BSt E g W s1)=>carries_any h1 z1.bl (by have :=z1.st;omega) (k:=k) hk1 (value_len (z1.wt k hk1).2.2.1)
   have hcz: ∀s3,carriesM s1 k=some s3→Sz N s3∧k<s3.blocks.length:=fun s3 h3=>⟨(carries_sz z1 h3).1,by rw[(carries_sz z1 h3).2.len];exact hk1⟩
   generalize carriesM s1 k=Q2 at *
   have HC:=hide hca
   clear hca
   match Q2,hM,HC,hcz with
   |none,hM,HC,_=>
    have HM:=hide hM
    have HP1:=hide hp1
    clear hM hp1
    go_enter Tryz.func258,Tryz.ntmps258
    go_wp2_with fail
    refine HL.out.mono ?_
    rintro r w1 ⟨⟨rfl,h1⟩,k1⟩
    have HC1:=hide (HC.out w1 h1)
    have HK1:=hide (H.out.nroRb k1)
    clear h1
    go_wp2_with fail
    refine HC1.out.mono ?_
    rintro r w2 ⟨⟨rfl,s2,h1,hp⟩,k2⟩
    have HK:=hide (HK1.out.trans k2)
    rw[HP1.out]at hp
    have HP:=hide hp
    have HW:=hide (wrong_any h1)
    clear h1 hp
    go_wp2_with fail
    refine HW.out.mono ?_
    rintro e w8 ⟨⟨fv,rfl,fb,rfl,hfb,hfo⟩,k8⟩
    have HF:=hide hfo
    clear hfo
    go_wp2
    go_ret
    rw[HM.out]
    exact⟨⟨ptrTo fb,rfl,fb,rfl,by have :=HK.out.size;omega,by rw[←HP.out];exact HF.out⟩,HK.out.trans k8.any⟩
   |some s3,hM,HC,hcz=>
    have HM:=hide hM
    have HZ:=hide (hcz s3 rfl)
    clear hM hcz
    go_enter Tryz.func258,Tryz.ntmps258
    go_wp2_with fail
    refine HL.out.mono ?_
    rintro r w1 ⟨⟨rfl,h1⟩,k1⟩
    have HC1:=hide (HC.out w1 h1)
    have HK1:=hide (H.out.nroRb k1)
    clear h1
    go_wp2_with fail
    refine HC1.out.mono ?_
    rintro r w2 ⟨⟨rfl,h2⟩,k2⟩
    have HJ:=hide (jump_any h2 HZ.out.1 hN HZ.out.2 op)
    have HK2:=hide (HK1.out.trans k2)
    clear h2
    go_wp2_with fail
    refine HJ.out.mono ?_
    rintro r w3 ⟨rfl,h3,k3⟩
    have H3:=hide h3
    obtain⟨sv3,kc3,hb3,-⟩:=h3.bodyAt
    obtain⟨hc3,hf3⟩:=cells_of hb3
    have HK3:=hide (HK2.out.trans k3)
    clear h3 hb3
    go_wp2
    go_ret
    rw[HM.out]
    obtain⟨h4,k4⟩:=closed_end H3.out true
    exact⟨⟨rfl,g,h4⟩,HK3.out.trans (H3.out.nroBb k4)⟩
  ·rw[if_pos hop]at hM
   have b12:(op==12)=false:=by rw[hop];rfl
   have b13:(op==13)=true:=by rw[hop];rfl
   rw[b12]at hM q12
   rw[b13]at q13
   clear hop b12 b13
   have hta:=fun W (h1:BSt E g W s1)=>take_any' h1 hne1 z1.bl (by have :=z1.st;omega) 127
   have hzz: ∀s2,takeM s1 127=some s2→Sz N s2∧Sunk s1 s2:=fun s2 h2=>⟨take_sz z1 h2,take_sunk h2⟩
   generalize takeM s1 127=Q1 at *
   have HT:=hide hta
   clear hta
   match Q1,hM,HT,hzz with
   |none,hM,HT,_=>
    have HM:=hide hM
    have HP1:=hide hp1
    clear hM hp1
    go_enter Tryz.func258,Tryz.ntmps258
    go_wp2_with fail
    refine HL.out.mono ?_
    rintro r w1 ⟨⟨rfl,h1⟩,k1⟩
    have HT1:=hide (HT.out w1 h1)
    have HK1:=hide (H.out.nroRb k1)
    have H1:=hide h1
    clear h1
    go_wp2_with fail
    refine HT1.out.mono ?_
    rintro r w2 ⟨⟨rfl,s2,h1,hs2⟩,k2⟩
    have hp:=hs2.pos
    have HK:=hide (HK1.out.trans (H1.out.nroBb k2))
    rw[HP1.out]at hp
    clear hs2
    have HP:=hide hp
    have HW:=hide (wrong_any h1)
    clear h1 hp
    go_wp2_with fail
    refine HW.out.mono ?_
    rintro e w8 ⟨⟨fv,rfl,fb,rfl,hfb,hfo⟩,k8⟩
    have HF:=hide hfo
    clear hfo
    go_wp2
    go_ret
    rw[HM.out]
    exact⟨⟨ptrTo fb,rfl,fb,rfl,by have :=HK.out.size;omega,by rw[←HP.out];exact HF.out⟩,HK.out.trans k8.any⟩
   |some s2,hM,HT,hzz=>
    have HZ2:=hide (hzz s2 rfl)
    clear hzz
    simp only at hM
    have hk2:k<s2.blocks.length:=by rw[HZ2.out.2.len];exact hk1
    have hp2:s2.pos=s.pos:=HZ2.out.2.pos.trans hp1
    have hca:=fun W (h2:BSt E g W s2)=>carries_any h2 HZ2.out.1.bl (by have :=HZ2.out.1.st;omega) (k:=k) hk2 (value_len (HZ2.out.1.wt k hk2).2.2.1)
    have hcz: ∀s3,carriesM s2 k=some s3→Sz N s3∧k<s3.blocks.length:=fun s3 h3=>⟨(carries_sz HZ2.out.1 h3).1,by rw[(carries_sz HZ2.out.1 h3).2.len];exact hk2⟩
    generalize carriesM s2 k=Q2 at *
    have HC:=hide hca
    have HP2:=hide hp2
    clear hca hp2 hp1
    match Q2,hM,HC,hcz with
    |none,hM,HC,_=>
     have HM:=hide hM
     clear hM
     go_enter Tryz.func258,Tryz.ntmps258
     go_wp2_with fail
     refine HL.out.mono ?_
     rintro r w1 ⟨⟨rfl,h1⟩,k1⟩
     have HT1:=hide (HT.out w1 h1)
     have HK1:=hide (H.out.nroRb k1)
     have H1:=hide h1
     clear h1
     go_wp2_with fail
     refine HT1.out.mono ?_
     rintro r w2 ⟨⟨rfl,h2⟩,k2⟩
     have HC1:=hide (HC.out w2 h2)
     have HK2:=hide (HK1.out.trans (H1.out.nroBb k2))
     clear h2
     go_wp2_with fail
     refine HC1.out.mono ?_
     rintro r w3 ⟨⟨rfl,s3,h1,hp⟩,k3⟩
     have HK:=hide (HK2.out.trans k3)
     rw[HP2.out]at hp
     have HP:=hide hp
     have HW:=hide (wrong_any h1)
     clear h1 hp
     go_wp2_with fail
     refine HW.out.mono ?_
     rintro e w8 ⟨⟨fv,rfl,fb,rfl,hfb,hfo⟩,k8⟩
     have HF:=hide hfo
     clear hfo
     go_wp2
     go_ret
     rw[HM.out]
     exact⟨⟨ptrTo fb,rfl,fb,rfl,by have :=HK.out.size;omega,by rw[←HP.out];exact HF.out⟩,HK.out.trans k8.any⟩
    |some s3,hM,HC,hcz=>
     have HM:=hide hM
     have HZ:=hide (hcz s3 rfl)
     clear hM hcz
     go_enter Tryz.func258,Tryz.ntmps258
     go_wp2_with fail
     refine HL.out.mono ?_
     rintro r w1 ⟨⟨rfl,h1⟩,k1⟩
     have HT1:=hide (HT.out w1 h1)
     have HK1:=hide (H.out.nroRb k1)
     have H1:=hide h1
     clear h1
     go_wp2_with fail
     refine HT1.out.mono ?_
     rintro r w2 ⟨⟨rfl,h2⟩,k2⟩
     have HC1:=hide (HC.out w2 h2)
     have HK2:=hide (HK1.out.trans (H1.out.nroBb k2))
     clear h2
     go_wp2_with fail
     refine HC1.out.mono ?_
     rintro r w3 ⟨⟨rfl,h3⟩,k3⟩
     have HJ:=hide (jump_any h3 HZ.out.1 hN HZ.out.2 op)
     have HK3:=hide (HK2.out.trans k3)
     clear h3
     go_wp2_with fail
     refine HJ.out.mono ?_
     rintro r w4 ⟨rfl,h4,k4⟩
     have H4:=hide h4
     obtain⟨sv4,kc4,hb4,-⟩:=h4.bodyAt
     obtain⟨hc4,hf4⟩:=cells_of hb4
     have HK4:=hide (HK3.out.trans k4)
     clear h4 hb4
     go_wp2
     go_ret
     rw[HM.out]
     obtain⟨h5,k5⟩:=closed_end H4.out false
     exact⟨⟨rfl,g,h5⟩,HK4.out.trans (H4.out.nroBb k5)⟩

end

end Go.Proofs.YtdeplgkhmebalaaGreatDoor
