/- The document's reader: 'body', its size being right. -/
import Derived.Test.YtdeplgkhmebalaaGreatDoorP20
import Derived.Test.YtdeplgkhmebalaaGreatDoorP19

set_option linter.unusedSimpArgs false
set_option linter.unusedVariables false
set_option maxHeartbeats 2000000
set_option maxRecDepth 100000
namespace Go.Proofs.YtdeplgkhmebalaaGreatDoor.Rf
open Go.RowKit

theorem types_len (E:PE) (n:Nat): ∀(l:List UInt8) (σ:PS),(typesGo E n l σ).1.length≤l.length+n:=by
 induction n with
 |zero=>intro l σ;exact Nat.le_refl _
 |succ n ih=>
  intro l σ
  unfold typesGo
  split
  ·exact Nat.le_add_right _ _
  ·have :=ih (l++[(needM E 127 126 126 σ).1]) (needM E 127 126 126 σ).2
   rw[List.length_append,List.length_singleton]at this
   omega
theorem own_set {w:World} {base:Nat} {e:TypeId} {sz a o n cap:Nat} {xs:List Value} (h:w.ownsRow base e sz (.slice (some ⟨a,o,none⟩) n cap) n xs) {k:Nat} (u:Value):(w.setCell ⟨a,o+k,none⟩ u).ownsRow base e sz (.slice (some ⟨a,o,none⟩) n cap) n (xs.set k u):=by
 obtain⟨h1,h2⟩:=h
 refine⟨by rw[List.length_set];exact h1,?_⟩
 rcases h2 with⟨h2,-⟩|⟨g,cap',cur,hv,hg,hh,hn,hc,hs,ht⟩
 ·cases h2
 ·cases hv
  rw[Nat.zero_add]
  refine .inr ⟨a,cap,cur.setIfInBounds k u,rfl,hg,heap_setCell hh u,hn,hc,by rw[Array.size_setIfInBounds];exact hs,?_⟩
  rw[Array.toList_setIfInBounds,List.take_set,ht]
theorem own_heap {w:World} {base:Nat} {e:TypeId} {sz a o n cap:Nat} {xs:List Value} (h:w.ownsRow base e sz (.slice (some ⟨a,o,none⟩) n cap) n xs):base≤a∧o=0∧ ∃cur,w.heap[a]? =some (.cells cur e)∧ ∀q,q<n*sz→ ∃x,cur[q]? =some x:=by
 rcases h.2 with⟨h2,-⟩|⟨g,cap',cur,hv,hg,hh,hn,hc,hs,ht⟩
 ·cases h2
 ·cases hv
  refine⟨hg,rfl,cur,hh,fun q hq=> ?_⟩
  have :n*sz≤cap*sz:=Nat.mul_le_mul_right _ hn
  exact⟨_,Array.getElem?_eq_getElem (by omega)⟩
theorem ModAt.put {w:World} {pb mb base a o l cap:Nat} {tv gv:Value} {pages:Int} {funcs:List (List UInt8×List UInt8)} {globs:List (UInt8×UInt8×Nat)} (h:ModAt w pb mb base tv (.slice (some ⟨a,o,none⟩) l cap) gv pages funcs globs) {q:Nat} (hq:q%4=2∨q%4=3) (u:Value):ModAt (w.setCell ⟨a,o+q,none⟩ u) pb mb base tv (.slice (some ⟨a,o,none⟩) l cap) gv pages funcs globs:=by
 obtain⟨cells,ho,hc⟩:=h.fown
 obtain⟨ad',cap',hsh⟩:=own_shape ho
 have hl:l=funcs.length:=by cases hsh;rfl
 subst hl
 have k:Kp (one a) w (w.setCell ⟨a,o+q,none⟩ u):=(Kp.refl _ _).set1 _ _
 refine⟨h.ne,k.blk h.blk (fun e=>h.fmb (by rw[show mb=a from e];rfl)),⟨cells.set q u,own_set ho u,fun j x hj=> ?_⟩,h.fsep,h.fmb,⟨h.gat.sep,?_⟩,h.gsep,h.funL,h.funLL,h.gloL⟩
 ·obtain⟨pv,rv,h1,h2,h3,h4,h5,h6,h7,h10⟩:=hc j x hj
  have hz:=k.size
  obtain⟨h8,h9⟩:=h7 a rfl
  exact⟨pv,rv,by rw[List.getElem?_set_ne (by omega)];exact h1,by rw[List.getElem?_set_ne (by omega)];exact h2,h3.kp k (fun b hb e=>h8 (by rw[hb,show b=a from e])),h4,h5.kp k (fun b hb e=>h9 (by rw[hb,show b=a from e])),h6,h7,fun b hb=>by have :=h10 b hb;omega⟩
 ·obtain⟨gc,hg,hgc⟩:=h.gat.row
  exact⟨gc,hg.kp k (fun b hb e=>h.gsep a rfl (by rw[hb,show b=a from e])),hgc⟩
theorem PSt.other {w w':World} {pb a:Nat} {E:PE} {σ:PS} (h:PSt w pb E σ) (k:Kp (one a) w w') (hne:a≠pb) (hb:bvB E.b E.data≠some a):PSt w' pb E σ:=
 ⟨fun i hh=>⟨(h.ok i hh).1,k.blk (h.ok i hh).2 (fun e=>hne e.symm)⟩,fun e q he=>by
  obtain⟨h0,i,hi,hbb⟩:=h.bad e q he
  exact⟨h0,i,hi,k.blk hbb (fun e=>hne e.symm)⟩,h.bytes.kp k (fun b hb2 e=>hb (by rw[hb2,show b=a from e])),h.low,h.len,h.en⟩

theorem body_main {w:World} {pb mb base:Nat} {E:PE} {i j n:Nat} {tv fv gv:Value} {pages:Int} {funcs:List (List UInt8×List UInt8)} {globs:List (UInt8×UInt8×Nat)} (h:PSt w pb E (.ok i)) (hen:E.en=E.data.length) (hM:ModAt w pb mb base tv fv gv pages funcs globs) (hm:E.m=ptr mb)
  (hu:uM E 2000 (.ok i)=(n,.ok j)) (hle:j+n≤E.data.length) (f:Nat) {typ:List UInt8×List UInt8} (hf:funcs[f]? =some typ) (hbp:pb<base):
  Calls Tryz.prog 119 #[ptr pb,.int .i64 f] w fun r w'=>r= .returned (.tuple #[])∧ ∃loc,PSt w' pb {E with loc:=loc,d:=0} (bodyR E funcs globs typ i)∧ModAt w' pb mb base tv fv gv pages funcs globs∧Kp (fun k=>k=pb∨fv.ownBlock=some k) w w':=by
 have hu1:=u_any h 2000
 rw[hu]at hu1
 have HU:=hide hu1
 obtain⟨hi,hb⟩:=h.ok i rfl
 obtain⟨hc,-⟩:=cells_of hb
 have hlen:=h.len
 have HS:=hide h
 have hbs:=h.bytes
 obtain⟨ad,cap,hbv,_⟩:=hbs.shape
 have HM:=hide hM
 have hfl:f<funcs.length:=by
  rcases Nat.lt_or_ge f funcs.length with h1|h1
  ·exact h1
  ·rw[List.getElem?_eq_none h1]at hf;cases hf
 have hfl16:=hM.funL
 have htl:=(hM.funLL typ (List.mem_of_getElem? hf)).1
 have hwr:wrap64 (32 - (typ.1.length:Int))=32 - (typ.1.length:Int):=by unfold wrap64;omega
 have Hf:=hide hf
 have Hu:=hide hu
 have Hbs:=hide hbs
 clear hu1 hb h hbs hM hf hu
 go_enter Tryz.func119,Tryz.ntmps119
 go_wp2_with fail
 refine HU.out.mono ?_
 rintro e w1 ⟨rfl,h1,k1⟩
 obtain⟨hj,hb1⟩:=h1.ok j rfl
 obtain⟨hc1,hf1⟩:=cells_of hb1
 have H1:=hide h1
 have hM1:=HM.out.kp k1
 have HM1:=hide hM1
 obtain⟨hcm,hfm⟩:=cells_of hM1.blk
 obtain⟨cells,hown,hcells⟩:=hM1.fown
 obtain⟨pv,rv,hq1,hq2,hq3,hq4,hq5,hq6,hq7,-⟩:=hcells f typ Hf.out
 have HQ3:=hide hq3
 have HQ5:=hide hq5
 obtain⟨a0,o0,cap0,hv0,_,hcell1⟩:=(RowAt.own hown).get hq1
 obtain⟨a0',o0',cap0',hv0',_,hcell2⟩:=(RowAt.own hown).get hq2
 have hcl:=hown.1
 subst hv0
 cases hv0'
 rw[←Nat.add_assoc]at hcell2
 have hafp:a0≠pb:=fun e=>hM1.fsep a0 rfl e
 have hafm:a0≠mb:=fun e=>hM1.fmb (by rw[←e];rfl)
 have Hown:=hide hown
 obtain⟨adp,capp,rfl,_⟩:=hq3.shape
 obtain⟨adr,capr,rfl,_⟩:=hq5.shape
 have hmne:=hM1.ne
 rw[hbv,hm]at hc1
 have HB1:=hide hb1
 clear h1 hb1 hM1 hown hcells hq3 hq5 hq7 hq1 hq2
 go_wp2
 go_quiet(fail)
 go_wp2_with fail
 refine(bad_any (H1.out.keep ((Kp.refl no _).drewN _) (fun _ _ h=>h))).mono ?_
 rintro e w3 ⟨rfl,rfl⟩
 go_wp2_with fail
 refine(u_any (E:={E with en:=j+n}) (PSt.turn H1.out rfl rfl ((((Kp.refl (one pb) w1).drewN _).set1 _ _).alloc _) hle (fun q hq=>by cases hq;show j≤j+n;omega) (fun q e p hb=>by exact heap_alloc_old (heap_setCell (w:=w1.drewN _) (o:=3) hb _))) _).mono ?_
 rintro e w2 ⟨rfl,h2,k2⟩
 have kW:Kp (one pb) w1 w2:=((((Kp.refl (one pb) w1).drewN _).set1 _ _).alloc _).trans k2
 have hpb1:=H1.out.lt
 have htb:w2.heap[w1.heap.size]? =some (.cells #[.slice adp typ.1.length capp,.slice adr typ.2.length capr] 190):=by
  refine k2.blk (heap_alloc_at _ ?_) (by unfold one;omega)
  simp
 obtain⟨hct,hft⟩:=cells_of htb
 have H2:=hide h2
 have hkl:((uM {E with en:=j+n} (32 - (typ.1.length:Int)) (.ok j)).1:Int)≤32:=by
  cases hb:badM (uM {E with en:=j+n} (32 - (typ.1.length:Int)) (.ok j)).2 with
  |false=>have :=u_le {E with en:=j+n} (32 - (typ.1.length:Int)) (.ok j) hb;omega
  |true=>
   have :(uM {E with en:=j+n} (32 - (typ.1.length:Int)) (.ok j)).1=0:=by
    unfold uM at hb⊢
    simp only at hb⊢
    split
    ·rfl
    ·split
     ·rfl
     ·rename_i h1 h2
      rw[if_neg h1,if_neg h2]at hb
      exact absurd hb h1
   omega
 obtain⟨kk,hkk⟩: ∃kk,kk=uM {E with en:=j+n} (32 - (typ.1.length:Int)) (.ok j):=⟨_,rfl⟩
 have HKK:=hide hkk
 rw[←hkk]at hkl
 have H2':Hid (PSt w2 pb {E with en:=j+n} kk.2):=hide (by rw[hkk];exact H2.out)
 clear h2 H2
 rw[←hkk]
 clear hkk
 go_wp2_with fail
 refine(types_any H2'.out kk.1 (by omega)).mono ?_
 rintro e w3 ⟨mv,rfl,hm3,hmn,h3,k3⟩
 obtain⟨i3,err3,pl3,hi3,hb3,hp3,-⟩:=h3.obj
 obtain⟨hc3,hf3⟩:=cells_of hb3
 have ht3:=k3.blk htb (show ¬one pb w1.heap.size by unfold one;omega)
 obtain⟨hct3,hft3⟩:=cells_of ht3
 have H3:=hide h3
 have HB3:=hide hb3
 have HT3:=hide ht3
 have HM3:=hide hm3
 have HMN:=hide hmn
 have hsz3:=k3.size
 have hsz2:=kW.size
 have ht3n:w1.heap.size≠pb:=by omega
 clear h3 hb3 ht3 hm3 hmn hct hft htb hcm hfm hc1 hf1
 go_wp2_with fail
 have hbW:=heap_setCell (o:=6) HB3.out (.slice none 0 0)
 have htW:=heap_setCell_ne (b:=pb) (o:=6) ht3n (.slice none 0 0) HT3.out
 have kW3:Kp (one pb) w3 (w3.setCell ⟨pb,6,none⟩ (.slice none 0 0)):=(Kp.refl _ _).set1 _ _
 generalize w3.setCell ⟨pb,6,none⟩ (.slice none 0 0)=W3 at *
 have hbW':W3.heap[pb]? =some (PE.obj {E with en:=j+n,loc:= .slice none 0 0} i3 err3 pl3):=hbW
 obtain⟨S,hSd⟩: ∃S:World→Prop,S=fun w'=>(∀q,w'.cell? ⟨pb,q,none⟩= #[E.m,E.b,.int .i64 i3,.int .i64 ((j+n:Nat):Int),.int .i64 err3,.int .i64 pl3,.slice none 0 0,.int .i64 E.d][q]?)∧(∀q,w'.cell? ⟨w1.heap.size,q,none⟩= #[Value.slice adp typ.1.length capp,.slice adr typ.2.length capr][q]?):=⟨_,rfl⟩
 have hSk: ∀W,Kp no W3 W→S W:=fun W k=>by
  rw[hSd];exact⟨(cells_of (k.blk hbW' (fun h=>h))).1,(cells_of (k.blk htW (fun h=>h))).1⟩
 have hkf: ∀W,Kp no W3 W→ ∀q,W.frozen? ⟨pb,q,none⟩=false:=fun W k q=>(cells_of (k.blk hbW' (fun h=>h))).2 q
 have HSk:=hide hSk
 have HSd:=hide hSd
 have HKF:=hide hkf
 have HBW:=hide hbW'
 have HTW:=hide htW
 obtain⟨j1,hj1,hy0,hy1,hy2⟩:=info_u8'
 have hpar: ∀W,Kp no W3 W→BytesAt W (.slice adp typ.1.length capp) typ.1:=fun W k=>((HQ3.out.one hq4 kW).one hq4 k3|>.one hq4 kW3).kp k (fun _ _ h=>h)
 have HPar:=hide hpar
 clear hSk hSd hkf hbW hbW' htW hpar hc3 hf3 hct3 hft3
 refine wp_region_S 10 (S) (by kernel_rfl) (n:=11) rfl rfl ?hS (fun hS=> ?_)
 case hS=>exact HSk.out _ ((Kp.refl _ _).drew)
 have hSd:=HSd.out
 subst hSd
 refine tk 0 [] rfl (by kernel_rfl) rfl (fun _ _ _ h=>h) hS (fun _ h=>by(try dsimp only at h);go_simp;all_goals with_reducible rfl) ?_
 simp only[pS]
 refine tk 1 [] rfl (by kernel_rfl) rfl (fun _ _ _ h=>h) hS (fun _ h=>by(try dsimp only at h);go_simp;all_goals with_reducible rfl) ?_
 simp only[pS]
 refine tk 2 [] rfl (by kernel_rfl) rfl (fun _ _ _ h=>h) hS (fun _ h=>by(try dsimp only at h);go_simp;all_goals with_reducible rfl) ?_
 simp only[pS]
 refine tk 3 [] rfl (by kernel_rfl) rfl (fun _ _ _ h=>h) hS (fun _ h=>by(try dsimp only at h);go_simp;all_goals with_reducible rfl) ?_
 simp only[pS]
 refine tk 4 [] rfl (by kernel_rfl) rfl (fun _ _ _ h=>h) hS (fun _ h=>by(try dsimp only at h);go_simp;all_goals with_reducible rfl) ?_
 simp only[pS]
 refine tk 5 [] rfl (by kernel_rfl) rfl (fun _ _ _ h=>h) hS (fun _ h=>by(try dsimp only at h);go_simp;all_goals with_reducible rfl) ?_
 simp only[pS]
 refine tk 6 [] rfl (by kernel_rfl) rfl (fun _ _ _ h=>h) hS (fun _ h=>by(try dsimp only at h);go_simp;all_goals with_reducible rfl) ?_
 simp only[pS]
 refine wpAnyS_one 7 rfl (by kernel_rfl) rfl (fun K hK=> ?_)
 refine step_append_at _ (by rfl) _ _ _ (by rfl) W3.heap.size 5 j1 _ 1 1 Tryz.underlying25 hj1 hy0 hy1 hy2 rfl (by omega) _ 0 [] (by rfl) (World.ownsRow_nil _ _ _ _) (.slice adp typ.1.length capp) typ.1.length (byteVals typ.1) (by rfl) (HPar.out _ ((Kp.refl _ _).drew)) (bytes_oneCell _) ?c3 ?c4 ?c5 ?_
 case c3=>unfold maxLen;omega
 case c4=>omega
 case c5=>exact Nat.le_refl _
 intro v5 w5 hown5 hgrow5 hat5
 rw[Nat.zero_add,List.nil_append]at hown5
 have k5:Kp no W3 w5:=((Kp.refl _ _).drew).grown hgrow5 (fun k e=>by cases e)
 have hkf:=HKF.out _ k5
 refine hK _ _ (HSk.out _ k5) (fun hS=> ?_)
 clear hK K
 obtain⟨ad5,cap5,rfl⟩:=own_shape hown5
 refine tk 8 [9] rfl (by kernel_rfl) rfl (fun _ _ _ h=>h) hS (fun _ h=>by(try dsimp only at h);go_simp;all_goals with_reducible rfl) ?_
 simp only[pS]
 refine tk 9 [] rfl (by kernel_rfl) rfl (fun _ _ _ h=>h) hS (fun _ h=>by(try dsimp only at h);go_simp;all_goals with_reducible rfl) ?_
 simp only[pS]
 refine wpAnyS_end 10 rfl (by kernel_rfl) rfl (by kernel_rfl) (fun K hK=> ?_)
 go_simp
 refine hK _ _ ?_
 clear hK K
 refine wpAnyS_done (by kernel_rfl) ?_ _
 have hb5:=k5.blk HBW.out (fun h=>h)
 have ht5:=k5.blk HTW.out (fun h=>h)
 have hb6:=heap_setCell (o:=6) hb5 (.slice ad5 typ.1.length cap5)
 have ht6:=heap_setCell_ne (b:=pb) (o:=6) ht3n (.slice ad5 typ.1.length cap5) ht5
 have hnew5:=own_new hown5
 have hpb5:pb<W3.heap.size:=lt_of_blk HBW.out
 have hown6:(w5.setCell ⟨pb,6,none⟩ (.slice ad5 typ.1.length cap5)).ownsRow W3.heap.size 5 1 (.slice ad5 typ.1.length cap5) typ.1.length (byteVals typ.1):=((Kp.refl (one pb) w5).set1 _ _).own hown5 (fun b hb e=>by have :=hnew5 b hb;unfold one at e;omega)
 have k6:Kp (one pb) W3 (w5.setCell ⟨pb,6,none⟩ (.slice ad5 typ.1.length cap5)):=k5.any.set1 _ _
 generalize w5.setCell ⟨pb,6,none⟩ (.slice ad5 typ.1.length cap5)=w6 at *
 obtain⟨hc6,hf6⟩:=cells_of hb6
 obtain⟨hct6,hft6⟩:=cells_of ht6
 obtain⟨adm,capm,rfl,_⟩:=HM3.out.shape
 have hmore:BytesAt w6 (.slice adm (typesM {E with en:=j+n} kk.1 kk.2).1.length capm) (typesM {E with en:=j+n} kk.1 kk.2).1:=HM3.out.kp (kW3.trans k6) (fun b hb e=>by have :=HMN.out b hb;unfold one at e;omega)
 have HMO:=hide hmore
 have HO6:=hide hown6
 have HB6:=hide hb6
 have HT6:=hide ht6
 clear hmore hown6 hb6 ht6 hb5 ht5 hown5 hgrow5 hat5 hkf hS
 obtain⟨mo,hmo⟩: ∃mo,mo=typesM {E with en:=j+n} kk.1 kk.2:=⟨_,rfl⟩
 have hml:mo.1.length≤32:=by
  have :=types_len {E with en:=j+n} kk.1 [] kk.2
  rw[hmo]
  show(typesGo {E with en:=j+n} kk.1 [] kk.2).1.length≤32
  simp only[List.length_nil]at this
  omega
 have H3':Hid (PSt w3 pb {E with en:=j+n} mo.2):=hide (by rw[hmo];exact H3.out)
 have HMO':Hid (BytesAt w6 (.slice adm mo.1.length capm) mo.1):=hide (by rw[hmo];exact HMO.out)
 have HMoE:=hide hmo
 rw[←hmo]
 clear hmo H3 HMO HM3
 go_wp2_with(at_builtin;refine wpList_append_row _ rfl _ _ 25 rfl W3.heap.size 5 j1 (.int .u8 0) 1 1 Tryz.underlying25 hj1 hy0 hy1 hy2 rfl (by decide) _ _ _ rfl HO6.out _ mo.1.length (byteVals mo.1) rfl HMO'.out (bytes_oneCell _) ?d3 ?d4 ?d5 ?_)
 case d3=>unfold maxLen;omega
 case d4=>omega
 case d5=>exact k6.size
 intro v7 w7 hown7 hgrow7
 have k7:Kp (fun k=>W3.heap.size≤k) w6 w7:=(Kp.refl (fun k=>W3.heap.size≤k) w6).grown hgrow7 (fun k hk=> .inl (own_new HO6.out k hk))
 obtain⟨ad7,cap7,rfl⟩:=own_shape hown7
 have htlt:w1.heap.size<W3.heap.size:=lt_of_blk HTW.out
 have hb7:=k7.blk HB6.out (by omega)
 have ht7:=k7.blk HT6.out (by omega)
 obtain⟨hc7,hf7⟩:=cells_of hb7
 obtain⟨hct7,hft7⟩:=cells_of ht7
 have HB7:=hide hb7
 have HT7:=hide ht7
 have HO7:=hide hown7
 have K7:=hide k7
 clear hb7 ht7 hown7 hgrow7 k7 hc6 hf6 hct6 hft6
 go_wp2_with fail
 obtain⟨W9,hW9⟩: ∃W9:World,W9=(((w7.setCell ⟨pb,6,none⟩ (.slice ad7 (typ.1.length+mo.1.length) cap7)).setCell ⟨pb,7,none⟩ (.int .i64 0)).alloc (.cells #[.slice adr typ.2.length capr] 25)):=⟨_,rfl⟩
 have htl2:=(HM1.out.funLL typ (List.mem_of_getElem? Hf.out)).2
 have hszW:=kW3.size
 have k39:Kp (one pb) w3 W9:=by
  rw[hW9]
  exact((((kW3.trans (k6.comp K7.out (fun _ _ h=>h) (fun k hk h=>by omega)))).set1 _ _).set1 _ _).alloc _
 have hb9:W9.heap[pb]? =some (PE.obj {E with en:=j+n,loc:= .slice ad7 (typ.1.length+mo.1.length) cap7,d:=0} i3 err3 pl3):=by
  rw[hW9]
  exact heap_alloc_old (heap_setCell (heap_setCell HB7.out _) _)
 have k19:Kp (one pb) w1 W9:=(kW.trans k3).trans k39
 have hres:BytesAt W9 (.slice adr typ.2.length capr) typ.2:=HQ5.out.one hq6 k19
 have h9:PSt W9 pb {E with en:=j+n,loc:= .slice ad7 (typ.1.length+mo.1.length) cap7,d:=0} mo.2:=PSt.turn H3'.out rfl rfl k39 hle (fun q hq=>(H3'.out.ok q hq).1) (fun q e p hb=>by
  have :=HB3.out.symm.trans hb
  simp at this
  obtain⟨e1,e2,e3⟩:=this
  rw[hb9,e2,e3,show(i3:Int)=q from by rw[e1]])
 have hloc:BytesAt W9 (.slice ad7 (typ.1.length+mo.1.length) cap7) (typ.1++mo.1):=by
  have h1:BytesAt w7 (.slice ad7 (typ.1.length+mo.1.length) cap7) (typ.1++mo.1):=by
   have :=RowAt.own HO7.out
   unfold BytesAt byteVals at *
   rw[List.map_append,List.length_append]
   exact this
  refine h1.kp (S:=one pb) ?_ (fun b hb e=>by have :=own_new HO7.out b hb;unfold one at e;omega)
  rw[hW9]
  exact(((Kp.refl _ _).set1 _ _).set1 _ _).alloc _
 have hpre:BlkPre W9 pb {E with en:=j+n,loc:= .slice ad7 (typ.1.length+mo.1.length) cap7,d:=0} ⟨typ.1++mo.1,funcs,globs⟩ [typ.2] typ.2 (.slice (some ⟨w7.heap.size,0,none⟩) 1 1) (.slice adr typ.2.length capr):=by
  refine⟨(HM1.out.kp k19).env hm hloc (fun b hb e=>by have :=own_new HO7.out b hb;omega) (by rw[List.length_append];omega),⟨?_,[.slice adr typ.2.length capr],?_,?_⟩,?_,hres,hq6,by omega,Int.le_refl _,by show(0:Int)≤16;decide,rfl⟩
  ·intro b hb
   cases hb
   have :=K7.out.size
   have :=k6.size
   show w7.heap.size≠pb
   omega
  ·have :=RowAt.new ((w7.setCell ⟨pb,6,none⟩ (.slice ad7 (typ.1.length+mo.1.length) cap7)).setCell ⟨pb,7,none⟩ (.int .i64 0)) (.slice adr typ.2.length capr) 25
   rw[←hW9]at this
   simpa using this
  ·intro k l hk
   match k,hk with
   |0,hk=>cases hk;exact⟨_,rfl,hres,hq6⟩
  ·intro l hl
   rw[List.mem_singleton]at hl
   rw[hl]
   omega
 have Hpre:=hide hpre
 have H9:=hide h9
 have HHW:=hide hW9
 have Hloc:=hide hloc
 rw[←hW9]
 clear hb9 hpre h9 hW9 hres hloc hc7 hf7 hct7 hft7
 refine(block_all 2000 W9 pb {E with en:=j+n,loc:= .slice ad7 (typ.1.length+mo.1.length) cap7,d:=0} ⟨typ.1++mo.1,funcs,globs⟩ [typ.2] typ.2 _ _ false mo.2 2001 Hpre.out H9.out (left_le H9.out) (by have :=left_le H9.out;omega)).mono ?_
 rintro r w10 ⟨ba,bl,bc,rfl,h10,k10⟩
 obtain⟨B,hB⟩: ∃B,B=blk ⟨typ.1++mo.1,funcs,globs⟩ 2001 {E with en:=j+n,loc:= .slice ad7 (typ.1.length+mo.1.length) cap7,d:=0} [typ.2] typ.2 false [] false mo.2:=⟨_,rfl⟩
 have HBB:=hide hB
 rw[←hB]at h10⊢
 have H10:=hide h10
 obtain⟨i10,err10,pl10,hi10,hb10,hp10,-⟩:=h10.obj
 obtain⟨hc10,hf10⟩:=cells_of hb10
 have HB10:=hide hb10
 have Hp10:=hide hp10
 clear hB h10 hb10 hp10
 rw[hm]at hc10
 obtain⟨σF,hσF⟩: ∃σF:PS,σF=if (i10:Int)<((j+n:Nat):Int)then failM 2 i10 B.2 else B.2:=⟨_,rfl⟩
 have hR:σF=bodyR E funcs globs typ i:=by
  unfold bodyR
  rw[Hu.out]
  simp only
  rw[if_neg (by omega),←HKK.out,←HMoE.out]
  have hBB:(blk ⟨typ.1++mo.1,funcs,globs⟩ 2001 {E with en:=j+n,d:=0} [typ.2] typ.2 false [] false mo.2)=B:=by
   rw[HBB.out]
   rw[Al.blk (E':={E with en:=j+n,loc:= .slice ad7 (typ.1.length+mo.1.length) cap7,d:=0}) (E:={E with en:=j+n,d:=0}) _ _ ⟨rfl,rfl⟩ rfl]
  rw[hBB,hσF]
  have hp:=Hp10.out
  cases hB2:B.2 with
  |error e=>split <;>rfl
  |ok q=>
   rw[hB2]at hp
   have hq:(i10:Int)=q:=by
    rcases hp with h|h
    ·exact h
    ·cases h
   have hq':i10=q:=by omega
   subst hq'
   simp only
   by_cases hh:i10<j+n
   ·rw[if_pos hh,if_pos (by omega)];rfl
   ·rw[if_neg hh,if_neg (by omega)]
 have HR:=hide hR
 clear hR
 by_cases hlt:(i10:Int)<((j+n:Nat):Int)
 case pos=>
  have HF:Hid (failM 2 i10 B.2=σF):=hide (by rw[hσF,if_pos hlt])
  clear hσF
  go_wp2_with fail
  go_quiet(fail)
  go_wp2_with fail
  refine(fail_any (H10.out.keep ((Kp.refl no _).drewN _) (fun _ _ h=>h)) _ _ (by decide)).mono ?_
  rintro e w11 ⟨rfl,h11,k11'⟩
  have k11:Kp (one pb) w10 w11:=((Kp.refl (one pb) _).drewN _).trans k11'
  rw[HF.out]at h11
  clear k11'
  clear HF hc10 hf10
  obtain⟨i11,err11,pl11,hi11,hb11,-,-⟩:=h11.obj
  have H11:=hide h11
  have hM11:=HM1.out.kp (k19.trans (k10.trans k11))
  have HM11:=hide hM11
  obtain⟨cells',hown',-⟩:=hM11.fown
  obtain⟨hba,ho0,cur,hcur,hcurx⟩:=own_heap hown'
  obtain⟨c2,hc2⟩:=hcurx (f*4+2) (by omega)
  obtain⟨c3,hc3⟩:=hcurx (f*4+3) (by omega)
  have hcm11:=hM11.blk
  have HC2:=hide hc2
  have HC3:=hide hc3
  have HCU:=hide hcur
  have HBk:=hide hb11
  have HMk:=hide hcm11
  have Ho0:=hide ho0
  clear h11 hM11 hown' hcur hcurx hc2 hc3 hb11 hcm11 ho0
  go_wp2_with fail
  obtain⟨S,hSd⟩: ∃S:World→Prop,S=fun w'=>(∀q,w'.cell? ⟨pb,q,none⟩= #[ptr mb,E.b,.int .i64 i11,.int .i64 ((j+n:Nat):Int),.int .i64 err11,.int .i64 pl11,.slice ad7 (typ.1.length+mo.1.length) cap7,.int .i64 0][q]?)∧(∀q,w'.cell? ⟨mb,q,none⟩= #[tv,.slice (some ⟨a0,o0,none⟩) funcs.length cap0,gv,.int .i64 pages][q]?)∧w'.cell? ⟨a0,o0+f*4+2,none⟩=some c2∧w'.frozen? ⟨a0,o0+f*4+2,none⟩=false:=⟨_,rfl⟩
  have hSk: ∀W,Kp no w11 W→S W:=fun W k=>by
   rw[hSd]
   refine⟨?_,(cells_of (k.blk HMk.out (fun h=>h))).1,?_,(cells_of (k.blk HCU.out (fun h=>h))).2 _⟩
   ·rw[←hm];exact(cells_of (k.blk HBk.out (fun h=>h))).1
   ·rw[(cells_of (k.blk HCU.out (fun h=>h))).1,Ho0.out,Nat.zero_add];exact HC2.out
  have HSk2:=hide hSk
  have HSd2:=hide hSd
  clear hSk hSd
  refine wp_region_S 14 (S) (by kernel_rfl) (n:=15) rfl rfl ?hS (fun hS=> ?_)
  case hS=>exact HSk2.out _ ((Kp.refl _ _).drew)
  have hSd:=HSd2.out
  subst hSd
  refine tk 0 [] rfl (by kernel_rfl) rfl (fun _ _ _ h=>h) hS (fun _ h=>by(try dsimp only at h);go_simp;all_goals with_reducible rfl) ?_
  simp only[pS]
  refine tk 1 [] rfl (by kernel_rfl) rfl (fun _ _ _ h=>h) hS (fun _ h=>by(try dsimp only at h);go_simp;all_goals with_reducible rfl) ?_
  simp only[pS]
  refine tk 2 [] rfl (by kernel_rfl) rfl (fun _ _ _ h=>h) hS (fun _ h=>by(try dsimp only at h);go_simp;all_goals with_reducible rfl) ?_
  simp only[pS]
  refine tk 3 [] rfl (by kernel_rfl) rfl (fun _ _ _ h=>h) hS (fun _ h=>by(try dsimp only at h);go_simp;all_goals with_reducible rfl) ?_
  simp only[pS]
  refine tk 4 [] rfl (by kernel_rfl) rfl (fun _ _ _ h=>h) hS (fun _ h=>by(try dsimp only at h);go_simp;all_goals with_reducible rfl) ?_
  simp only[pS]
  refine tk 5 [] rfl (by kernel_rfl) rfl (fun _ _ _ h=>h) hS (fun _ h=>by(try dsimp only at h);go_simp;all_goals with_reducible rfl) ?_
  simp only[pS]
  refine tk 6 [] rfl (by kernel_rfl) rfl (fun _ _ _ h=>h) hS (fun _ h=>by(try dsimp only at h);go_simp;all_goals with_reducible rfl) ?_
  simp only[pS]
  refine tk 7 [] rfl (by kernel_rfl) rfl (fun _ _ _ h=>h) hS (fun _ h=>by(try dsimp only at h);go_simp;all_goals with_reducible rfl) ?_
  simp only[pS]
  refine tk 8 [] rfl (by kernel_rfl) rfl (fun _ _ _ h=>h) hS (fun _ h=>by(try dsimp only at h);go_simp;all_goals with_reducible rfl) ?_
  simp only[pS]
  refine tk 9 [] rfl (by kernel_rfl) rfl (fun _ _ _ h=>h) hS (fun _ h=>by(try dsimp only at h);go_simp;all_goals with_reducible rfl) ?_
  simp only[pS]
  refine tk 10 [] rfl (by kernel_rfl) rfl (fun _ _ _ h=>h) hS (fun _ h=>by(try dsimp only at h);go_simp;all_goals with_reducible rfl) ?_
  simp only[pS]
  refine tk 11 [] rfl (by kernel_rfl) rfl (fun _ _ _ h=>h) hS (fun _ h=>by(try dsimp only at h);go_simp;all_goals with_reducible rfl) ?_
  simp only[pS]
  refine tk 12 [13] rfl (by kernel_rfl) rfl (fun _ _ _ h=>h) hS (fun _ h=>by(try dsimp only at h);go_simp;all_goals with_reducible rfl) ?_
  simp only[pS]
  refine tk 13 [] rfl (by kernel_rfl) rfl (fun _ _ _ h=>h) hS (fun _ h=>by(try dsimp only at h);go_simp;all_goals with_reducible rfl) ?_
  simp only[pS]
  refine wpAnyS_end 14 rfl (by kernel_rfl) rfl (by kernel_rfl) (fun K hK=> ?_)
  go_simp
  refine hK _ _ ?_
  clear hK K
  refine wpAnyS_done (by kernel_rfl) ?_ _
  have hbn:bvB E.b E.data≠some a0:=fun e=>by have :=HS.out.low a0 e;omega
  have k12:Kp (one a0) w11 ((w11.setCell ⟨a0,o0+f*4+2,none⟩ (.slice ad7 (typ.1.length+mo.1.length) cap7)).drew):=((Kp.refl _ _).set1 _ _).drew
  have hM12:ModAt ((w11.setCell ⟨a0,o0+f*4+2,none⟩ (.slice ad7 (typ.1.length+mo.1.length) cap7)).drew) pb mb base tv (.slice (some ⟨a0,o0,none⟩) funcs.length cap0) gv pages funcs globs:=by
   rw[Nat.add_assoc]
   exact(HM11.out.put (q:=f*4+2) (by omega) _).kp ((Kp.refl _ _).drew)
  have h12:=H11.out.other k12 hafp hbn
  have hb12:=k12.blk HBk.out (fun e=>hafp e.symm)
  generalize(w11.setCell ⟨a0,o0+f*4+2,none⟩ (.slice ad7 (typ.1.length+mo.1.length) cap7)).drew=w12 at *
  obtain⟨cells2,hown2,-⟩:=hM12.fown
  obtain⟨-,-,cur2,hcur2,hcurx2⟩:=own_heap hown2
  obtain⟨d3,hd3⟩:=hcurx2 (f*4+3) (by omega)
  obtain⟨hc12,hf12⟩:=cells_of hb12
  obtain⟨hcm12,hfm12⟩:=cells_of hM12.blk
  have hx3:w12.cell? ⟨a0,o0+f*4+3,none⟩=some d3:=by rw[(cells_of hcur2).1,Ho0.out,Nat.zero_add];exact hd3
  have hy3:w12.frozen? ⟨a0,o0+f*4+3,none⟩=false:=(cells_of hcur2).2 _
  have HM12:=hide hM12
  have H12:=hide h12
  have HB12:=hide hb12
  have HHb:=hide hbn
  have K1:=hide k1
  have K12:=hide ((k19.trans k10).trans k11)
  have KS:=hide k12
  rw[hm,hbv]at hc12
  have Hbv:=hide hbv
  clear hM12 h12 hb12 hown2 hcur2 hcurx2 hd3 hbn k12 hbv k1 k19 k10 k11
  go_wp2_with fail
  first |go_end0|(refine bodyPost_ret (v:= .tuple #[]) (by simp[results,Tryz.results119,go_sem]) rfl ?_)
  have hM13:=HM12.out.put (q:=f*4+3) (by omega) (.slice ba bl bc)
  rw[←Nat.add_assoc]at hM13
  have k13:Kp (one a0) w12 (w12.setCell ⟨a0,o0+f*4+3,none⟩ (.slice ba bl bc)):=(Kp.refl _ _).set1 _ _
  have h13:=H12.out.other k13 hafp HHb.out
  rw[HR.out]at h13
  have kE:Kp (one pb) (w12.setCell ⟨a0,o0+f*4+3,none⟩ (.slice ba bl bc)) ((w12.setCell ⟨a0,o0+f*4+3,none⟩ (.slice ba bl bc)).setCell ⟨pb,3,none⟩ (.int .i64 E.data.length)):=(Kp.refl _ _).set1 _ _
  have hfin:PSt ((w12.setCell ⟨a0,o0+f*4+3,none⟩ (.slice ba bl bc)).setCell ⟨pb,3,none⟩ (.int .i64 E.data.length)) pb {E with loc:= .slice ad7 (typ.1.length+mo.1.length) cap7,d:=0} (bodyR E funcs globs typ i):=by
   refine PSt.turn h13 rfl rfl kE (by show E.en≤E.data.length;omega) (fun q hq=>by have :=(h13.ok q hq).1;show q≤E.en;have h4:q≤j+n:=this;omega) (fun q e p hb=> ?_)
   have :=heap_setCell (o:=3) hb (.int .i64 E.data.length)
   rw[this]
   show some (Obj.cells _ _)=some (Obj.cells #[E.m,E.b,.int .i64 q,.int .i64 (E.en:Int),.int .i64 e,.int .i64 p,.slice ad7 (typ.1.length+mo.1.length) cap7,.int .i64 0] _)
   rw[hen]
   rfl
  rw[hm,hen]at hfin
  refine⟨rfl,⟨_,hfin⟩,hM13.kp kE,?_⟩
  refine Kp.trans ((K1.out.mono (fun k _ h=> .inl h)).trans (K12.out.mono (fun k _ h=> .inl h))) ?_
  exact((KS.out.mono (S':=fun k=>k=pb∨(Value.slice (some ⟨a0,o0,none⟩) funcs.length cap0).ownBlock=some k) (fun k _ h=> .inr (by rw[show k=a0 from h];rfl))).trans (k13.mono (fun k _ h=> .inr (by rw[show k=a0 from h];rfl)))).trans (kE.mono (fun k _ h=> .inl h))
 case neg=>
  have HF:Hid (B.2=σF):=hide (by rw[hσF,if_neg hlt])
  clear hσF
  go_wp2_with fail
  go_quiet(fail)
  have h11:=H10.out.keep ((Kp.refl no _).drewN nq) (fun _ _ h=>h)
  have k11:=((Kp.refl (one pb) w10).drewN nq)
  generalize w10.drewN nq=w11 at *
  rw[HF.out]at h11
  clear HF hc10 hf10
  obtain⟨i11,err11,pl11,hi11,hb11,-,-⟩:=h11.obj
  have H11:=hide h11
  have hM11:=HM1.out.kp (k19.trans (k10.trans k11))
  have HM11:=hide hM11
  obtain⟨cells',hown',-⟩:=hM11.fown
  obtain⟨hba,ho0,cur,hcur,hcurx⟩:=own_heap hown'
  obtain⟨c2,hc2⟩:=hcurx (f*4+2) (by omega)
  obtain⟨c3,hc3⟩:=hcurx (f*4+3) (by omega)
  have hcm11:=hM11.blk
  have HC2:=hide hc2
  have HC3:=hide hc3
  have HCU:=hide hcur
  have HBk:=hide hb11
  have HMk:=hide hcm11
  have Ho0:=hide ho0
  clear h11 hM11 hown' hcur hcurx hc2 hc3 hb11 hcm11 ho0
  go_wp2_with fail
  obtain⟨S,hSd⟩: ∃S:World→Prop,S=fun w'=>(∀q,w'.cell? ⟨pb,q,none⟩= #[ptr mb,E.b,.int .i64 i11,.int .i64 ((j+n:Nat):Int),.int .i64 err11,.int .i64 pl11,.slice ad7 (typ.1.length+mo.1.length) cap7,.int .i64 0][q]?)∧(∀q,w'.cell? ⟨mb,q,none⟩= #[tv,.slice (some ⟨a0,o0,none⟩) funcs.length cap0,gv,.int .i64 pages][q]?)∧w'.cell? ⟨a0,o0+f*4+2,none⟩=some c2∧w'.frozen? ⟨a0,o0+f*4+2,none⟩=false:=⟨_,rfl⟩
  have hSk: ∀W,Kp no w11 W→S W:=fun W k=>by
   rw[hSd]
   refine⟨?_,(cells_of (k.blk HMk.out (fun h=>h))).1,?_,(cells_of (k.blk HCU.out (fun h=>h))).2 _⟩
   ·rw[←hm];exact(cells_of (k.blk HBk.out (fun h=>h))).1
   ·rw[(cells_of (k.blk HCU.out (fun h=>h))).1,Ho0.out,Nat.zero_add];exact HC2.out
  have HSk2:=hide hSk
  have HSd2:=hide hSd
  clear hSk hSd
  refine wp_region_S 14 (S) (by kernel_rfl) (n:=15) rfl rfl ?hS (fun hS=> ?_)
  case hS=>exact HSk2.out _ ((Kp.refl _ _).drew)
  have hSd:=HSd2.out
  subst hSd
  refine tk 0 [] rfl (by kernel_rfl) rfl (fun _ _ _ h=>h) hS (fun _ h=>by(try dsimp only at h);go_simp;all_goals with_reducible rfl) ?_
  simp only[pS]
  refine tk 1 [] rfl (by kernel_rfl) rfl (fun _ _ _ h=>h) hS (fun _ h=>by(try dsimp only at h);go_simp;all_goals with_reducible rfl) ?_
  simp only[pS]
  refine tk 2 [] rfl (by kernel_rfl) rfl (fun _ _ _ h=>h) hS (fun _ h=>by(try dsimp only at h);go_simp;all_goals with_reducible rfl) ?_
  simp only[pS]
  refine tk 3 [] rfl (by kernel_rfl) rfl (fun _ _ _ h=>h) hS (fun _ h=>by(try dsimp only at h);go_simp;all_goals with_reducible rfl) ?_
  simp only[pS]
  refine tk 4 [] rfl (by kernel_rfl) rfl (fun _ _ _ h=>h) hS (fun _ h=>by(try dsimp only at h);go_simp;all_goals with_reducible rfl) ?_
  simp only[pS]
  refine tk 5 [] rfl (by kernel_rfl) rfl (fun _ _ _ h=>h) hS (fun _ h=>by(try dsimp only at h);go_simp;all_goals with_reducible rfl) ?_
  simp only[pS]
  refine tk 6 [] rfl (by kernel_rfl) rfl (fun _ _ _ h=>h) hS (fun _ h=>by(try dsimp only at h);go_simp;all_goals with_reducible rfl) ?_
  simp only[pS]
  refine tk 7 [] rfl (by kernel_rfl) rfl (fun _ _ _ h=>h) hS (fun _ h=>by(try dsimp only at h);go_simp;all_goals with_reducible rfl) ?_
  simp only[pS]
  refine tk 8 [] rfl (by kernel_rfl) rfl (fun _ _ _ h=>h) hS (fun _ h=>by(try dsimp only at h);go_simp;all_goals with_reducible rfl) ?_
  simp only[pS]
  refine tk 9 [] rfl (by kernel_rfl) rfl (fun _ _ _ h=>h) hS (fun _ h=>by(try dsimp only at h);go_simp;all_goals with_reducible rfl) ?_
  simp only[pS]
  refine tk 10 [] rfl (by kernel_rfl) rfl (fun _ _ _ h=>h) hS (fun _ h=>by(try dsimp only at h);go_simp;all_goals with_reducible rfl) ?_
  simp only[pS]
  refine tk 11 [] rfl (by kernel_rfl) rfl (fun _ _ _ h=>h) hS (fun _ h=>by(try dsimp only at h);go_simp;all_goals with_reducible rfl) ?_
  simp only[pS]
  refine tk 12 [13] rfl (by kernel_rfl) rfl (fun _ _ _ h=>h) hS (fun _ h=>by(try dsimp only at h);go_simp;all_goals with_reducible rfl) ?_
  simp only[pS]
  refine tk 13 [] rfl (by kernel_rfl) rfl (fun _ _ _ h=>h) hS (fun _ h=>by(try dsimp only at h);go_simp;all_goals with_reducible rfl) ?_
  simp only[pS]
  refine wpAnyS_end 14 rfl (by kernel_rfl) rfl (by kernel_rfl) (fun K hK=> ?_)
  go_simp
  refine hK _ _ ?_
  clear hK K
  refine wpAnyS_done (by kernel_rfl) ?_ _
  have hbn:bvB E.b E.data≠some a0:=fun e=>by have :=HS.out.low a0 e;omega
  have k12:Kp (one a0) w11 ((w11.setCell ⟨a0,o0+f*4+2,none⟩ (.slice ad7 (typ.1.length+mo.1.length) cap7)).drew):=((Kp.refl _ _).set1 _ _).drew
  have hM12:ModAt ((w11.setCell ⟨a0,o0+f*4+2,none⟩ (.slice ad7 (typ.1.length+mo.1.length) cap7)).drew) pb mb base tv (.slice (some ⟨a0,o0,none⟩) funcs.length cap0) gv pages funcs globs:=by
   rw[Nat.add_assoc]
   exact(HM11.out.put (q:=f*4+2) (by omega) _).kp ((Kp.refl _ _).drew)
  have h12:=H11.out.other k12 hafp hbn
  have hb12:=k12.blk HBk.out (fun e=>hafp e.symm)
  generalize(w11.setCell ⟨a0,o0+f*4+2,none⟩ (.slice ad7 (typ.1.length+mo.1.length) cap7)).drew=w12 at *
  obtain⟨cells2,hown2,-⟩:=hM12.fown
  obtain⟨-,-,cur2,hcur2,hcurx2⟩:=own_heap hown2
  obtain⟨d3,hd3⟩:=hcurx2 (f*4+3) (by omega)
  obtain⟨hc12,hf12⟩:=cells_of hb12
  obtain⟨hcm12,hfm12⟩:=cells_of hM12.blk
  have hx3:w12.cell? ⟨a0,o0+f*4+3,none⟩=some d3:=by rw[(cells_of hcur2).1,Ho0.out,Nat.zero_add];exact hd3
  have hy3:w12.frozen? ⟨a0,o0+f*4+3,none⟩=false:=(cells_of hcur2).2 _
  have HM12:=hide hM12
  have H12:=hide h12
  have HB12:=hide hb12
  have HHb:=hide hbn
  have K1:=hide k1
  have K12:=hide ((k19.trans k10).trans k11)
  have KS:=hide k12
  rw[hm,hbv]at hc12
  have Hbv:=hide hbv
  clear hM12 h12 hb12 hown2 hcur2 hcurx2 hd3 hbn k12 hbv k1 k19 k10 k11
  go_wp2_with fail
  first |go_end0|(refine bodyPost_ret (v:= .tuple #[]) (by simp[results,Tryz.results119,go_sem]) rfl ?_)
  have hM13:=HM12.out.put (q:=f*4+3) (by omega) (.slice ba bl bc)
  rw[←Nat.add_assoc]at hM13
  have k13:Kp (one a0) w12 (w12.setCell ⟨a0,o0+f*4+3,none⟩ (.slice ba bl bc)):=(Kp.refl _ _).set1 _ _
  have h13:=H12.out.other k13 hafp HHb.out
  rw[HR.out]at h13
  have kE:Kp (one pb) (w12.setCell ⟨a0,o0+f*4+3,none⟩ (.slice ba bl bc)) ((w12.setCell ⟨a0,o0+f*4+3,none⟩ (.slice ba bl bc)).setCell ⟨pb,3,none⟩ (.int .i64 E.data.length)):=(Kp.refl _ _).set1 _ _
  have hfin:PSt ((w12.setCell ⟨a0,o0+f*4+3,none⟩ (.slice ba bl bc)).setCell ⟨pb,3,none⟩ (.int .i64 E.data.length)) pb {E with loc:= .slice ad7 (typ.1.length+mo.1.length) cap7,d:=0} (bodyR E funcs globs typ i):=by
   refine PSt.turn h13 rfl rfl kE (by show E.en≤E.data.length;omega) (fun q hq=>by have :=(h13.ok q hq).1;show q≤E.en;have h4:q≤j+n:=this;omega) (fun q e p hb=> ?_)
   have :=heap_setCell (o:=3) hb (.int .i64 E.data.length)
   rw[this]
   show some (Obj.cells _ _)=some (Obj.cells #[E.m,E.b,.int .i64 q,.int .i64 (E.en:Int),.int .i64 e,.int .i64 p,.slice ad7 (typ.1.length+mo.1.length) cap7,.int .i64 0] _)
   rw[hen]
   rfl
  rw[hm,hen]at hfin
  refine⟨rfl,⟨_,hfin⟩,hM13.kp kE,?_⟩
  refine Kp.trans ((K1.out.mono (fun k _ h=> .inl h)).trans (K12.out.mono (fun k _ h=> .inl h))) ?_
  exact((KS.out.mono (S':=fun k=>k=pb∨(Value.slice (some ⟨a0,o0,none⟩) funcs.length cap0).ownBlock=some k) (fun k _ h=> .inr (by rw[show k=a0 from h];rfl))).trans (k13.mono (fun k _ h=> .inr (by rw[show k=a0 from h];rfl)))).trans (kE.mono (fun k _ h=> .inl h))
end Go.Proofs.YtdeplgkhmebalaaGreatDoor.Rf

set_option linter.unusedSimpArgs false
set_option linter.unusedVariables false
set_option maxHeartbeats 3000000
set_option maxRecDepth 100000
namespace Go.Proofs.YtdeplgkhmebalaaGreatDoor
open Go.RowKit

section
variable{E:Env} {g N:Nat} {w:World} {s:Bd}

theorem cut_end {role:Nat→Nat} {sv cv:Value} {kc:Nat} {bs:List BkV} (h:BStG E g w s role sv cv kc bs) {ad:Option Addr} {cap n:Nat} (hsv:sv= .slice ad s.stack.length cap) (hn:n≤s.stack.length) {W:World} (kW:Kp no w W):
  BSt E g (W.setCell ⟨E.bb,4,none⟩ (.slice ad n cap)) {s with stack:=s.stack.take n}∧Kp (one E.bb) w (W.setCell ⟨E.bb,4,none⟩ (.slice ad n cap)):=by
 subst hsv
 have k2:Kp (fun b=>(fun r=>r=3∨r=4) (role b)) w (W.setCell ⟨E.bb,4,none⟩ (.slice ad n cap)):=Kp.setAt kW.any (.inl h.r3) 4 _
 have hbody:=kW.blk h.body (fun h=>h)
 refine⟨⟨role,_,cv,kc,bs,h.setStack (l:=s.stack.take n) k2 (heap_setCell hbody _) ?_ (fun b hb=>h.r4 b (by cases ad with |none=>cases hb|some a=>exact hb))⟩,Kp.set1 kW.any 4 _⟩
 have ho:(W.setCell ⟨E.bb,4,none⟩ (.slice ad n cap)).ownsRow E.B 5 1 (.slice ad s.stack.length cap) s.stack.length (s.stack.map fun c=> .int .u8 c.toNat):=
  ((Kp.refl (one E.bb) W).set1 4 _).own (kW.own h.stack (fun _ _ h=>h)) (fun b hb (e:b=E.bb)=>by subst e;have :=h.r4 _ hb;rw[h.r3]at this;cases this)
 have hlen:(s.stack.take n).length=n:=by simp;omega
 obtain⟨h1,⟨h2,h3⟩|⟨g',cap',cur,hv,hb,hh,hc,hm,hsz,ht⟩⟩:=ho
 ·simp only[Value.slice.injEq]at h2
  obtain⟨rfl,-,rfl⟩:=h2
  have hn0:n=0:=by omega
  subst hn0
  exact⟨by simp,.inl ⟨by simp,by simp⟩⟩
 ·cases hv
  refine⟨by simp,.inr ⟨g',cap,cur,by rw[hlen],hb,hh,by omega,hm,hsz,?_⟩⟩
  rw[hlen,List.map_take,←ht,List.take_take]
  congr 1
  omega

theorem kind_end {role:Nat→Nat} {sv cv:Value} {kc:Nat} {bs:List BkV} (h:BStG E g w s role sv cv kc bs) {k:Nat} (hk:k<s.blocks.length) (kd:Nat):
  BSt E g (w.setCell ⟨g,k*5,none⟩ (.int .i64 kd)) {s with blocks:=s.blocks.set k {s.bk k with kind:=kd}}∧Kp (one g) w (w.setCell ⟨g,k*5,none⟩ (.int .i64 kd)):=by
 obtain⟨rv,wv,hbs,-⟩:=h.bk hk
 have k2:Kp (fun b=>(fun r=>r=5) (role b)) w (w.setCell ⟨g,k*5,none⟩ (.int .i64 kd)):=Kp.setAt (S:=fun b=>(fun r=>r=5) (role b)) (Kp.refl _ w) (b:=g) h.r5 _ _
 have hst:=(h.blocks.stored (k*5+0) (.int .i64 kd)).1
 have hset:(bs.flatMap bkCells).set (k*5+0) (.int .i64 kd)=(bs.set k ({s.bk k with kind:=kd},rv,wv)).flatMap bkCells:=flat_set bkLen bs k 0 (by decide) _ _ _ hbs rfl
 rw[hset]at hst
 have hl:k<bs.length:=by
  have :=h.eq
  rw[this,List.length_map]at hk;exact hk
 have hget: ∀(j:Nat) (x:BkV),(bs.set k ({s.bk k with kind:=kd},rv,wv))[j]? =some x→ ∃y,bs[j]? =some y∧y.2=x.2∧y.1.waits=x.1.waits∧y.1.result=x.1.result:=by
  intro j x hx
  rw[List.getElem?_set]at hx
  by_cases e:k=j
  ·rw[if_pos e,if_pos hl]at hx;cases hx;subst e;exact⟨_,hbs,rfl,rfl,rfl⟩
  ·rw[if_neg e]at hx;exact⟨x,hx,rfl,rfl,rfl⟩
 refine⟨⟨role,sv,cv,kc,bs.set k ({s.bk k with kind:=kd},rv,wv),?_⟩,(Kp.refl _ w).set1 _ _⟩
 refine⟨h.kEnv (X:=fun r=>r=5) k2 (by omega),(h.kRd (X:=fun r=>r=5) k2 (by omega) (by omega):),?_,(h.kMod (X:=fun r=>r=5) k2 (by omega):),(h.kStack (X:=fun r=>r=5) k2 (by omega):),?_,(h.kCode (X:=fun r=>r=5) k2 (by omega):),?_,?_,?_,h.r1,h.r2,h.r3,h.r4,h.r5,h.r6,?_,?_,h.ro,h.kLt (X:=fun r=>r=5) k2⟩
 ·have :=h.kBody (X:=fun r=>r=5) k2 (by omega)
  simpa[bodyObj]using this
 ·simpa using hst
 ·simp only[List.map_set,h.eq]
 ·intro j x hx
  obtain⟨y,hy,e1,e2,-⟩:=hget j x hx
  have :=h.kWaits (X:=fun r=>r=5) k2 j y hy (by omega)
  rw[e1,e2]at this;exact this
 ·intro j x hx
  obtain⟨y,hy,e1,-,e2⟩:=hget j x hx
  have :=h.kResults (X:=fun r=>r=5) k2 (by omega) j y hy
  rw[e1,e2]at this;exact this
 ·intro j x hx
  obtain⟨y,hy,e1,-⟩:=hget j x hx
  rw[←e1];exact h.rw j y hy
 ·intro j x hx
  obtain⟨y,hy,e1,-⟩:=hget j x hx
  rw[←e1];exact h.kRr (X:=fun r=>r=5) k2 j y hy

theorem BSt.cut (h:BSt E g w s) {n:Nat} (hn:n≤s.stack.length): ∃ad cap,(∃kc,w.heap[E.bb]? =some (bodyObj E g s (.slice ad s.stack.length cap) kc))∧s.stack.length≤cap∧(ad=none→cap=0)∧ ∀W,Kp no w W→BSt E g (W.setCell ⟨E.bb,4,none⟩ (.slice ad n cap)) {s with stack:=s.stack.take n}∧Kp (one E.bb) w (W.setCell ⟨E.bb,4,none⟩ (.slice ad n cap)):=by
 obtain⟨role,sv,cv,kc,bs,h⟩:=h
 obtain⟨h1,⟨rfl,h3⟩|⟨g',cap',cur,rfl,hb,hh,hc,hm,hsz,ht⟩⟩:=h.stack
 ·refine⟨none,0,⟨kc,?_⟩,by omega,fun _=>rfl,fun W kW=>cut_end h (by rw[h3]) hn kW⟩
  rw[h3];exact h.body
 ·exact⟨some ⟨g',0,none⟩,cap',⟨kc,h.body⟩,hc,(fun h=>by cases h),fun W kW=>cut_end h rfl hn kW⟩
theorem BSt.blkAt (h:BSt E g w s) {k:Nat} (hk:k<s.blocks.length): ∃rv wv,(∀W,Kp no w W→W.cell? ⟨g,k*5,none⟩=some (.int .i64 (s.bk k).kind)∧W.cell? ⟨g,k*5+1,none⟩=some rv∧W.cell? ⟨g,k*5+2,none⟩=some (.int .i64 (s.bk k).height)∧
   W.cell? ⟨g,k*5+3,none⟩=some (.int .i64 (s.bk k).start)∧W.cell? ⟨g,k*5+4,none⟩=some wv∧W.frozen? ⟨g,k*5,none⟩=false)∧BytesAt w rv (s.bk k).result∧(∀b,rv.ownBlock=some b→b≠E.bb)∧RowAt w wv 1 (s.bk k).waits.length ((s.bk k).waits.map fun n=>Value.int .i64 ((n:Nat):Int))∧g≠E.bb:=by
 obtain⟨role,sv,cv,kc,bs,h⟩:=h
 obtain⟨rv,wv,hbs,h1,h2,h3,h4,h5⟩:=h.bk hk
 refine⟨rv,wv,fun W k=>⟨k.allCells h1,k.allCells h2,k.allCells h3,k.allCells h4,k.allCells h5,(k.own h.blocks (fun _ _ h=>h)).frozenAt _⟩,h.results k _ hbs,fun b hb e=> ?_,RowAt.own (h.waits k _ hbs),fun e=> ?_⟩
 ·have :=(h.rr k _ hbs b hb).1;rw[e,h.r3]at this;cases this
 ·have :=h.r5;rw[e,h.r3]at this;cases this
theorem BSt.setKind (h:BSt E g w s) {k:Nat} (hk:k<s.blocks.length) (kd:Nat):BSt E g (w.setCell ⟨g,k*5,none⟩ (.int .i64 kd)) {s with blocks:=s.blocks.set k {s.bk k with kind:=kd}}∧Kp (nro E.ro) w (w.setCell ⟨g,k*5,none⟩ (.int .i64 kd)):=by
 obtain⟨role,sv,cv,kc,bs,h⟩:=h
 obtain⟨h1,h2⟩:=kind_end h hk kd
 exact⟨h1,h2.mono (fun b _ (e:b=g) hr=>by have :=h.ro b hr;rw[e,h.r5]at this;cases this)⟩

theorem turn_no (h:BSt E g w s) (z:Sz N s) (hN:N≤500000) (hne:s.blocks≠[]) (hw:s.top.kind≠3∨fullM s (s.blocks.length -1)=false):Calls Tryz.prog 256 #[ptrTo E.bb] w fun r w'=>Done E w w' (wrongM s) r∧Kp (nro E.ro) w w':=by
 have hl:0<s.blocks.length:=List.length_pos_iff.2 hne
 have hst:=z.st
 have hbl:=z.bl
 have hin:=inner_any' h hne (by omega)
 obtain⟨rv,wv,hcl,-,-,-,-⟩:=h.blkAt (k:=s.blocks.length -1) (by omega)
 have hfu:=fun W (kW:Kp no w W)=>full_any (h.quiet kW) (k:=s.blocks.length -1) (by omega) (z.height (by omega)) (by omega)
 have H:=hide h
 have hkq:((s.top.kind:Int) !=3)= !(s.top.kind==3):=by rw[bne];congr 1;rw[Bool.eq_iff_iff];simp;omega
 have HI:=hide hin
 have HC:=hide hcl
 have HF:=hide hfu
 clear h hin hcl hfu
 change Hid (∀W,Kp no w W→W.cell? _=some (.int .i64 (s.top.kind:Nat))∧_)at HC
 generalize s.top.kind=kd at *
 by_cases h3:kd=3
 ·have hq:(kd==3)=true:=by simpa using h3
  have hfl:fullM s (s.blocks.length -1)=false:=hw.resolve_left (fun e=>e h3)
  rw[hq]at hkq
  have HFl:=hide hfl
  clear hw hq hfl
  subst h3
  go_enter Tryz.func256,Tryz.ntmps256
  go_wp2_with fail
  refine HI.out.mono ?_
  rintro e w1 ⟨rfl,k1⟩
  obtain⟨hc1,-,-,-,-,-⟩:=HC.out w1 k1
  have HF1:=hide (HF.out w1 k1)
  go_wp2_with fail
  refine HF1.out.mono ?_
  rintro e w2 ⟨rfl,k2⟩
  have HW:=hide (wrong_any (H.out.quiet (k1.trans k2)))
  have HK:=hide (k1.trans k2)
  rw[HFl.out]
  clear k1 k2 hc1
  go_wp2_with fail
  refine HW.out.mono ?_
  rintro e w8 ⟨⟨fv,rfl,fb,rfl,hfb,hfo⟩,k8⟩
  have HFo:=hide hfo
  clear hfo
  go_wp2
  go_ret
  exact⟨⟨ptrTo fb,rfl,fb,rfl,by have :=HK.out.size;omega,HFo.out⟩,(HK.out.trans k8).any⟩
 ·have hq:(kd==3)=false:=by simpa using h3
  rw[hq]at hkq
  clear hw hq h3
  go_enter Tryz.func256,Tryz.ntmps256
  go_wp2_with fail
  refine HI.out.mono ?_
  rintro e w1 ⟨rfl,k1⟩
  obtain⟨hc1,-,-,-,-,-⟩:=HC.out w1 k1
  have HW:=hide (wrong_any (H.out.quiet k1))
  have HK:=hide k1
  clear k1
  go_wp2_with fail
  refine HW.out.mono ?_
  rintro e w8 ⟨⟨fv,rfl,fb,rfl,hfb,hfo⟩,k8⟩
  have HFo:=hide hfo
  clear hfo
  go_wp2
  go_ret
  exact⟨⟨ptrTo fb,rfl,fb,rfl,by have :=HK.out.size;omega,HFo.out⟩,(HK.out.trans k8).any⟩

end

end Go.Proofs.YtdeplgkhmebalaaGreatDoor

set_option linter.unusedSimpArgs false
set_option linter.unusedVariables false
set_option maxHeartbeats 3000000
set_option maxRecDepth 100000
namespace Go.Proofs.YtdeplgkhmebalaaGreatDoor
open Go.RowKit

section
variable{E:Env} {g N:Nat} {w:World} {s:Bd}

theorem jump_same (op:UInt8) {k:Nat} (hk:k<s.blocks.length):(jumpM s op k).stack=s.stack∧(jumpM s op k).blocks.length=s.blocks.length∧(jumpM s op k).pos=s.pos∧ ∀j,((jumpM s op k).bk j).kind=(s.bk j).kind∧((jumpM s op k).bk j).height=(s.bk j).height∧((jumpM s op k).bk j).start=(s.bk j).start∧((jumpM s op k).bk j).result=(s.bk j).result:=by
 unfold jumpM
 split
 ·exact⟨rfl,rfl,rfl,fun j=>⟨rfl,rfl,rfl,rfl⟩⟩
 ·refine⟨rfl,by simp[emitM],rfl,fun j=> ?_⟩
  have hb: ∀x,(emitM {s with blocks:=s.blocks.set k {s.bk k with waits:=(s.bk k).waits++[s.code.length]}} x).bk j=if k=j then {s.bk k with waits:=(s.bk k).waits++[s.code.length]}else s.bk j:=fun x=>bk_set hk _ j
  rw[hb]
  split
  ·rename_i e;subst e;exact⟨rfl,rfl,rfl,rfl⟩
  ·exact⟨rfl,rfl,rfl,rfl⟩

theorem turn_ok (h:BSt E g w s) (z:Sz N s) (hN:N≤500000) (hne:s.blocks≠[]) (hk3:s.top.kind=3) (hfl:fullM s (s.blocks.length -1)=true):Calls Tryz.prog 256 #[ptrTo E.bb] w fun r w'=>Done E w w' (turnM s) r∧Kp (nro E.ro) w w':=by
 have hM:turnM s= .ok {aimM (jumpM s 5 (s.blocks.length -1)) (s.top.start -1)with blocks:=(jumpM s 5 (s.blocks.length -1)).blocks.set (s.blocks.length -1) {(jumpM s 5 (s.blocks.length -1)).bk (s.blocks.length -1)with kind:=4},stack:=s.stack.take s.top.height,closed:=false}:=by
  have hl:0<s.blocks.length:=List.length_pos_iff.2 hne
  obtain⟨e1,e2,-,e3⟩:=jump_same (s:=s) 5 (k:=s.blocks.length -1) (by omega)
  unfold turnM
  rw[if_neg (by simp[hk3,hfl])]
  show Except.ok _=_
  have e4:(aimM (jumpM s 5 (s.blocks.length -1)) (s.top.start -1)).top=(jumpM s 5 (s.blocks.length -1)).bk (s.blocks.length -1):=by
   unfold Bd.top
   show(jumpM s 5 (s.blocks.length -1)).bk _=_
   congr 1
   show(jumpM s 5 (s.blocks.length -1)).blocks.length -1=_
   rw[e2]
  rw[e4]
  have a1:(aimM (jumpM s 5 (s.blocks.length -1)) (s.top.start -1)).stack=s.stack:=e1
  have a2:(aimM (jumpM s 5 (s.blocks.length -1)) (s.top.start -1)).blocks.length=s.blocks.length:=e2
  rw[a1,a2,(e3 _).2.1]
  rfl
 have hl:0<s.blocks.length:=List.length_pos_iff.2 hne
 generalize turnM s=R at *
 have hst:=z.st
 have hbl:=z.bl
 have hcd:=z.cd
 have hin:=inner_any' h hne (by omega)
 have hkl:s.blocks.length -1<s.blocks.length:=by omega
 have hblk:=fun W s1 (h1:BSt E g W s1) (hl1:s1.blocks.length=s.blocks.length)=>h1.blkAt (k:=s.blocks.length -1) (by omega)
 have hfu:=fun W (kW:Kp no w W)=>full_any (h.quiet kW) (k:=s.blocks.length -1) (by omega) (z.height (by omega)) (by omega)
 rw[hfl]at hfu
 have htop:s.top=s.bk (s.blocks.length -1):=rfl
 obtain⟨j1,j2,-,j3⟩:=jump_same (s:=s) 5 hkl
 have zj:=jump_sz z 5 hkl
 have hju:=fun W (h1:BSt E g W s)=>jump_any h1 z hN hkl 5
 have hjw:=(zj.wt (s.blocks.length -1) (by omega)).2.2.2.2 (by rw[(j3 _).1,←htop];exact hk3)
 have hst1:=(z.wt _ hkl).2.1
 have hheight:=z.height hkl
 rw[(j3 _).2.2.1,←htop]at hjw
 rw[←htop]at hst1 hheight
 have hhe1:=(j3 (s.blocks.length -1)).2.1
 have hsta1:=(j3 (s.blocks.length -1)).2.2.1
 rw[←htop]at hhe1 hsta1
 have zc:=zj.cd
 generalize jumpM s 5 (s.blocks.length -1)=sj at *
 have hai:=fun W (h1:BSt E g W sj)=>aim_any h1 (n:=s.top.start -1) (by omega) (by omega)
 have haeq: ∀j,(aimM sj (s.top.start -1)).bk j=sj.bk j:=fun _=>rfl
 have hal:(aimM sj (s.top.start -1)).blocks.length=s.blocks.length:=j2
 have hast:(aimM sj (s.top.start -1)).stack=s.stack:=j1
 have habl:(aimM sj (s.top.start -1)).blocks=sj.blocks:=rfl
 have H:=hide h
 have HI:=hide hin
 have HB:=hide hblk
 have HF:=hide hfu
 have HJ:=hide hju
 have HA:=hide hai
 have HM:=hide hM
 have HK3:=hide hk3
 have HTop:=hide htop
 have HHe:=hide hhe1
 have HSt:=hide hsta1
 have HAe:=hide haeq
 have HAl:=hide hal
 have HAs:=hide hast
 have HJ2:=hide j2
 have HAb:=hide habl
 clear h hin hblk hfu hju hai hM hk3 hfl htop hhe1 hsta1 haeq hal hast j1 j2 j3 z zj habl
 have hki: ∀W,Kp no w W→W.cell? ⟨g,(s.blocks.length -1)*5,none⟩=some (.int .i64 3):=by
  intro W kW
  obtain⟨rv,wv,hcl,-⟩:=HB.out w s H.out rfl
  have :=(hcl W kW).1
  rw[←HTop.out,HK3.out]at this;exact this
 have HKi:=hide hki
 clear hki
 generalize hht:s.top.height=ht at *
 generalize hsr:s.top.start=sr at *
 go_enter Tryz.func256,Tryz.ntmps256
 go_wp2_with fail
 refine HI.out.mono ?_
 rintro e w1 ⟨rfl,k1⟩
 have hc1:=HKi.out w1 k1
 have HF1:=hide (HF.out w1 k1)
 go_wp2_with fail
 refine HF1.out.mono ?_
 rintro e w2 ⟨rfl,k2⟩
 have HJ1:=hide (HJ.out w2 (H.out.quiet (k1.trans k2)))
 have HK:=hide (k1.trans k2)
 clear k1 k2 hc1
 go_wp2_with fail
 refine HJ1.out.mono ?_
 rintro e w3 ⟨rfl,h3,k3⟩
 obtain⟨rv3,wv3,hcl3,-⟩:=HB.out w3 sj h3 HJ2.out
 obtain⟨-,-,-,hsc3,-,-⟩:=hcl3 w3 (Kp.refl no w3)
 rw[HSt.out]at hsc3
 have HA1:=hide (HA.out w3 h3)
 have HK2:=hide (Kp.trans HK.out.any k3)
 clear h3 k3 hcl3
 have hsr1:((sr:Int) -1)=((sr -1:Nat):Int):=by omega
 have HSR:=hide hsr1
 clear hsr1
 go_wp2_with fail
 rw[HSR.out]
 refine HA1.out.mono ?_
 rintro e w4 ⟨rfl,h4,k4⟩
 have HK4:=hide (HK2.out.trans k4)
 obtain⟨h5,k5⟩:=h4.setKind (k:=s.blocks.length -1) (by rw[HAl.out];exact hkl) 4
 obtain⟨rv4,wv4,hcl4,-,-,-,hgb⟩:=HB.out w4 _ h4 HAl.out
 obtain⟨hkc4,-,-,-,-,hkf4⟩:=hcl4 w4 (Kp.refl no w4)
 obtain⟨rv5,wv5,hcl5,-⟩:=HB.out _ _ h5 (by simp only[List.length_set];exact HAl.out)
 have hhc5:=(hcl5 _ (Kp.refl no _)).2.2.1
 rw[show(Bd.bk {aimM sj (sr -1)with blocks:=(aimM sj (sr -1)).blocks.set (s.blocks.length -1) {(aimM sj (sr -1)).bk (s.blocks.length -1)with kind:=4}} (s.blocks.length -1)).height=ht by
  rw[bk_set (by rw[HAl.out];exact hkl),if_pos rfl];show((aimM sj (sr -1)).bk (s.blocks.length -1)).height=ht;rw[HAe.out,HHe.out]]at hhc5
 obtain⟨ad,cap,⟨kc5,hbo5⟩,hcap,hnil,hcut⟩:=h5.cut (n:=ht) (by show ht≤(aimM sj (sr -1)).stack.length;rw[HAs.out];exact hheight)
 simp only[bodyObj]at hbo5
 simp only[show(aimM sj (sr -1)).stack=s.stack from HAs.out]at hbo5 hcap hcut
 obtain⟨hc5,hf5⟩:=cells_of hbo5
 have HK5:=hide (HK4.out.trans k5)
 have HC5:=hide hcut
 have H5:=hide h5
 clear h4 k4 h5 k5 hcl4 hcl5 hcut hbo5
 go_wp2_with fail
 generalize w4.setCell ⟨g,(s.blocks.length -1)*5,none⟩ (.int .i64 4)=w5 at *
 clear hkc4 hkf4 hsc3
 cases ad with
 |none=>
  have hcap0:=hnil rfl
  subst hcap0
  have hh0:ht=0:=by omega
  subst hh0
  clear hnil
  go_region
  all_goals
   go_wp2
   go_ret
   rw[HM.out]
   obtain⟨h6,k6⟩:=HC5.out w5 (Kp.refl no w5)
   obtain⟨h7,k7⟩:=closed_end h6 false
   exact⟨⟨rfl,g,h7.quiet ((Kp.refl no _).drew)⟩,((HK5.out.trans (H5.out.nroBb k6)).trans (h6.nroBb k7)).drew⟩
 |some a=>
  clear hnil
  go_region
  all_goals
   go_wp2
   go_ret
   rw[HM.out]
   obtain⟨h6,k6⟩:=HC5.out w5 (Kp.refl no w5)
   obtain⟨h7,k7⟩:=closed_end h6 false
   exact⟨⟨rfl,g,h7.quiet ((Kp.refl no _).drew)⟩,((HK5.out.trans (H5.out.nroBb k6)).trans (h6.nroBb k7)).drew⟩
end

end Go.Proofs.YtdeplgkhmebalaaGreatDoor

set_option linter.unusedSimpArgs false
set_option linter.unusedVariables false
set_option maxHeartbeats 1000000
set_option maxRecDepth 100000
namespace Go.Proofs.YtdeplgkhmebalaaGreatDoor
open Go.RowKit

def CodeB (E:Env) (w:World) (b:Nat):Prop:= ∃n c,w.cell? ⟨E.mb,3,none⟩=some (.slice (some ⟨b,0,none⟩) n c)

section
variable{E:Env} {g N:Nat} {w:World} {s:Bd}

theorem aim_any2 (h:BSt E g w s) {n:Nat} (hn:n<s.code.length) (hc:s.code.length≤1000000):
  Calls Tryz.prog 282 #[ptrTo E.bb,.int .i64 n] w fun r w'=>r= .returned (.tuple #[])∧BSt E g w' (aimM s n)∧Kp (CodeB E w) w w':=by
 have hhere:=fun W (k:Kp no w W)=>here_any (h.quiet k) hc
 obtain⟨role,sv,cv,kc,bs,h⟩:=h
 obtain⟨hcb,-⟩:=cells_of h.body
 obtain⟨hm,hmf⟩:=cells_of h.mod
 obtain⟨a,cap,hcv,-,-⟩:=h.code.form (by omega)
 have hcap:=RowAt.own h.code
 obtain⟨ad',cap',hcv',hcap'⟩:=hcap.shape
 have hend:=fun W (k:Kp no w W)=>(aim_end h hcv hn k).1
 have hab:a≠E.bb:=fun e=>by have :=h.r6 a (by rw[hcv];rfl);rw[e,h.r3]at this;cases this
 have ham:a≠E.mb:=fun e=>by have :=h.r6 a (by rw[hcv];rfl);rw[e,h.r2]at this;cases this
 have hcell:=fun W (k:Kp no w W)=>(k.own h.code (fun _ _ h=>h))
 have HBo:=hide h.body
 have HMo:=hide h.mod
 subst hcv
 cases hcv'
 have hCB:CodeB E w a:=⟨_,_,(cells_of h.mod).1 3⟩
 have HCB:=hide hCB
 have hce: ∀W,Kp no w W→W.cell? ⟨a,n*5+2,none⟩=some (.int .i64 (s.code.getD n ⟨0,0,0,0,0⟩).goal)∧W.frozen? ⟨a,n*5+2,none⟩=false:=by
  intro W k
  refine⟨?_,(hcell W k).frozenAt _⟩
  rw[(hcell W k).cellAt (n*5+2) (by omega),flat_get Ins.len s.code n 2 (by decide),List.getD,List.getElem?_eq_getElem hn];rfl
 generalize(s.code.getD n ⟨0,0,0,0,0⟩).goal=gl0 at *
 have HH:=hide hhere
 have HE:=hide hend
 have HC:=hide hce
 have hi0:(0:Int)≤(n:Int):=by omega
 have hi1:(n:Int)<(s.code.length:Int):=by omega
 obtain⟨hc0,hf0⟩:=hce w (Kp.refl no w)
 clear h hhere hend hcell hce hcap hCB
 go_enter Tryz.func282,Tryz.ntmps282
 go_wp2_with fail
 go_region_held3 (fun w'=>w'.cell? ⟨E.bb,1,none⟩=some (ptrTo E.mb)∧w'.cell? ⟨E.mb,3,none⟩=some (.slice (some ⟨a,0,none⟩) s.code.length cap)) (go_keep) (first |(go_at_call 278;refine(HH.out w.drew ((Kp.refl no w).drew)).mono ?_;rintro e w1 ⟨rfl,k1⟩;obtain⟨hc1,hf1⟩:=cells_of (k1.blk (show w.drew.heap[E.bb]? =_ from HBo.out) (fun h=>h));obtain⟨hm1,hmf1⟩:=cells_of (k1.blk (show w.drew.heap[E.mb]? =_ from HMo.out) (fun h=>h));obtain⟨hcc1,hcf1⟩:=HC.out w1 ((Kp.refl no w).drew.trans k1)))
 have HK:=hide ((Kp.refl no w).drew.trans k1)
 go_end0
 exact⟨rfl,HE.out w1 HK.out,Kp.setAt HK.out.any HCB.out _ _⟩

theorem BSt.waitsAt (h:BSt E g w s) {k:Nat} (hk:k<s.blocks.length): ∃wv,w.cell? ⟨g,k*5+4,none⟩=some wv∧RowAt w wv 1 (s.bk k).waits.length ((s.bk k).waits.map fun n=>Value.int .i64 ((n:Nat):Int))∧(∀b,wv.ownBlock=some b→ ¬CodeB E w b)∧ ¬CodeB E w E.mb∧ ¬CodeB E w g∧ ¬CodeB E w E.bb:=by
 obtain⟨role,sv,cv,kc,bs,h⟩:=h
 obtain⟨rv,wv,hbs,h1,h2,h3,h4,h5⟩:=h.bk hk
 have key: ∀b,CodeB E w b→role b=6:=by
  rintro b ⟨n,c,hb⟩
  rw[(cells_of h.mod).1 3]at hb
  have hb':cv= .slice (some ⟨b,0,none⟩) n c:=by simpa using hb
  exact h.r6 b (by rw[hb'];rfl)
 refine⟨wv,h5,RowAt.own (h.waits k _ hbs),fun b hb hc=> ?_,fun hc=> ?_,fun hc=> ?_,fun hc=> ?_⟩
 ·have :=key b hc;rw[h.rw k _ hbs b hb]at this;omega
 ·have :=key _ hc;rw[h.r2]at this;cases this
 ·have :=key _ hc;rw[h.r5]at this;cases this
 ·have :=key _ hc;rw[h.r3]at this;cases this
theorem BSt.nroCode (h:BSt E g w s) {w':World} (k:Kp (CodeB E w) w w'):Kp (nro E.ro) w w':=by
 obtain⟨role,sv,cv,kc,bs,h⟩:=h
 refine k.mono (fun b _ hc hr=> ?_)
 obtain⟨n,c,hb⟩:=hc
 rw[(cells_of h.mod).1 3]at hb
 have hb':cv= .slice (some ⟨b,0,none⟩) n c:=by simpa using hb
 have :=h.r6 b (by rw[hb'];rfl)
 rw[h.ro b hr]at this;cases this

theorem aimAll_same (l:List Nat): ∀s:Bd,(aimAll l s).stack=s.stack∧(aimAll l s).blocks=s.blocks∧(aimAll l s).pos=s.pos∧(aimAll l s).i=s.i∧(aimAll l s).closed=s.closed∧(aimAll l s).code.length=s.code.length:=by
 induction l with
 |nil=>intro s;exact⟨rfl,rfl,rfl,rfl,rfl,rfl⟩
 |cons a l ih=>
  intro s
  obtain⟨a1,a2,a3,a4,a5,a6⟩:=ih (aimM s a)
  exact⟨a1,a2,a3,a4,a5,a6.trans (by simp[aimM])⟩
theorem aimAll_snoc (l:List Nat) (a:Nat) (s:Bd):aimAll (l++[a]) s=aimM (aimAll l s) a:=by simp[aimAll]

theorem endstack_end {role:Nat→Nat} {sv cv:Value} {kc:Nat} {bs:List BkV} (h:BStG E g w s role sv cv kc bs) {n:Nat} (hn:n≤s.stack.length) (res:List UInt8) {W w1:World} {v0 v1:Value} (hv0:v0.ownBlock=sv.ownBlock) (kW:Kp no w W) {m:Nat} {xs:List Value} (hm:m=n+res.length)
  (hxs:xs=((s.stack.take n).map fun c=> .int .u8 c.toNat)++(res.map fun c=> .int .u8 c.toNat))
  (hown1:w1.ownsRow E.B 5 1 v1 m xs) (hgrow:W.grownBy w1 v0.ownBlock) (hat:v1.ownBlock=v0.ownBlock∨v1.ownBlock=some W.heap.size):
  BSt E g (w1.setCell ⟨E.bb,4,none⟩ v1) {s with stack:=s.stack.take n++res}∧Kp (nro E.ro) w (w1.setCell ⟨E.bb,4,none⟩ v1):=by
 subst hm hxs
 rw[hv0]at hgrow hat
 have h':=h.renew 4
 have hm:=lt_of_blk h.body
 have k1:Kp (fun b=>(fun r=>r=3∨r=4) (newRole role w.heap.size 4 b)) w w1:=(kW.any).grown hgrow (fun b hb=> .inl (.inr (h'.r4 b hb)))
 have k2:Kp (fun b=>(fun r=>r=3∨r=4) (newRole role w.heap.size 4 b)) w (w1.setCell ⟨E.bb,4,none⟩ v1):=k1.setAt (.inl h'.r3) 4 v1
 have hr: ∀b,v1.ownBlock=some b→newRole role w.heap.size 4 b=4:=by
  intro b hb
  rcases hat with e|e
  ·exact h'.r4 b (e▸hb)
  ·rw[hb]at e;cases e;exact newRole_new kW.size
 have hbody:w1.heap[E.bb]? =some (bodyObj E g s sv kc):=(hgrow.block E.bb (Nat.lt_of_lt_of_le hm kW.size) (fun e=>by have :=h.r4 _ e.symm;rw[h.r3]at this;cases this)).trans (kW.blk h.body (fun h=>h))
 refine⟨⟨_,v1,cv,kc,bs,h'.setStack (l:=s.stack.take n++res) k2 (heap_setCell hbody v1) ?_ hr⟩,h'.nro (X:=fun r=>r=3∨r=4) k2 (by decide)⟩
 have ho:(w1.setCell ⟨E.bb,4,none⟩ v1).ownsRow E.B 5 1 v1 (n+res.length) (((s.stack.take n).map fun c=> .int .u8 c.toNat)++(res.map fun c=> .int .u8 c.toNat)):=
  ((Kp.refl (one E.bb) w1).set1 4 v1).own hown1 (fun b hb (e:b=E.bb)=>by subst e;have :=hr _ hb;rw[h'.r3]at this;cases this)
 have e:(s.stack.take n++res).length=n+res.length:=by simp;omega
 rw[e];simpa using ho

theorem pop_end {role:Nat→Nat} {sv cv:Value} {kc:Nat} {bs:List BkV} (h:BStG E g w s role sv cv kc bs) {n:Nat} (hn:n≤s.blocks.length) {W:World} (kW:Kp no w W):
  BSt E g (W.setCell ⟨E.bb,5,none⟩ (.slice (some ⟨g,0,none⟩) n kc)) {s with blocks:=s.blocks.take n}∧Kp (one E.bb) w (W.setCell ⟨E.bb,5,none⟩ (.slice (some ⟨g,0,none⟩) n kc)):=by
 have hq:=h.quiet kW
 have k2:Kp (fun b=>(fun r=>r=3) (role b)) W (W.setCell ⟨E.bb,5,none⟩ (.slice (some ⟨g,0,none⟩) n kc)):=Kp.setAt (S:=fun b=>(fun r=>r=3) (role b)) (Kp.refl _ W) (b:=E.bb) h.r3 _ _
 have hlen:(s.blocks.take n).length=n:=by simp;omega
 have hget: ∀(j:Nat) (x:BkV),(bs.take n)[j]? =some x→bs[j]? =some x:=by
  intro j x hx
  rw[List.getElem?_take]at hx
  split at hx
  ·exact hx
  ·cases hx
 refine⟨⟨role,sv,cv,kc,bs.take n,?_⟩,Kp.set1 kW.any _ _⟩
 refine⟨hq.kEnv (X:=fun r=>r=3) k2 (by omega),(hq.kRd (X:=fun r=>r=3) k2 (by omega) (by omega):),?_,(hq.kMod (X:=fun r=>r=3) k2 (by omega):),(hq.kStack (X:=fun r=>r=3) k2 (by omega):),?_,(hq.kCode (X:=fun r=>r=3) k2 (by omega):),?_,?_,?_,h.r1,h.r2,h.r3,h.r4,h.r5,h.r6,fun j x hx=>h.rw j x (hget j x hx),fun j x hx=>hq.kRr (X:=fun r=>r=3) k2 j x (hget j x hx),h.ro,hq.kLt (X:=fun r=>r=3) k2⟩
 ·have :=heap_setCell (o:=5) hq.body (.slice (some ⟨g,0,none⟩) n kc)
  simpa[bodyObj,hlen]using this
 ·have ho:=hq.kBlocks (X:=fun r=>r=3) k2 (by omega)
  obtain⟨h1,⟨h2,h3⟩|⟨g',cap',cur,hv,hb,hh,hc,hm,hsz,ht⟩⟩:=ho
  ·cases h2
  ·cases hv
   refine⟨?_,.inr ⟨g,kc,cur,by simp[hlen],hb,hh,by simp only[hlen];omega,hm,hsz,?_⟩⟩
   ·rw[flat_take bkLen,List.length_take,h1];simp only[hlen];rw[Nat.min_eq_left (Nat.mul_le_mul_right 5 hn)]
   ·rw[flat_take bkLen,←ht,List.take_take];simp only[hlen];congr 1;rw[Nat.min_eq_left (Nat.mul_le_mul_right 5 hn)]
 ·simp only[h.eq,List.map_take]
 ·exact fun j x hx=>hq.kWaits (X:=fun r=>r=3) k2 j x (hget j x hx) (by omega)
 ·exact fun j x hx=>hq.kResults (X:=fun r=>r=3) k2 (by omega) j x (hget j x hx)
end

end Go.Proofs.YtdeplgkhmebalaaGreatDoor

set_option linter.unusedSimpArgs false
set_option linter.unusedVariables false
namespace Go.Proofs.YtdeplgkhmebalaaGreatDoor
open Go.RowKit

section
variable{E:Env} {g N:Nat} {w:World} {s:Bd}

theorem info_block:(Tryz.prog.info? 298).map (fun i=>(i.zero,i.size,i.bytes))=some (some (.agg #[.int .i64 0,.slice none 0 0,.int .i64 0,.int .i64 0,.slice none 0 0]),5,72):=by kernel_rfl

theorem push_end {role:Nat→Nat} {sv cv:Value} {kc:Nat} {bs:List BkV} (h:BStG E g w s role sv cv kc bs) (b:Bk) (hw0:b.waits=[]) {rv:Value} {W w1:World} (kW:Kp no w W) (hrv:BytesAt W rv b.result) (hrn: ∀c,rv.ownBlock=some c→E.ro c)
  {g1 kc1:Nat} {n:Nat} {xs:List Value} (hn:n=s.blocks.length+1) (hxs:xs=bs.flatMap bkCells++bkCells (b,rv,.slice none 0 0))
  (hown1:w1.ownsRow E.B 298 5 (.slice (some ⟨g1,0,none⟩) n kc1) n xs) (hgrow:W.grownBy w1 (some g)) (hat:some g1=some g∨some g1=some W.heap.size):
  BSt E g1 (w1.setCell ⟨E.bb,5,none⟩ (.slice (some ⟨g1,0,none⟩) n kc1)) {s with blocks:=s.blocks++[b]}∧Kp (nro E.ro) w (w1.setCell ⟨E.bb,5,none⟩ (.slice (some ⟨g1,0,none⟩) n kc1)):=by
 subst hn hxs
 obtain⟨role',hro⟩: ∃role':Nat→Nat,role'=newRole role w.heap.size 5:=⟨_,rfl⟩
 have h':BStG E g w s role' sv cv kc bs:=h.rerole (fun k hk=>by rw[hro];exact newRole_old hk)
 have hlg:=own_lt h.blocks rfl
 have hlb:=lt_of_blk h.body
 have hnr: ∀c,rv.ownBlock=some c→role' c=0:=fun c hc=>h'.ro c (hrn c hc)
 have hg1:role' g1=5:=by
  rcases hat with e|e
  ·cases e;exact h'.r5
  ·cases e
   rw[hro]
   exact newRole_new kW.size
 have k1:Kp (fun b=>(fun r=>r=3∨r=5) (role' b)) w w1:=(kW.any).grown hgrow (fun b hb=> .inl (.inr (by cases hb;exact h'.r5)))
 have k2:Kp (fun b=>(fun r=>r=3∨r=5) (role' b)) w (w1.setCell ⟨E.bb,5,none⟩ (.slice (some ⟨g1,0,none⟩) (s.blocks.length+1) kc1)):=k1.setAt (.inl h'.r3) 5 _
 have hgb:g≠E.bb:=fun e=>by have :=h.r5;rw[e,h.r3]at this;cases this
 have hg1b:g1≠E.bb:=fun e=>by rw[e,h'.r3]at hg1;cases hg1
 have hbody:w1.heap[E.bb]? =some (bodyObj E g s sv kc):=(hgrow.block E.bb (Nat.lt_of_lt_of_le hlb kW.size) (fun e=>by cases e;exact hgb rfl)).trans (kW.blk h.body (fun h=>h))
 have hlen:s.blocks.length=bs.length:=by rw[h.eq,List.length_map]
 have hget: ∀(j:Nat) (x:BkV),(bs++[(b,rv,Value.slice none 0 0)])[j]? =some x→bs[j]? =some x∨x=(b,rv,.slice none 0 0):=by
  intro j x hx
  rcases Nat.lt_or_ge j bs.length with hj|hj
  ·rw[List.getElem?_append_left hj]at hx;exact .inl hx
  ·rw[List.getElem?_append_right hj]at hx
   rcases Nat.eq_zero_or_pos (j -bs.length)with e|e
   ·rw[e]at hx;cases hx;exact .inr rfl
   ·rw[List.getElem?_eq_none (by simp;omega)]at hx;cases hx
 have hrF:BytesAt (w1.setCell ⟨E.bb,5,none⟩ (.slice (some ⟨g1,0,none⟩) (s.blocks.length+1) kc1)) rv b.result:=by
  have kk:Kp (fun k=>k=g∨k=E.bb) W (w1.setCell ⟨E.bb,5,none⟩ (.slice (some ⟨g1,0,none⟩) (s.blocks.length+1) kc1)):=((Kp.refl _ W).grown hgrow (fun k hk=> .inl (.inl (by cases hk;rfl)))).setAt (.inr rfl) _ _
  refine hrv.kp kk (fun c hc e=> ?_)
  have h1:=hnr c hc
  rcases e with e|e
  ·rw[e,h'.r5]at h1;cases h1
  ·rw[e,h'.r3]at h1;cases h1
 have ho:(w1.setCell ⟨E.bb,5,none⟩ (.slice (some ⟨g1,0,none⟩) (s.blocks.length+1) kc1)).ownsRow E.B 298 5 (.slice (some ⟨g1,0,none⟩) (s.blocks.length+1) kc1) (s.blocks.length+1) (bs.flatMap bkCells++bkCells (b,rv,.slice none 0 0)):=
  ((Kp.refl (one E.bb) w1).set1 _ _).own hown1 (fun c hc (e:c=E.bb)=>by cases hc;exact hg1b e)
 refine⟨⟨role',sv,cv,kc1,bs++[(b,rv,.slice none 0 0)],?_⟩,h'.nro (X:=fun r=>r=3∨r=5) k2 (by omega)⟩
 refine⟨h'.kEnv (X:=fun r=>r=3∨r=5) k2 (by omega),(h'.kRd (X:=fun r=>r=3∨r=5) k2 (by omega) (by omega):),?_,(h'.kMod (X:=fun r=>r=3∨r=5) k2 (by omega):),(h'.kStack (X:=fun r=>r=3∨r=5) k2 (by omega):),?_,(h'.kCode (X:=fun r=>r=3∨r=5) k2 (by omega):),?_,?_,?_,h'.r1,h'.r2,h'.r3,h'.r4,hg1,h'.r6,?_,?_,h'.ro,h'.kLt (X:=fun r=>r=3∨r=5) k2⟩
 ·have :=heap_setCell (o:=5) hbody (.slice (some ⟨g1,0,none⟩) (s.blocks.length+1) kc1)
  simpa[bodyObj]using this
 ·simpa[List.flatMap_append]using ho
 ·simp[h.eq]
 ·intro j x hx
  rcases hget j x hx with hx|rfl
  ·exact h'.kWaits (X:=fun r=>r=3∨r=5) k2 j x hx (by omega)
  ·simp only[hw0];exact World.ownsRow_nil _ _ _ _
 ·intro j x hx
  rcases hget j x hx with hx|rfl
  ·exact h'.kResults (X:=fun r=>r=3∨r=5) k2 (by omega) j x hx
  ·exact hrF
 ·intro j x hx
  rcases hget j x hx with hx|rfl
  ·exact h'.rw j x hx
  ·intro c hc;cases hc
 ·intro j x hx
  rcases hget j x hx with hx|rfl
  ·exact h'.kRr (X:=fun r=>r=3∨r=5) k2 j x hx
  ·intro c hc
   exact⟨hnr c hc,Nat.lt_of_lt_of_le (h.lt c (hrn c hc)) k2.size⟩
theorem BSt.push (h:BSt E g w s): ∃sv kc xs,w.heap[E.bb]? =some (bodyObj E g s sv kc)∧(∃ad cap,sv= .slice ad s.stack.length cap)∧some E.bb≠some g∧(∀W,Kp no w W→W.ownsRow E.B 298 5 (.slice (some ⟨g,0,none⟩) s.blocks.length kc) s.blocks.length xs)∧
  ∀(b:Bk) rv W w1 g1 kc1 n ys,b.waits=[]→Kp no w W→BytesAt W rv b.result→(∀c,rv.ownBlock=some c→E.ro c)→n=s.blocks.length+1→ys=xs++bkCells (b,rv,.slice none 0 0)→w1.ownsRow E.B 298 5 (.slice (some ⟨g1,0,none⟩) n kc1) n ys→W.grownBy w1 (some g)→(some g1=some g∨some g1=some W.heap.size)→
   BSt E g1 (w1.setCell ⟨E.bb,5,none⟩ (.slice (some ⟨g1,0,none⟩) n kc1)) {s with blocks:=s.blocks++[b]}∧Kp (nro E.ro) w (w1.setCell ⟨E.bb,5,none⟩ (.slice (some ⟨g1,0,none⟩) n kc1)):=by
 obtain⟨role,sv,cv,kc,bs,h⟩:=h
 refine⟨sv,kc,bs.flatMap bkCells,h.body,own_shape h.stack,fun e=> ?_,fun W k=>k.own h.blocks (fun _ _ h=>h),fun b rv W w1 g1 kc1 n ys h0 kW h1 h2 h3 h4 h5 h6 h7=>push_end h b h0 kW h1 h2 h3 h4 h5 h6 h7⟩
 have :=h.r5;cases e;rw[h.r3]at this;cases this

end

end Go.Proofs.YtdeplgkhmebalaaGreatDoor
