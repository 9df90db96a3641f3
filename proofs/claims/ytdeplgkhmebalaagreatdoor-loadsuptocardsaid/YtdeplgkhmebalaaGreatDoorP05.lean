/- The document's reader: the plain instructions without a number behind them. -/
import Derived.Test.YtdeplgkhmebalaaGreatDoorP04

set_option linter.unusedSimpArgs false
set_option linter.unusedVariables false
set_option maxHeartbeats 1000000
set_option maxRecDepth 100000
namespace Go.Proofs.YtdeplgkhmebalaaGreatDoor.Rf
open Go.RowKit

theorem plain_a {w0 w:World} {pb:Nat} {E:PE} {σ:PS} (h:PSt w pb E σ) (at_:Int):
  Calls Tryz.prog 217 #[ptr pb,nodeV 63 0 nilS nilS nilS 0,.int .i64 at_] w fun r w'=>Told w0 w w' pb 63 {n:=0,labels:=[],value:=0,take:=[],put:=[127],ok:=true} r∧PSt w' pb E σ∧Kp (one pb) w w':=by
 have HS:=hide h
 have hpb:=h.lt
 clear h
 go_enter Tryz.func217,Tryz.ntmps217
 go_wp2
 refine bodyPost_ret (v:= .tuple #[nodeV 63 0 nilS nilS nilS 0,nilS,.slice (some ⟨w.heap.size+1+1,0,none⟩) 1 1,.bool true]) (by simp[results,Tryz.results217,go_sem]) rfl ?_
 have h6:=six w (.cells #[.int .u8 (63:Nat),.int .u64 0,nilS,nilS,nilS,.int .i64 0] 309) (.cells #[.int .u8 (63:Nat),.int .u64 0,nilS,nilS,nilS,.int .i64 0] 309) (.cells #[.int .u8 127] 5) (.cells #[.int .u8 126] 5) (.cells #[.int .u8 127,.int .u8 127] 5) (.cells #[.int .u8 126,.int .u8 126] 5)
 exact⟨⟨nilS,_,_,rfl,labNil _ _ _,heldNil _ _ _ _,heldNew hpb (BytesAt.blk (l:=[127]) h6.1.1) (by omega)⟩,HS.out.no h6.2,h6.2.any⟩

theorem plain_b {w0 w:World} {pb:Nat} {E:PE} {σ:PS} (h:PSt w pb E σ) (at_:Int):
  Calls Tryz.prog 217 #[ptr pb,nodeV 64 0 nilS nilS nilS 0,.int .i64 at_] w fun r w'=>Told w0 w w' pb 64 {n:=0,labels:=[],value:=0,take:=[127],put:=[127],ok:=true} r∧PSt w' pb E σ∧Kp (one pb) w w':=by
 have HS:=hide h
 have hpb:=h.lt
 clear h
 go_enter Tryz.func217,Tryz.ntmps217
 go_wp2
 refine bodyPost_ret (v:= .tuple #[nodeV 64 0 nilS nilS nilS 0,.slice (some ⟨w.heap.size+1+1,0,none⟩) 1 1,.slice (some ⟨w.heap.size+1+1,0,none⟩) 1 1,.bool true]) (by simp[results,Tryz.results217,go_sem]) rfl ?_
 have h6:=six w (.cells #[.int .u8 (64:Nat),.int .u64 0,nilS,nilS,nilS,.int .i64 0] 309) (.cells #[.int .u8 (64:Nat),.int .u64 0,nilS,nilS,nilS,.int .i64 0] 309) (.cells #[.int .u8 127] 5) (.cells #[.int .u8 126] 5) (.cells #[.int .u8 127,.int .u8 127] 5) (.cells #[.int .u8 126,.int .u8 126] 5)
 exact⟨⟨nilS,_,_,rfl,labNil _ _ _,heldNew hpb (BytesAt.blk (l:=[127]) h6.1.1) (by omega),heldNew hpb (BytesAt.blk (l:=[127]) h6.1.1) (by omega)⟩,HS.out.no h6.2,h6.2.any⟩

theorem plain_c {w0 w:World} {pb:Nat} {E:PE} {σ:PS} (h:PSt w pb E σ) (at_:Int):
  Calls Tryz.prog 217 #[ptr pb,nodeV 69 0 nilS nilS nilS 0,.int .i64 at_] w fun r w'=>Told w0 w w' pb 69 {n:=0,labels:=[],value:=0,take:=[127],put:=[127],ok:=true} r∧PSt w' pb E σ∧Kp (one pb) w w':=by
 have HS:=hide h
 have hpb:=h.lt
 clear h
 go_enter Tryz.func217,Tryz.ntmps217
 go_wp2
 refine bodyPost_ret (v:= .tuple #[nodeV 69 0 nilS nilS nilS 0,.slice (some ⟨w.heap.size+1+1,0,none⟩) 1 1,.slice (some ⟨w.heap.size+1+1,0,none⟩) 1 1,.bool true]) (by simp[results,Tryz.results217,go_sem]) rfl ?_
 have h6:=six w (.cells #[.int .u8 (69:Nat),.int .u64 0,nilS,nilS,nilS,.int .i64 0] 309) (.cells #[.int .u8 (69:Nat),.int .u64 0,nilS,nilS,nilS,.int .i64 0] 309) (.cells #[.int .u8 127] 5) (.cells #[.int .u8 126] 5) (.cells #[.int .u8 127,.int .u8 127] 5) (.cells #[.int .u8 126,.int .u8 126] 5)
 exact⟨⟨nilS,_,_,rfl,labNil _ _ _,heldNew hpb (BytesAt.blk (l:=[127]) h6.1.1) (by omega),heldNew hpb (BytesAt.blk (l:=[127]) h6.1.1) (by omega)⟩,HS.out.no h6.2,h6.2.any⟩

theorem plain_d {w0 w:World} {pb:Nat} {E:PE} {σ:PS} (h:PSt w pb E σ) (at_:Int) (op:Nat) (h1:103≤op) (h2:op≤105):
  Calls Tryz.prog 217 #[ptr pb,nodeV op 0 nilS nilS nilS 0,.int .i64 at_] w fun r w'=>Told w0 w w' pb op {n:=0,labels:=[],value:=0,take:=[127],put:=[127],ok:=true} r∧PSt w' pb E σ∧Kp (one pb) w w':=by
 have HS:=hide h
 have hpb:=h.lt
 clear h
 have e35:((op:Int)==35)=false:=beq_eq_false_iff_ne.2 (by omega)
 have e36:((op:Int)==36)=false:=beq_eq_false_iff_ne.2 (by omega)
 have e63:((op:Int)==63)=false:=beq_eq_false_iff_ne.2 (by omega)
 have e64:((op:Int)==64)=false:=beq_eq_false_iff_ne.2 (by omega)
 have e69:((op:Int)==69)=false:=beq_eq_false_iff_ne.2 (by omega)
 have e65:((op:Int)==65)=false:=beq_eq_false_iff_ne.2 (by omega)
 have e66:((op:Int)==66)=false:=beq_eq_false_iff_ne.2 (by omega)
 have e80:((op:Int)==80)=false:=beq_eq_false_iff_ne.2 (by omega)
 have e167:((op:Int)==167)=false:=beq_eq_false_iff_ne.2 (by omega)
 have e224:((op:Int)==224)=false:=beq_eq_false_iff_ne.2 (by omega)
 have e172:((op:Int)==172)=false:=beq_eq_false_iff_ne.2 (by omega)
 have e173:((op:Int)==173)=false:=beq_eq_false_iff_ne.2 (by omega)
 have h1p:(103:Int)≤op:=by omega
 have h2p:(op:Int)≤105:=by omega
 go_enter Tryz.func217,Tryz.ntmps217
 go_wp2
 refine bodyPost_ret (v:= .tuple #[nodeV op 0 nilS nilS nilS 0,.slice (some ⟨w.heap.size+1+1,0,none⟩) 1 1,.slice (some ⟨w.heap.size+1+1,0,none⟩) 1 1,.bool true]) (by simp[results,Tryz.results217,go_sem]) rfl ?_
 have h6:=six w (.cells #[.int .u8 (op:Nat),.int .u64 0,nilS,nilS,nilS,.int .i64 0] 309) (.cells #[.int .u8 (op:Nat),.int .u64 0,nilS,nilS,nilS,.int .i64 0] 309) (.cells #[.int .u8 127] 5) (.cells #[.int .u8 126] 5) (.cells #[.int .u8 127,.int .u8 127] 5) (.cells #[.int .u8 126,.int .u8 126] 5)
 exact⟨⟨nilS,_,_,rfl,labNil _ _ _,heldNew hpb (BytesAt.blk (l:=[127]) h6.1.1) (by omega),heldNew hpb (BytesAt.blk (l:=[127]) h6.1.1) (by omega)⟩,HS.out.no h6.2,h6.2.any⟩

theorem plain_e {w0 w:World} {pb:Nat} {E:PE} {σ:PS} (h:PSt w pb E σ) (at_:Int) (op:Nat) (h1:70≤op) (h2:op≤79):
  Calls Tryz.prog 217 #[ptr pb,nodeV op 0 nilS nilS nilS 0,.int .i64 at_] w fun r w'=>Told w0 w w' pb op {n:=0,labels:=[],value:=0,take:=[127,127],put:=[127],ok:=true} r∧PSt w' pb E σ∧Kp (one pb) w w':=by
 have HS:=hide h
 have hpb:=h.lt
 clear h
 have e35:((op:Int)==35)=false:=beq_eq_false_iff_ne.2 (by omega)
 have e36:((op:Int)==36)=false:=beq_eq_false_iff_ne.2 (by omega)
 have e63:((op:Int)==63)=false:=beq_eq_false_iff_ne.2 (by omega)
 have e64:((op:Int)==64)=false:=beq_eq_false_iff_ne.2 (by omega)
 have e69:((op:Int)==69)=false:=beq_eq_false_iff_ne.2 (by omega)
 have e65:((op:Int)==65)=false:=beq_eq_false_iff_ne.2 (by omega)
 have e66:((op:Int)==66)=false:=beq_eq_false_iff_ne.2 (by omega)
 have e80:((op:Int)==80)=false:=beq_eq_false_iff_ne.2 (by omega)
 have e167:((op:Int)==167)=false:=beq_eq_false_iff_ne.2 (by omega)
 have e224:((op:Int)==224)=false:=beq_eq_false_iff_ne.2 (by omega)
 have e172:((op:Int)==172)=false:=beq_eq_false_iff_ne.2 (by omega)
 have e173:((op:Int)==173)=false:=beq_eq_false_iff_ne.2 (by omega)
 have h1p:(70:Int)≤op:=by omega
 have h2p:(op:Int)≤79:=by omega
 go_enter Tryz.func217,Tryz.ntmps217
 go_wp2
 refine bodyPost_ret (v:= .tuple #[nodeV op 0 nilS nilS nilS 0,.slice (some ⟨w.heap.size+1+1+1+1,0,none⟩) 2 2,.slice (some ⟨w.heap.size+1+1,0,none⟩) 1 1,.bool true]) (by simp[results,Tryz.results217,go_sem]) rfl ?_
 have h6:=six w (.cells #[.int .u8 (op:Nat),.int .u64 0,nilS,nilS,nilS,.int .i64 0] 309) (.cells #[.int .u8 (op:Nat),.int .u64 0,nilS,nilS,nilS,.int .i64 0] 309) (.cells #[.int .u8 127] 5) (.cells #[.int .u8 126] 5) (.cells #[.int .u8 127,.int .u8 127] 5) (.cells #[.int .u8 126,.int .u8 126] 5)
 exact⟨⟨nilS,_,_,rfl,labNil _ _ _,heldNew hpb (BytesAt.blk (l:=[127,127]) h6.1.2.2.1) (by omega),heldNew hpb (BytesAt.blk (l:=[127]) h6.1.1) (by omega)⟩,HS.out.no h6.2,h6.2.any⟩

theorem plain_f {w0 w:World} {pb:Nat} {E:PE} {σ:PS} (h:PSt w pb E σ) (at_:Int) (op:Nat) (h1:106≤op) (h2:op≤120):
  Calls Tryz.prog 217 #[ptr pb,nodeV op 0 nilS nilS nilS 0,.int .i64 at_] w fun r w'=>Told w0 w w' pb op {n:=0,labels:=[],value:=0,take:=[127,127],put:=[127],ok:=true} r∧PSt w' pb E σ∧Kp (one pb) w w':=by
 have HS:=hide h
 have hpb:=h.lt
 clear h
 have e35:((op:Int)==35)=false:=beq_eq_false_iff_ne.2 (by omega)
 have e36:((op:Int)==36)=false:=beq_eq_false_iff_ne.2 (by omega)
 have e63:((op:Int)==63)=false:=beq_eq_false_iff_ne.2 (by omega)
 have e64:((op:Int)==64)=false:=beq_eq_false_iff_ne.2 (by omega)
 have e69:((op:Int)==69)=false:=beq_eq_false_iff_ne.2 (by omega)
 have e65:((op:Int)==65)=false:=beq_eq_false_iff_ne.2 (by omega)
 have e66:((op:Int)==66)=false:=beq_eq_false_iff_ne.2 (by omega)
 have e80:((op:Int)==80)=false:=beq_eq_false_iff_ne.2 (by omega)
 have e167:((op:Int)==167)=false:=beq_eq_false_iff_ne.2 (by omega)
 have e224:((op:Int)==224)=false:=beq_eq_false_iff_ne.2 (by omega)
 have e172:((op:Int)==172)=false:=beq_eq_false_iff_ne.2 (by omega)
 have e173:((op:Int)==173)=false:=beq_eq_false_iff_ne.2 (by omega)
 have h1p:(106:Int)≤op:=by omega
 have h2p:(op:Int)≤120:=by omega
 go_enter Tryz.func217,Tryz.ntmps217
 go_wp2
 refine bodyPost_ret (v:= .tuple #[nodeV op 0 nilS nilS nilS 0,.slice (some ⟨w.heap.size+1+1+1+1,0,none⟩) 2 2,.slice (some ⟨w.heap.size+1+1,0,none⟩) 1 1,.bool true]) (by simp[results,Tryz.results217,go_sem]) rfl ?_
 have h6:=six w (.cells #[.int .u8 (op:Nat),.int .u64 0,nilS,nilS,nilS,.int .i64 0] 309) (.cells #[.int .u8 (op:Nat),.int .u64 0,nilS,nilS,nilS,.int .i64 0] 309) (.cells #[.int .u8 127] 5) (.cells #[.int .u8 126] 5) (.cells #[.int .u8 127,.int .u8 127] 5) (.cells #[.int .u8 126,.int .u8 126] 5)
 exact⟨⟨nilS,_,_,rfl,labNil _ _ _,heldNew hpb (BytesAt.blk (l:=[127,127]) h6.1.2.2.1) (by omega),heldNew hpb (BytesAt.blk (l:=[127]) h6.1.1) (by omega)⟩,HS.out.no h6.2,h6.2.any⟩

theorem plain_g {w0 w:World} {pb:Nat} {E:PE} {σ:PS} (h:PSt w pb E σ) (at_:Int):
  Calls Tryz.prog 217 #[ptr pb,nodeV 80 0 nilS nilS nilS 0,.int .i64 at_] w fun r w'=>Told w0 w w' pb 80 {n:=0,labels:=[],value:=0,take:=[126],put:=[127],ok:=true} r∧PSt w' pb E σ∧Kp (one pb) w w':=by
 have HS:=hide h
 have hpb:=h.lt
 clear h
 go_enter Tryz.func217,Tryz.ntmps217
 go_wp2
 refine bodyPost_ret (v:= .tuple #[nodeV 80 0 nilS nilS nilS 0,.slice (some ⟨w.heap.size+1+1+1,0,none⟩) 1 1,.slice (some ⟨w.heap.size+1+1,0,none⟩) 1 1,.bool true]) (by simp[results,Tryz.results217,go_sem]) rfl ?_
 have h6:=six w (.cells #[.int .u8 (80:Nat),.int .u64 0,nilS,nilS,nilS,.int .i64 0] 309) (.cells #[.int .u8 (80:Nat),.int .u64 0,nilS,nilS,nilS,.int .i64 0] 309) (.cells #[.int .u8 127] 5) (.cells #[.int .u8 126] 5) (.cells #[.int .u8 127,.int .u8 127] 5) (.cells #[.int .u8 126,.int .u8 126] 5)
 exact⟨⟨nilS,_,_,rfl,labNil _ _ _,heldNew hpb (BytesAt.blk (l:=[126]) h6.1.2.1) (by omega),heldNew hpb (BytesAt.blk (l:=[127]) h6.1.1) (by omega)⟩,HS.out.no h6.2,h6.2.any⟩

theorem plain_h {w0 w:World} {pb:Nat} {E:PE} {σ:PS} (h:PSt w pb E σ) (at_:Int):
  Calls Tryz.prog 217 #[ptr pb,nodeV 167 0 nilS nilS nilS 0,.int .i64 at_] w fun r w'=>Told w0 w w' pb 167 {n:=0,labels:=[],value:=0,take:=[126],put:=[127],ok:=true} r∧PSt w' pb E σ∧Kp (one pb) w w':=by
 have HS:=hide h
 have hpb:=h.lt
 clear h
 go_enter Tryz.func217,Tryz.ntmps217
 go_wp2
 refine bodyPost_ret (v:= .tuple #[nodeV 167 0 nilS nilS nilS 0,.slice (some ⟨w.heap.size+1+1+1,0,none⟩) 1 1,.slice (some ⟨w.heap.size+1+1,0,none⟩) 1 1,.bool true]) (by simp[results,Tryz.results217,go_sem]) rfl ?_
 have h6:=six w (.cells #[.int .u8 (167:Nat),.int .u64 0,nilS,nilS,nilS,.int .i64 0] 309) (.cells #[.int .u8 (167:Nat),.int .u64 0,nilS,nilS,nilS,.int .i64 0] 309) (.cells #[.int .u8 127] 5) (.cells #[.int .u8 126] 5) (.cells #[.int .u8 127,.int .u8 127] 5) (.cells #[.int .u8 126,.int .u8 126] 5)
 exact⟨⟨nilS,_,_,rfl,labNil _ _ _,heldNew hpb (BytesAt.blk (l:=[126]) h6.1.2.1) (by omega),heldNew hpb (BytesAt.blk (l:=[127]) h6.1.1) (by omega)⟩,HS.out.no h6.2,h6.2.any⟩

theorem plain_j {w0 w:World} {pb:Nat} {E:PE} {σ:PS} (h:PSt w pb E σ) (at_:Int) (op:Nat) (h1:81≤op) (h2:op≤90):
  Calls Tryz.prog 217 #[ptr pb,nodeV op 0 nilS nilS nilS 0,.int .i64 at_] w fun r w'=>Told w0 w w' pb op {n:=0,labels:=[],value:=0,take:=[126,126],put:=[127],ok:=true} r∧PSt w' pb E σ∧Kp (one pb) w w':=by
 have HS:=hide h
 have hpb:=h.lt
 clear h
 have e35:((op:Int)==35)=false:=beq_eq_false_iff_ne.2 (by omega)
 have e36:((op:Int)==36)=false:=beq_eq_false_iff_ne.2 (by omega)
 have e63:((op:Int)==63)=false:=beq_eq_false_iff_ne.2 (by omega)
 have e64:((op:Int)==64)=false:=beq_eq_false_iff_ne.2 (by omega)
 have e69:((op:Int)==69)=false:=beq_eq_false_iff_ne.2 (by omega)
 have e65:((op:Int)==65)=false:=beq_eq_false_iff_ne.2 (by omega)
 have e66:((op:Int)==66)=false:=beq_eq_false_iff_ne.2 (by omega)
 have e80:((op:Int)==80)=false:=beq_eq_false_iff_ne.2 (by omega)
 have e167:((op:Int)==167)=false:=beq_eq_false_iff_ne.2 (by omega)
 have e224:((op:Int)==224)=false:=beq_eq_false_iff_ne.2 (by omega)
 have e172:((op:Int)==172)=false:=beq_eq_false_iff_ne.2 (by omega)
 have e173:((op:Int)==173)=false:=beq_eq_false_iff_ne.2 (by omega)
 have h1p:(81:Int)≤op:=by omega
 have h2p:(op:Int)≤90:=by omega
 go_enter Tryz.func217,Tryz.ntmps217
 go_wp2
 refine bodyPost_ret (v:= .tuple #[nodeV op 0 nilS nilS nilS 0,.slice (some ⟨w.heap.size+1+1+1+1+1,0,none⟩) 2 2,.slice (some ⟨w.heap.size+1+1,0,none⟩) 1 1,.bool true]) (by simp[results,Tryz.results217,go_sem]) rfl ?_
 have h6:=six w (.cells #[.int .u8 (op:Nat),.int .u64 0,nilS,nilS,nilS,.int .i64 0] 309) (.cells #[.int .u8 (op:Nat),.int .u64 0,nilS,nilS,nilS,.int .i64 0] 309) (.cells #[.int .u8 127] 5) (.cells #[.int .u8 126] 5) (.cells #[.int .u8 127,.int .u8 127] 5) (.cells #[.int .u8 126,.int .u8 126] 5)
 exact⟨⟨nilS,_,_,rfl,labNil _ _ _,heldNew hpb (BytesAt.blk (l:=[126,126]) h6.1.2.2.2) (by omega),heldNew hpb (BytesAt.blk (l:=[127]) h6.1.1) (by omega)⟩,HS.out.no h6.2,h6.2.any⟩

theorem plain_k {w0 w:World} {pb:Nat} {E:PE} {σ:PS} (h:PSt w pb E σ) (at_:Int) (op:Nat) (h1:121≤op) (h2:op≤123):
  Calls Tryz.prog 217 #[ptr pb,nodeV op 0 nilS nilS nilS 0,.int .i64 at_] w fun r w'=>Told w0 w w' pb op {n:=0,labels:=[],value:=0,take:=[126],put:=[126],ok:=true} r∧PSt w' pb E σ∧Kp (one pb) w w':=by
 have HS:=hide h
 have hpb:=h.lt
 clear h
 have e35:((op:Int)==35)=false:=beq_eq_false_iff_ne.2 (by omega)
 have e36:((op:Int)==36)=false:=beq_eq_false_iff_ne.2 (by omega)
 have e63:((op:Int)==63)=false:=beq_eq_false_iff_ne.2 (by omega)
 have e64:((op:Int)==64)=false:=beq_eq_false_iff_ne.2 (by omega)
 have e69:((op:Int)==69)=false:=beq_eq_false_iff_ne.2 (by omega)
 have e65:((op:Int)==65)=false:=beq_eq_false_iff_ne.2 (by omega)
 have e66:((op:Int)==66)=false:=beq_eq_false_iff_ne.2 (by omega)
 have e80:((op:Int)==80)=false:=beq_eq_false_iff_ne.2 (by omega)
 have e167:((op:Int)==167)=false:=beq_eq_false_iff_ne.2 (by omega)
 have e224:((op:Int)==224)=false:=beq_eq_false_iff_ne.2 (by omega)
 have e172:((op:Int)==172)=false:=beq_eq_false_iff_ne.2 (by omega)
 have e173:((op:Int)==173)=false:=beq_eq_false_iff_ne.2 (by omega)
 have h1p:(121:Int)≤op:=by omega
 have h2p:(op:Int)≤123:=by omega
 go_enter Tryz.func217,Tryz.ntmps217
 go_wp2
 refine bodyPost_ret (v:= .tuple #[nodeV op 0 nilS nilS nilS 0,.slice (some ⟨w.heap.size+1+1+1,0,none⟩) 1 1,.slice (some ⟨w.heap.size+1+1+1,0,none⟩) 1 1,.bool true]) (by simp[results,Tryz.results217,go_sem]) rfl ?_
 have h6:=six w (.cells #[.int .u8 (op:Nat),.int .u64 0,nilS,nilS,nilS,.int .i64 0] 309) (.cells #[.int .u8 (op:Nat),.int .u64 0,nilS,nilS,nilS,.int .i64 0] 309) (.cells #[.int .u8 127] 5) (.cells #[.int .u8 126] 5) (.cells #[.int .u8 127,.int .u8 127] 5) (.cells #[.int .u8 126,.int .u8 126] 5)
 exact⟨⟨nilS,_,_,rfl,labNil _ _ _,heldNew hpb (BytesAt.blk (l:=[126]) h6.1.2.1) (by omega),heldNew hpb (BytesAt.blk (l:=[126]) h6.1.2.1) (by omega)⟩,HS.out.no h6.2,h6.2.any⟩

theorem plain_l {w0 w:World} {pb:Nat} {E:PE} {σ:PS} (h:PSt w pb E σ) (at_:Int):
  Calls Tryz.prog 217 #[ptr pb,nodeV 224 0 nilS nilS nilS 0,.int .i64 at_] w fun r w'=>Told w0 w w' pb 224 {n:=0,labels:=[],value:=0,take:=[126],put:=[126],ok:=true} r∧PSt w' pb E σ∧Kp (one pb) w w':=by
 have HS:=hide h
 have hpb:=h.lt
 clear h
 go_enter Tryz.func217,Tryz.ntmps217
 go_wp2
 refine bodyPost_ret (v:= .tuple #[nodeV 224 0 nilS nilS nilS 0,.slice (some ⟨w.heap.size+1+1+1,0,none⟩) 1 1,.slice (some ⟨w.heap.size+1+1+1,0,none⟩) 1 1,.bool true]) (by simp[results,Tryz.results217,go_sem]) rfl ?_
 have h6:=six w (.cells #[.int .u8 (224:Nat),.int .u64 0,nilS,nilS,nilS,.int .i64 0] 309) (.cells #[.int .u8 (224:Nat),.int .u64 0,nilS,nilS,nilS,.int .i64 0] 309) (.cells #[.int .u8 127] 5) (.cells #[.int .u8 126] 5) (.cells #[.int .u8 127,.int .u8 127] 5) (.cells #[.int .u8 126,.int .u8 126] 5)
 exact⟨⟨nilS,_,_,rfl,labNil _ _ _,heldNew hpb (BytesAt.blk (l:=[126]) h6.1.2.1) (by omega),heldNew hpb (BytesAt.blk (l:=[126]) h6.1.2.1) (by omega)⟩,HS.out.no h6.2,h6.2.any⟩

theorem plain_m {w0 w:World} {pb:Nat} {E:PE} {σ:PS} (h:PSt w pb E σ) (at_:Int) (op:Nat) (h1:124≤op) (h2:op≤138):
  Calls Tryz.prog 217 #[ptr pb,nodeV op 0 nilS nilS nilS 0,.int .i64 at_] w fun r w'=>Told w0 w w' pb op {n:=0,labels:=[],value:=0,take:=[126,126],put:=[126],ok:=true} r∧PSt w' pb E σ∧Kp (one pb) w w':=by
 have HS:=hide h
 have hpb:=h.lt
 clear h
 have e35:((op:Int)==35)=false:=beq_eq_false_iff_ne.2 (by omega)
 have e36:((op:Int)==36)=false:=beq_eq_false_iff_ne.2 (by omega)
 have e63:((op:Int)==63)=false:=beq_eq_false_iff_ne.2 (by omega)
 have e64:((op:Int)==64)=false:=beq_eq_false_iff_ne.2 (by omega)
 have e69:((op:Int)==69)=false:=beq_eq_false_iff_ne.2 (by omega)
 have e65:((op:Int)==65)=false:=beq_eq_false_iff_ne.2 (by omega)
 have e66:((op:Int)==66)=false:=beq_eq_false_iff_ne.2 (by omega)
 have e80:((op:Int)==80)=false:=beq_eq_false_iff_ne.2 (by omega)
 have e167:((op:Int)==167)=false:=beq_eq_false_iff_ne.2 (by omega)
 have e224:((op:Int)==224)=false:=beq_eq_false_iff_ne.2 (by omega)
 have e172:((op:Int)==172)=false:=beq_eq_false_iff_ne.2 (by omega)
 have e173:((op:Int)==173)=false:=beq_eq_false_iff_ne.2 (by omega)
 have h1p:(124:Int)≤op:=by omega
 have h2p:(op:Int)≤138:=by omega
 go_enter Tryz.func217,Tryz.ntmps217
 go_wp2
 refine bodyPost_ret (v:= .tuple #[nodeV op 0 nilS nilS nilS 0,.slice (some ⟨w.heap.size+1+1+1+1+1,0,none⟩) 2 2,.slice (some ⟨w.heap.size+1+1+1,0,none⟩) 1 1,.bool true]) (by simp[results,Tryz.results217,go_sem]) rfl ?_
 have h6:=six w (.cells #[.int .u8 (op:Nat),.int .u64 0,nilS,nilS,nilS,.int .i64 0] 309) (.cells #[.int .u8 (op:Nat),.int .u64 0,nilS,nilS,nilS,.int .i64 0] 309) (.cells #[.int .u8 127] 5) (.cells #[.int .u8 126] 5) (.cells #[.int .u8 127,.int .u8 127] 5) (.cells #[.int .u8 126,.int .u8 126] 5)
 exact⟨⟨nilS,_,_,rfl,labNil _ _ _,heldNew hpb (BytesAt.blk (l:=[126,126]) h6.1.2.2.2) (by omega),heldNew hpb (BytesAt.blk (l:=[126]) h6.1.2.1) (by omega)⟩,HS.out.no h6.2,h6.2.any⟩

theorem plain_n {w0 w:World} {pb:Nat} {E:PE} {σ:PS} (h:PSt w pb E σ) (at_:Int):
  Calls Tryz.prog 217 #[ptr pb,nodeV 172 0 nilS nilS nilS 0,.int .i64 at_] w fun r w'=>Told w0 w w' pb 172 {n:=0,labels:=[],value:=0,take:=[127],put:=[126],ok:=true} r∧PSt w' pb E σ∧Kp (one pb) w w':=by
 have HS:=hide h
 have hpb:=h.lt
 clear h
 go_enter Tryz.func217,Tryz.ntmps217
 go_wp2
 refine bodyPost_ret (v:= .tuple #[nodeV 172 0 nilS nilS nilS 0,.slice (some ⟨w.heap.size+1+1,0,none⟩) 1 1,.slice (some ⟨w.heap.size+1+1+1,0,none⟩) 1 1,.bool true]) (by simp[results,Tryz.results217,go_sem]) rfl ?_
 have h6:=six w (.cells #[.int .u8 (172:Nat),.int .u64 0,nilS,nilS,nilS,.int .i64 0] 309) (.cells #[.int .u8 (172:Nat),.int .u64 0,nilS,nilS,nilS,.int .i64 0] 309) (.cells #[.int .u8 127] 5) (.cells #[.int .u8 126] 5) (.cells #[.int .u8 127,.int .u8 127] 5) (.cells #[.int .u8 126,.int .u8 126] 5)
 exact⟨⟨nilS,_,_,rfl,labNil _ _ _,heldNew hpb (BytesAt.blk (l:=[127]) h6.1.1) (by omega),heldNew hpb (BytesAt.blk (l:=[126]) h6.1.2.1) (by omega)⟩,HS.out.no h6.2,h6.2.any⟩

theorem plain_n2 {w0 w:World} {pb:Nat} {E:PE} {σ:PS} (h:PSt w pb E σ) (at_:Int):
  Calls Tryz.prog 217 #[ptr pb,nodeV 173 0 nilS nilS nilS 0,.int .i64 at_] w fun r w'=>Told w0 w w' pb 173 {n:=0,labels:=[],value:=0,take:=[127],put:=[126],ok:=true} r∧PSt w' pb E σ∧Kp (one pb) w w':=by
 have HS:=hide h
 have hpb:=h.lt
 clear h
 go_enter Tryz.func217,Tryz.ntmps217
 go_wp2
 refine bodyPost_ret (v:= .tuple #[nodeV 173 0 nilS nilS nilS 0,.slice (some ⟨w.heap.size+1+1,0,none⟩) 1 1,.slice (some ⟨w.heap.size+1+1+1,0,none⟩) 1 1,.bool true]) (by simp[results,Tryz.results217,go_sem]) rfl ?_
 have h6:=six w (.cells #[.int .u8 (173:Nat),.int .u64 0,nilS,nilS,nilS,.int .i64 0] 309) (.cells #[.int .u8 (173:Nat),.int .u64 0,nilS,nilS,nilS,.int .i64 0] 309) (.cells #[.int .u8 127] 5) (.cells #[.int .u8 126] 5) (.cells #[.int .u8 127,.int .u8 127] 5) (.cells #[.int .u8 126,.int .u8 126] 5)
 exact⟨⟨nilS,_,_,rfl,labNil _ _ _,heldNew hpb (BytesAt.blk (l:=[127]) h6.1.1) (by omega),heldNew hpb (BytesAt.blk (l:=[126]) h6.1.2.1) (by omega)⟩,HS.out.no h6.2,h6.2.any⟩

theorem plain_o {w0 w:World} {pb:Nat} {E:PE} {σ:PS} (h:PSt w pb E σ) (at_:Int):
  Calls Tryz.prog 217 #[ptr pb,nodeV 225 0 nilS nilS nilS 0,.int .i64 at_] w fun r w'=>Told w0 w w' pb 225 {n:=0,labels:=[],value:=0,take:=[126,126],put:=[],ok:=true} r∧PSt w' pb E σ∧Kp (one pb) w w':=by
 have HS:=hide h
 have hpb:=h.lt
 clear h
 go_enter Tryz.func217,Tryz.ntmps217
 go_wp2
 refine bodyPost_ret (v:= .tuple #[nodeV 225 0 nilS nilS nilS 0,.slice (some ⟨w.heap.size+1+1+1+1+1,0,none⟩) 2 2,nilS,.bool true]) (by simp[results,Tryz.results217,go_sem]) rfl ?_
 have h6:=six w (.cells #[.int .u8 (225:Nat),.int .u64 0,nilS,nilS,nilS,.int .i64 0] 309) (.cells #[.int .u8 (225:Nat),.int .u64 0,nilS,nilS,nilS,.int .i64 0] 309) (.cells #[.int .u8 127] 5) (.cells #[.int .u8 126] 5) (.cells #[.int .u8 127,.int .u8 127] 5) (.cells #[.int .u8 126,.int .u8 126] 5)
 exact⟨⟨nilS,_,_,rfl,labNil _ _ _,heldNew hpb (BytesAt.blk (l:=[126,126]) h6.1.2.2.2) (by omega),heldNil _ _ _ _⟩,HS.out.no h6.2,h6.2.any⟩

end Go.Proofs.YtdeplgkhmebalaaGreatDoor.Rf
