/- What the walks want of the program: its types and functions by number; no condition. -/
import Derived.Test.YtobfeflheaobiaaGreatDoorProg
import Derived.KernelRfl
import Derived.Test.YtobfeflheaobiaaGreatDoorSv
namespace Go.Proofs.YtobfeflheaobiaaGreatDoor
theorem ep:IdTy Tryz.prog 26 5:=⟨Tryz.underlying26,by kernel_rfl,Tryz.underlying5,by kernel_rfl,by rw [en,eY];kernel_rfl⟩
theorem a6:Row Tryz.prog 24 3:=⟨⟨_,Tryz.underlying24,rfl⟩,by kernel_rfl⟩
theorem aP:Row Tryz.prog 26 32:=⟨⟨_,Tryz.underlying26,rfl⟩,by kernel_rfl⟩
theorem cy:Row Tryz.prog 28 34:=⟨⟨_,Tryz.underlying28,rfl⟩,by kernel_rfl⟩
theorem ck:Row Tryz.prog 31 71:=⟨⟨_,Tryz.underlying31,rfl⟩,by kernel_rfl⟩
theorem aT:Row Tryz.prog 67 67:=⟨⟨_,Tryz.underlying67,rfl⟩,by kernel_rfl⟩
theorem HC:Row Tryz.prog 71 139:=⟨⟨_,Tryz.underlying71,rfl⟩,by kernel_rfl⟩
theorem qz:Row Tryz.prog 89 6:=⟨⟨_,Tryz.underlying89,rfl⟩,by kernel_rfl⟩
theorem G9:Row Tryz.prog 94 71:=⟨⟨_,Tryz.underlying94,rfl⟩,by kernel_rfl⟩
theorem yw:Row Tryz.prog 95 71:=⟨⟨_,Tryz.underlying95,rfl⟩,by kernel_rfl⟩
theorem gu:Row Tryz.prog 103 3:=⟨⟨_,Tryz.underlying103,rfl⟩,by kernel_rfl⟩
theorem pb:Row Tryz.prog 107 73:=⟨⟨_,Tryz.underlying107,rfl⟩,by kernel_rfl⟩
theorem yA:Row Tryz.prog 134 4:=⟨⟨_,Tryz.underlying134,rfl⟩,by kernel_rfl⟩
theorem tZ:Row Tryz.prog 184 16:=⟨⟨_,Tryz.underlying184,rfl⟩,by kernel_rfl⟩
theorem iB:Row Tryz.prog 192 8:=⟨⟨_,Tryz.underlying192,rfl⟩,by kernel_rfl⟩
theorem fU:Row Tryz.prog 197 64:=⟨⟨_,Tryz.underlying197,rfl⟩,by kernel_rfl⟩
theorem pa:Row Tryz.prog 199 64:=⟨⟨_,Tryz.underlying199,rfl⟩,by kernel_rfl⟩
theorem bJ:One Tryz.prog 3:=⟨⟨_,Tryz.underlying3,rfl⟩,by kernel_rfl⟩
theorem fb:One Tryz.prog 4:=⟨⟨_,Tryz.underlying4,rfl⟩,by kernel_rfl⟩
theorem jo:One Tryz.prog 5:=⟨⟨_,Tryz.underlying5,rfl⟩,by kernel_rfl⟩
theorem fa:One Tryz.prog 9:=⟨⟨_,Tryz.underlying9,rfl⟩,by kernel_rfl⟩
theorem di:One Tryz.prog 22:=⟨⟨_,Tryz.underlying22,rfl⟩,by kernel_rfl⟩
theorem eE:One Tryz.prog 29:=⟨⟨_,Tryz.underlying29,rfl⟩,by kernel_rfl⟩
theorem Ik:One Tryz.prog 35:=⟨⟨_,Tryz.underlying35,rfl⟩,by kernel_rfl⟩
theorem zy:One Tryz.prog 84:=⟨⟨_,Tryz.underlying84,rfl⟩,by kernel_rfl⟩
theorem E6:One Tryz.prog 101:=⟨⟨_,Tryz.underlying101,rfl⟩,by kernel_rfl⟩
theorem nq:One Tryz.prog 167:=⟨⟨_,Tryz.underlying167,rfl⟩,by kernel_rfl⟩
theorem dN:One Tryz.prog 180:=⟨⟨_,Tryz.underlying180,rfl⟩,by kernel_rfl⟩
theorem Ee:(Tryz.prog.info? 22).map (·.size)=some 1:=by kernel_rfl
theorem l6:(Tryz.prog.info? 28).map (·.size)=some 34:=by kernel_rfl
theorem Eh:(Tryz.prog.info? 29).map (·.size)=some 1:=by kernel_rfl
theorem cZ:(Tryz.prog.info? 67).map (·.size)=some 67:=by kernel_rfl
theorem yz:(Tryz.prog.info? 71).map (·.size)=some 139:=by kernel_rfl
theorem Fx:(Tryz.prog.info? 107).map (·.size)=some 73:=by kernel_rfl
theorem C8:Fld Tryz.prog 24 0 0:=⟨⟨_,_,0,Tryz.underlying24,rfl,by kernel_rfl,rfl⟩⟩
theorem B0:Fld Tryz.prog 24 1 1:=⟨⟨_,_,0,Tryz.underlying24,rfl,by kernel_rfl,rfl⟩⟩
theorem B3:Fld Tryz.prog 24 2 2:=⟨⟨_,_,0,Tryz.underlying24,rfl,by kernel_rfl,rfl⟩⟩
theorem Bd:Fld Tryz.prog 28 0 0:=⟨⟨_,_,0,Tryz.underlying28,rfl,by kernel_rfl,rfl⟩⟩
theorem CH:Fld Tryz.prog 28 1 1:=⟨⟨_,_,31,Tryz.underlying28,rfl,by kernel_rfl,rfl⟩⟩
theorem C5:Fld Tryz.prog 28 2 33:=⟨⟨_,_,0,Tryz.underlying28,rfl,by kernel_rfl,rfl⟩⟩
theorem u4:Fld Tryz.prog 31 0 0:=⟨⟨_,_,0,Tryz.underlying31,rfl,by kernel_rfl,rfl⟩⟩
theorem CK:Fld Tryz.prog 31 1 1:=⟨⟨_,_,31,Tryz.underlying31,rfl,by kernel_rfl,rfl⟩⟩
theorem Bg:Fld Tryz.prog 31 2 33:=⟨⟨_,_,33,Tryz.underlying31,rfl,by kernel_rfl,rfl⟩⟩
theorem Cu:Fld Tryz.prog 31 3 67:=⟨⟨_,_,0,Tryz.underlying31,rfl,by kernel_rfl,rfl⟩⟩
theorem DA:Fld Tryz.prog 31 4 68:=⟨⟨_,_,0,Tryz.underlying31,rfl,by kernel_rfl,rfl⟩⟩
theorem Bp:Fld Tryz.prog 31 5 69:=⟨⟨_,_,0,Tryz.underlying31,rfl,by kernel_rfl,rfl⟩⟩
theorem Bt:Fld Tryz.prog 31 6 70:=⟨⟨_,_,0,Tryz.underlying31,rfl,by kernel_rfl,rfl⟩⟩
theorem BY:Fld Tryz.prog 44 0 0:=⟨⟨_,_,2,Tryz.underlying44,rfl,by kernel_rfl,rfl⟩⟩
theorem BD:Fld Tryz.prog 44 1 3:=⟨⟨_,_,0,Tryz.underlying44,rfl,by kernel_rfl,rfl⟩⟩
theorem CS:Fld Tryz.prog 67 0 0:=⟨⟨_,_,31,Tryz.underlying67,rfl,by kernel_rfl,rfl⟩⟩
theorem BR:Fld Tryz.prog 67 1 32:=⟨⟨_,_,33,Tryz.underlying67,rfl,by kernel_rfl,rfl⟩⟩
theorem pj:Fld Tryz.prog 67 2 66:=⟨⟨_,_,0,Tryz.underlying67,rfl,by kernel_rfl,rfl⟩⟩
theorem uF:Fld Tryz.prog 71 0 0:=⟨⟨_,_,0,Tryz.underlying71,rfl,by kernel_rfl,rfl⟩⟩
theorem wq:Fld Tryz.prog 71 1 1:=⟨⟨_,_,70,Tryz.underlying71,rfl,by kernel_rfl,rfl⟩⟩
theorem BS:Fld Tryz.prog 71 2 72:=⟨⟨_,_,66,Tryz.underlying71,rfl,by kernel_rfl,rfl⟩⟩
theorem Cm:Fld Tryz.prog 89 0 0:=⟨⟨_,_,0,Tryz.underlying89,rfl,by kernel_rfl,rfl⟩⟩
theorem Dw:Fld Tryz.prog 89 1 1:=⟨⟨_,_,0,Tryz.underlying89,rfl,by kernel_rfl,rfl⟩⟩
theorem Bm:Fld Tryz.prog 89 2 2:=⟨⟨_,_,0,Tryz.underlying89,rfl,by kernel_rfl,rfl⟩⟩
theorem Cf:Fld Tryz.prog 89 3 3:=⟨⟨_,_,0,Tryz.underlying89,rfl,by kernel_rfl,rfl⟩⟩
theorem Dk:Fld Tryz.prog 89 4 4:=⟨⟨_,_,0,Tryz.underlying89,rfl,by kernel_rfl,rfl⟩⟩
theorem Cx:Fld Tryz.prog 89 5 5:=⟨⟨_,_,0,Tryz.underlying89,rfl,by kernel_rfl,rfl⟩⟩
theorem Du:Fld Tryz.prog 94 0 0:=⟨⟨_,_,70,Tryz.underlying94,rfl,by kernel_rfl,rfl⟩⟩
theorem BC:Fld Tryz.prog 95 0 0:=⟨⟨_,_,70,Tryz.underlying95,rfl,by kernel_rfl,rfl⟩⟩
theorem yY:Fld Tryz.prog 103 0 0:=⟨⟨_,_,0,Tryz.underlying103,rfl,by kernel_rfl,rfl⟩⟩
theorem AZ:Fld Tryz.prog 103 1 1:=⟨⟨_,_,0,Tryz.underlying103,rfl,by kernel_rfl,rfl⟩⟩
theorem z5:Fld Tryz.prog 103 2 2:=⟨⟨_,_,0,Tryz.underlying103,rfl,by kernel_rfl,rfl⟩⟩
theorem zd:Fld Tryz.prog 107 0 0:=⟨⟨_,_,0,Tryz.underlying107,rfl,by kernel_rfl,rfl⟩⟩
theorem yR:Fld Tryz.prog 107 1 1:=⟨⟨_,_,0,Tryz.underlying107,rfl,by kernel_rfl,rfl⟩⟩
theorem AL:Fld Tryz.prog 107 2 2:=⟨⟨_,_,2,Tryz.underlying107,rfl,by kernel_rfl,rfl⟩⟩
theorem yo:Fld Tryz.prog 107 3 5:=⟨⟨_,_,66,Tryz.underlying107,rfl,by kernel_rfl,rfl⟩⟩
theorem Ax:Fld Tryz.prog 107 4 72:=⟨⟨_,_,0,Tryz.underlying107,rfl,by kernel_rfl,rfl⟩⟩
theorem yO:Fld Tryz.prog 111 0 0:=⟨⟨_,_,0,Tryz.underlying111,rfl,by kernel_rfl,rfl⟩⟩
theorem AJ:Fld Tryz.prog 111 1 1:=⟨⟨_,_,70,Tryz.underlying111,rfl,by kernel_rfl,rfl⟩⟩
theorem zh:Fld Tryz.prog 133 0 0:=⟨⟨_,_,31,Tryz.underlying133,rfl,by kernel_rfl,rfl⟩⟩
theorem zb:Fld Tryz.prog 133 1 32:=⟨⟨_,_,33,Tryz.underlying133,rfl,by kernel_rfl,rfl⟩⟩
theorem IL:EqV Tryz.prog 2 26 (32*1) (fun xs=>xs.length=32*1∧∀ i,i<32→∃ n,(xs.drop (i*1)).take 1=[Value.int .u8 n]) tO:=EqV.arr (n:=32) (EqV.int .u8 Tryz.underlying5 (by kernel_rfl)) Tryz.underlying26 (by kernel_rfl)
theorem D0 (x y:cw):Hu Tryz.prog 3 28 34 (bc x) (bc y):=⟨_,EqV.struct' [(1,(fun xs=>∃ n,xs=[Value.int .i64 n])),(32*1,(fun xs=>xs.length=32*1∧∀ i,i<32→∃ n,(xs.drop (i*1)).take 1=[Value.int .u8 n])),(1,(fun xs=>∃ n,xs=[Value.int .i64 n]))] Tryz.underlying28 (by kernel_rfl) (by kernel_rfl) ⟨by decide,⟨E5,(EqV.int .i64 Tryz.underlying3 (by kernel_rfl)).up⟩,by decide,⟨tO,IL⟩,by decide,⟨E5,(EqV.int .i64 Tryz.underlying3 (by kernel_rfl)).up⟩,trivial⟩ ⟨rfl,rfl,rfl,rfl⟩,⟨by rw [Array.length_toList,aK],⟨_,vS _⟩,(by show _∧_;unfold jD;dsimp only;rw [uA];exact lw _ _),⟨_,uR _⟩,trivial⟩,⟨by rw [Array.length_toList,aK],⟨_,vS _⟩,(by show _∧_;unfold jD;dsimp only;rw [uA];exact lw _ _),⟨_,uR _⟩,trivial⟩⟩
theorem tM:Stt Tryz.prog 28 eZ:=⟨⟨_,Tryz.underlying28,rfl,fun i f hf=>by
 match i,hf with
 |0,hf=>cases hf;exact ⟨_,rfl,by kernel_rfl,rfl⟩
 |1,hf=>cases hf;exact ⟨_,rfl,by kernel_rfl,rfl⟩
 |2,hf=>cases hf;exact ⟨_,rfl,by kernel_rfl,rfl⟩
 |i+3,hf=>simp at hf⟩,by kernel_rfl⟩
theorem mw:Stt Tryz.prog 67 xT:=⟨⟨_,Tryz.underlying67,rfl,fun i f hf=>by
 match i,hf with
 |0,hf=>cases hf;exact ⟨_,rfl,by kernel_rfl,rfl⟩
 |1,hf=>cases hf;exact ⟨_,rfl,by kernel_rfl,rfl⟩
 |2,hf=>cases hf;exact ⟨_,rfl,by kernel_rfl,rfl⟩
 |i+3,hf=>simp at hf⟩,by kernel_rfl⟩
theorem KK (x y:Tg):Hu Tryz.prog 4 67 67 (au x) (au y):=by
 obtain ⟨V,E9,h1,h2⟩:=D0 x.2.1 y.2.1
 exact ⟨_,EqV.struct' [(32*1,(fun xs=>xs.length=32*1∧∀ i,i<32→∃ n,(xs.drop (i*1)).take 1=[Value.int .u8 n])),(34,V),(1,(fun xs=>∃ n,xs=[Value.int .i64 n]))] Tryz.underlying67 (by kernel_rfl) (by kernel_rfl) ⟨by decide,⟨tO,IL.up⟩,by decide,⟨tO,E9⟩,by decide,⟨E5,(EqV.int .i64 Tryz.underlying3 (by kernel_rfl)).up.up⟩,trivial⟩ ⟨rfl,rfl,rfl,rfl⟩,⟨by rw [Array.length_toList,ai],(by show _∧_;unfold jD;dsimp only;rw [rW];exact lw _ _),(by show V (jD _ _ _);unfold jD;dsimp only;rw [rX];exact h1),⟨_,uz _⟩,trivial⟩,⟨by rw [Array.length_toList,ai],(by show _∧_;unfold jD;dsimp only;rw [rW];exact lw _ _),(by show V (jD _ _ _);unfold jD;dsimp only;rw [rX];exact h2),⟨_,uz _⟩,trivial⟩⟩
theorem ms:Stt Tryz.prog 31 A7:=⟨⟨_,Tryz.underlying31,rfl,fun i f hf=>by
 match i,hf with
 |0,hf=>cases hf;exact ⟨_,rfl,by kernel_rfl,rfl⟩
 |1,hf=>cases hf;exact ⟨_,rfl,by kernel_rfl,rfl⟩
 |2,hf=>cases hf;exact ⟨_,rfl,by kernel_rfl,rfl⟩
 |3,hf=>cases hf;exact ⟨_,rfl,by kernel_rfl,rfl⟩
 |4,hf=>cases hf;exact ⟨_,rfl,by kernel_rfl,rfl⟩
 |5,hf=>cases hf;exact ⟨_,rfl,by kernel_rfl,rfl⟩
 |6,hf=>cases hf;exact ⟨_,rfl,by kernel_rfl,rfl⟩
 |i+7,hf=>simp at hf⟩,by kernel_rfl⟩
theorem I8:EqV Tryz.prog 2 184 (16*1) (fun xs=>xs.length=16*1∧∀ i,i<16→∃ n,(xs.drop (i*1)).take 1=[Value.int .u8 n]) tO:=EqV.arr (n:=16) (EqV.int .u8 Tryz.underlying5 (by kernel_rfl)) Tryz.underlying184 (by kernel_rfl)
theorem JD (x y:wU):Hu Tryz.prog 2 184 (16*1) (i0 x) (i0 y):=⟨_,I8,lw _ _,lw _ _⟩
theorem n6:Stt Tryz.prog 89 fZ:=⟨⟨_,Tryz.underlying89,rfl,fun i f hf=>by
 match i,hf with
 |0,hf=>cases hf;exact ⟨_,rfl,by kernel_rfl,rfl⟩
 |1,hf=>cases hf;exact ⟨_,rfl,by kernel_rfl,rfl⟩
 |2,hf=>cases hf;exact ⟨_,rfl,by kernel_rfl,rfl⟩
 |3,hf=>cases hf;exact ⟨_,rfl,by kernel_rfl,rfl⟩
 |4,hf=>cases hf;exact ⟨_,rfl,by kernel_rfl,rfl⟩
 |5,hf=>cases hf;exact ⟨_,rfl,by kernel_rfl,rfl⟩
 |i+6,hf=>simp at hf⟩,by kernel_rfl⟩
theorem Ix:Stt Tryz.prog 103 Kv:=⟨⟨_,Tryz.underlying103,rfl,fun i f hf=>by
 match i,hf with
 |0,hf=>cases hf;exact ⟨_,rfl,by kernel_rfl,rfl⟩
 |1,hf=>cases hf;exact ⟨_,rfl,by kernel_rfl,rfl⟩
 |2,hf=>cases hf;exact ⟨_,rfl,by kernel_rfl,rfl⟩
 |i+3,hf=>simp at hf⟩,by kernel_rfl⟩
theorem EZ:Stt Tryz.prog 107 GS:=⟨⟨_,Tryz.underlying107,rfl,fun i f hf=>by
 match i,hf with
 |0,hf=>cases hf;exact ⟨_,rfl,by kernel_rfl,rfl⟩
 |1,hf=>cases hf;exact ⟨_,rfl,by kernel_rfl,rfl⟩
 |2,hf=>cases hf;exact ⟨_,rfl,by kernel_rfl,rfl⟩
 |3,hf=>cases hf;exact ⟨_,rfl,by kernel_rfl,rfl⟩
 |4,hf=>cases hf;exact ⟨_,rfl,by kernel_rfl,rfl⟩
 |i+5,hf=>simp at hf⟩,by kernel_rfl⟩
theorem eG:Stt Tryz.prog 24 IU:=⟨⟨_,Tryz.underlying24,rfl,fun i f hf=>by
 match i,hf with
 |0,hf=>cases hf;exact ⟨_,rfl,by kernel_rfl,rfl⟩
 |1,hf=>cases hf;exact ⟨_,rfl,by kernel_rfl,rfl⟩
 |2,hf=>cases hf;exact ⟨_,rfl,by kernel_rfl,rfl⟩
 |i+3,hf=>simp at hf⟩,by kernel_rfl⟩
theorem ou:Stt Tryz.prog 71 JQ:=⟨⟨_,Tryz.underlying71,rfl,fun i f hf=>by
 match i,hf with
 |0,hf=>cases hf;exact ⟨_,rfl,by kernel_rfl,rfl⟩
 |1,hf=>cases hf;exact ⟨_,rfl,by kernel_rfl,rfl⟩
 |2,hf=>cases hf;exact ⟨_,rfl,by kernel_rfl,rfl⟩
 |i+3,hf=>simp at hf⟩,by kernel_rfl⟩
theorem yt:Stt Tryz.prog 94 Jl:=⟨⟨_,Tryz.underlying94,rfl,fun i f hf=>by
 match i,hf with
 |0,hf=>cases hf;exact ⟨_,rfl,by kernel_rfl,rfl⟩
 |i+1,hf=>simp at hf⟩,by kernel_rfl⟩
theorem Hy:Stt Tryz.prog 95 Jl:=⟨⟨_,Tryz.underlying95,rfl,fun i f hf=>by
 match i,hf with
 |0,hf=>cases hf;exact ⟨_,rfl,by kernel_rfl,rfl⟩
 |i+1,hf=>simp at hf⟩,by kernel_rfl⟩
theorem ID:Stt Tryz.prog 99 ([]:List (List Value)):=⟨⟨_,Tryz.underlying99,rfl,fun i f hf=>by
 match i,hf with
 |i+0,hf=>simp at hf⟩,by kernel_rfl⟩
theorem dG:(Tryz.prog.info? 5).map (·.size)=some 1:=by kernel_rfl
theorem HK:(Tryz.prog.info? 9).map (·.size)=some 1:=by kernel_rfl
theorem vM:(Tryz.prog.info? 131).map (·.size)=some 1:=by kernel_rfl
theorem cx:(Tryz.prog.info? 180).map (·.size)=some 1:=by kernel_rfl
theorem dZ:(Tryz.prog.info? 24).bind (·.zero)=some (.agg (aC 0 ByteArray.empty aM)):=by kernel_rfl
theorem fD:(Tryz.prog.info? 26).bind (·.zero)=some (en 0#256):=ep.zero
theorem sG:(Tryz.prog.info? 28).bind (·.zero)=some (.agg (bc (0,0#256,0))):=by rw [eV];kernel_rfl
theorem lF:(Tryz.prog.info? 31).bind (·.zero)=some (.agg (a8 mZ aM)):=by rw [show a8 mZ aM=a8 mZ (.slice none 0 0) from rfl,jg];kernel_rfl
theorem dM:(Tryz.prog.info? 67).bind (·.zero)=some (.agg (au aN)):=by rw [px];kernel_rfl
theorem EN:(Tryz.prog.info? 84).bind (·.zero)=some (.nilFunc):=by kernel_rfl
theorem pZ:(Tryz.prog.info? 89).bind (·.zero)=some (.agg (ei 0)):=by kernel_rfl
theorem F1:(Tryz.prog.info? 94).bind (·.zero)=some (.agg (a8 mZ aM)):=by rw [show a8 mZ aM=a8 mZ (.slice none 0 0) from rfl,jg];kernel_rfl
theorem FY:(Tryz.prog.info? 95).bind (·.zero)=some (.agg (a8 mZ aM)):=by rw [show a8 mZ aM=a8 mZ (.slice none 0 0) from rfl,jg];kernel_rfl
theorem vN:(Tryz.prog.info? 103).bind (·.zero)=some (.agg (bP aM 0 ByteArray.empty)):=by kernel_rfl
theorem ve:(Tryz.prog.info? 107).bind (·.zero)=some (.agg (co 0 0 aM 0 ByteArray.empty aN 0)):=by rw [Bq];kernel_rfl
theorem vO:(Tryz.prog.info? 134).bind (·.zero)=some (.agg #[.nilFunc,.nilFunc,.nilFunc,.nilFunc]):=by kernel_rfl
theorem DD:(Tryz.prog.info? 145).bind (·.zero)=some (.nilFunc):=by kernel_rfl
theorem Dn:(Tryz.prog.info? 167).bind (·.zero)=some (.nilFunc):=by kernel_rfl
theorem BF:(Tryz.prog.info? 184).bind (·.zero)=some (.agg (aG (fun _=>0) 16)):=by rw [show aG (fun _=>0) 16=(List.replicate 16 (Value.int .u8 0)).toArray from rfl];kernel_rfl
theorem pT:(Tryz.prog.info? 192).bind (·.zero)=some (.agg (wF (fun _=>0#32) 8)):=by rw [uV];kernel_rfl
theorem mG:(Tryz.prog.info? 197).bind (·.zero)=some (.agg (aG (fun _=>0) 64)):=by rw [show aG (fun _=>0) 64=(List.replicate 64 (Value.int .u8 0)).toArray from rfl];kernel_rfl
theorem uq:(Tryz.prog.info? 199).bind (·.zero)=some (.agg (wF (fun _=>0#32) 64)):=by rw [uV];kernel_rfl
theorem cC (n:Nat) (h:(match Tryz.prog.funcs[n]? with|some fn => !fn.body.isNone && !(fn.name == "runtime.NumGoroutine")|none=>false)=true):Fnc Tryz.prog n:=by
 cases hf:Tryz.prog.funcs[n]? with
 |none=>rw [hf] at h;simp at h
 |some fn=>rw [hf] at h;simp only [Bool.and_eq_true,Bool.not_eq_true'] at h;exact ⟨⟨fn,hf,h.1,h.2⟩⟩
theorem Jk:Elm Tryz.prog 5 1 1:=iP (by kernel_rfl) (by decide)
theorem GO:Elm Tryz.prog 9 1 16:=iP (by kernel_rfl) (by decide)
theorem Ea:Elm Tryz.prog 22 1 24:=iP (by kernel_rfl) (by decide)
theorem uH:Elm Tryz.prog 28 34 48:=iP (by kernel_rfl) (by decide)
theorem GH:Elm Tryz.prog 29 1 24:=iP (by kernel_rfl) (by decide)
theorem dU:Elm Tryz.prog 67 67 88:=iP (by kernel_rfl) (by decide)
theorem jA:Elm Tryz.prog 71 139 248:=iP (by kernel_rfl) (by decide)
theorem nM:Elm Tryz.prog 107 73 160:=iP (by kernel_rfl) (by decide)
theorem AH:(Tryz.prog.info? 5).bind (·.zero)=some (.int .u8 0):=by kernel_rfl
theorem Ju:Fnc Tryz.prog 5:=cC 5 (by kernel_rfl)
theorem JH:Fnc Tryz.prog 7:=cC 7 (by kernel_rfl)
theorem zO:Fnc Tryz.prog 9:=cC 9 (by kernel_rfl)
theorem Ed:Fnc Tryz.prog 10:=cC 10 (by kernel_rfl)
theorem IF:Fnc Tryz.prog 11:=cC 11 (by kernel_rfl)
theorem qC:Fnc Tryz.prog 14:=cC 14 (by kernel_rfl)
theorem Is:Fnc Tryz.prog 16:=cC 16 (by kernel_rfl)
theorem IJ:Fnc Tryz.prog 17:=cC 17 (by kernel_rfl)
theorem Eg:Fnc Tryz.prog 18:=cC 18 (by kernel_rfl)
theorem D1:Fnc Tryz.prog 19:=cC 19 (by kernel_rfl)
theorem DT:Fnc Tryz.prog 20:=cC 20 (by kernel_rfl)
theorem Hl:Fnc Tryz.prog 21:=cC 21 (by kernel_rfl)
theorem qK:Fnc Tryz.prog 22:=cC 22 (by kernel_rfl)
theorem oM:Fnc Tryz.prog 23:=cC 23 (by kernel_rfl)
theorem HU:Fnc Tryz.prog 24:=cC 24 (by kernel_rfl)
theorem HH:Fnc Tryz.prog 25:=cC 25 (by kernel_rfl)
theorem Hi:Fnc Tryz.prog 26:=cC 26 (by kernel_rfl)
theorem AE:Fnc Tryz.prog 27:=cC 27 (by kernel_rfl)
theorem iW:Fnc Tryz.prog 28:=cC 28 (by kernel_rfl)
theorem GU:Fnc Tryz.prog 30:=cC 30 (by kernel_rfl)
theorem x5:Fnc Tryz.prog 37:=cC 37 (by kernel_rfl)
theorem G5:Fnc Tryz.prog 38:=cC 38 (by kernel_rfl)
theorem DZ:Fnc Tryz.prog 39:=cC 39 (by kernel_rfl)
theorem wB:Fnc Tryz.prog 40:=cC 40 (by kernel_rfl)
theorem x9:Fnc Tryz.prog 41:=cC 41 (by kernel_rfl)
theorem Hn:Fnc Tryz.prog 42:=cC 42 (by kernel_rfl)
theorem Im:Fnc Tryz.prog 43:=cC 43 (by kernel_rfl)
theorem dx:Fnc Tryz.prog 44:=cC 44 (by kernel_rfl)
theorem l1:Fnc Tryz.prog 45:=cC 45 (by kernel_rfl)
theorem oo:Fnc Tryz.prog 46:=cC 46 (by kernel_rfl)
theorem IG:Fnc Tryz.prog 47:=cC 47 (by kernel_rfl)
theorem HW:Fnc Tryz.prog 48:=cC 48 (by kernel_rfl)
theorem In:Fnc Tryz.prog 49:=cC 49 (by kernel_rfl)
theorem qv:Fnc Tryz.prog 50:=cC 50 (by kernel_rfl)
theorem oq:Fnc Tryz.prog 51:=cC 51 (by kernel_rfl)
theorem Hk:Fnc Tryz.prog 59:=cC 59 (by kernel_rfl)
theorem GM:Fnc Tryz.prog 60:=cC 60 (by kernel_rfl)
theorem D5:Fnc Tryz.prog 62:=cC 62 (by kernel_rfl)
theorem Ep:Fnc Tryz.prog 63:=cC 63 (by kernel_rfl)
theorem DV:Fnc Tryz.prog 64:=cC 64 (by kernel_rfl)
theorem Hh:Fnc Tryz.prog 65:=cC 65 (by kernel_rfl)
theorem Hv:Fnc Tryz.prog 66:=cC 66 (by kernel_rfl)
theorem un:Fnc Tryz.prog 67:=cC 67 (by kernel_rfl)
theorem mX:Fnc Tryz.prog 68:=cC 68 (by kernel_rfl)
theorem vJ:Fnc Tryz.prog 69:=cC 69 (by kernel_rfl)
theorem Hm:Fnc Tryz.prog 70:=cC 70 (by kernel_rfl)
theorem HV:Fnc Tryz.prog 71:=cC 71 (by kernel_rfl)
theorem Ic:Fnc Tryz.prog 72:=cC 72 (by kernel_rfl)
theorem HG:Fnc Tryz.prog 73:=cC 73 (by kernel_rfl)
theorem HS:Fnc Tryz.prog 74:=cC 74 (by kernel_rfl)
theorem DS:Fnc Tryz.prog 75:=cC 75 (by kernel_rfl)
theorem GW:Fnc Tryz.prog 76:=cC 76 (by kernel_rfl)
theorem GL:Fnc Tryz.prog 77:=cC 77 (by kernel_rfl)
theorem Ih:Fnc Tryz.prog 78:=cC 78 (by kernel_rfl)
theorem HB:Fnc Tryz.prog 79:=cC 79 (by kernel_rfl)
theorem Ia:Fnc Tryz.prog 80:=cC 80 (by kernel_rfl)
theorem Ip:Fnc Tryz.prog 81:=cC 81 (by kernel_rfl)
theorem HY:Fnc Tryz.prog 82:=cC 82 (by kernel_rfl)
theorem GX:Fnc Tryz.prog 83:=cC 83 (by kernel_rfl)
theorem zW:Fnc Tryz.prog 88:=cC 88 (by kernel_rfl)
theorem Iu:Fnc Tryz.prog 89:=cC 89 (by kernel_rfl)
theorem Hq:Fnc Tryz.prog 90:=cC 90 (by kernel_rfl)
theorem ym:Fnc Tryz.prog 91:=cC 91 (by kernel_rfl)
theorem Ek:Fnc Tryz.prog 92:=cC 92 (by kernel_rfl)
theorem vV:Fnc Tryz.prog 93:=cC 93 (by kernel_rfl)
theorem Hj:Fnc Tryz.prog 94:=cC 94 (by kernel_rfl)
theorem H6:Fnc Tryz.prog 95:=cC 95 (by kernel_rfl)
theorem Ie:Fnc Tryz.prog 96:=cC 96 (by kernel_rfl)
theorem DI:Fnc Tryz.prog 97:=cC 97 (by kernel_rfl)
theorem D4:Fnc Tryz.prog 98:=cC 98 (by kernel_rfl)
theorem IH:Fnc Tryz.prog 99:=cC 99 (by kernel_rfl)
theorem EW:Fnc Tryz.prog 100:=cC 100 (by kernel_rfl)
theorem y8:Fnc Tryz.prog 101:=cC 101 (by kernel_rfl)
theorem Gm:Fnc Tryz.prog 102:=cC 102 (by kernel_rfl)
theorem Ac:Fnc Tryz.prog 103:=cC 103 (by kernel_rfl)
theorem ES:Fnc Tryz.prog 108:=cC 108 (by kernel_rfl)
theorem yW:Fnc Tryz.prog 109:=cC 109 (by kernel_rfl)
theorem EI:Fnc Tryz.prog 110:=cC 110 (by kernel_rfl)
theorem EV:Fnc Tryz.prog 111:=cC 111 (by kernel_rfl)
theorem ue:Fnc Tryz.prog 112:=cC 112 (by kernel_rfl)
theorem Fv:Fnc Tryz.prog 113:=cC 113 (by kernel_rfl)
theorem zS:Fnc Tryz.prog 114:=cC 114 (by kernel_rfl)
theorem Fp:Fnc Tryz.prog 115:=cC 115 (by kernel_rfl)
theorem z7:Fnc Tryz.prog 116:=cC 116 (by kernel_rfl)
theorem Fl:Fnc Tryz.prog 117:=cC 117 (by kernel_rfl)
theorem Aw:Fnc Tryz.prog 118:=cC 118 (by kernel_rfl)
theorem E4:Fnc Tryz.prog 119:=cC 119 (by kernel_rfl)
theorem ze:Fnc Tryz.prog 120:=cC 120 (by kernel_rfl)
theorem zU:Fnc Tryz.prog 124:=cC 124 (by kernel_rfl)
theorem yF:Fnc Tryz.prog 125:=cC 125 (by kernel_rfl)
theorem iV:Fnc Tryz.prog 126:=cC 126 (by kernel_rfl)
theorem zu:Fnc Tryz.prog 127:=cC 127 (by kernel_rfl)
theorem FH:Fnc Tryz.prog 128:=cC 128 (by kernel_rfl)
theorem zT:Fnc Tryz.prog 129:=cC 129 (by kernel_rfl)
theorem FU:Fnc Tryz.prog 130:=cC 130 (by kernel_rfl)
theorem Et:Fnc Tryz.prog 131:=cC 131 (by kernel_rfl)
theorem Ft:Fnc Tryz.prog 135:=cC 135 (by kernel_rfl)
theorem FL:Fnc Tryz.prog 136:=cC 136 (by kernel_rfl)
theorem EO:Fnc Tryz.prog 137:=cC 137 (by kernel_rfl)
theorem EH:Fnc Tryz.prog 138:=cC 138 (by kernel_rfl)
theorem zM:Fnc Tryz.prog 139:=cC 139 (by kernel_rfl)
theorem ET:Fnc Tryz.prog 140:=cC 140 (by kernel_rfl)
theorem Gk:Fnc Tryz.prog 141:=cC 141 (by kernel_rfl)
theorem Fy:Fnc Tryz.prog 142:=cC 142 (by kernel_rfl)
theorem AV:Fnc Tryz.prog 143:=cC 143 (by kernel_rfl)
theorem go:Fnc Tryz.prog 144:=cC 144 (by kernel_rfl)
theorem EF:Fnc Tryz.prog 145:=cC 145 (by kernel_rfl)
def KE:List (Nat × Nat × Nat):=[(24,0,0),(24,1,1),(24,2,2),(28,0,0),(28,1,1),(28,2,33),(31,0,0),(31,1,1),(31,2,33),(31,3,67),(31,4,68),(31,5,69),(31,6,70),(44,0,0),(44,1,3),(67,0,0),(67,1,32),(67,2,66),(71,0,0),(71,1,1),(71,2,72),(89,0,0),(89,1,1),(89,2,2),(89,3,3),(89,4,4),(89,5,5),(94,0,0),(95,0,0),(103,0,0),(103,1,1),(103,2,2),(107,0,0),(107,1,1),(107,2,2),(107,3,5),(107,4,72),(111,0,0),(111,1,1),(133,0,0),(133,1,32)]
theorem ac:FT Tryz.prog KE:=⟨C8,B0,B3,Bd,CH,C5,u4,CK,Bg,Cu,DA,Bp,Bt,BY,BD,CS,BR,pj,uF,wq,BS,Cm,Dw,Bm,Cf,Dk,Cx,Du,BC,yY,AZ,z5,zd,yR,AL,yo,Ax,yO,AJ,zh,zb,trivial⟩
end Go.Proofs.YtobfeflheaobiaaGreatDoor
