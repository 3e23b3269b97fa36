/- What the walks want of the program: its types and functions by number; no condition. -/
import Derived.Test.YtobfeflheaobiaaGreatDoorProg
import Derived.KernelRfl
import Derived.Test.YtobfeflheaobiaaGreatDoorSv
namespace Go.Proofs.YtobfeflheaobiaaGreatDoor
theorem d8:IdTy Tryz.prog 26 5:=⟨Tryz.underlying26,by kernel_rfl,Tryz.underlying5,by kernel_rfl,by rw [gp,gT];kernel_rfl⟩
theorem bp:Row Tryz.prog 24 3:=⟨⟨_,Tryz.underlying24,rfl⟩,by kernel_rfl⟩
theorem aN:Row Tryz.prog 26 32:=⟨⟨_,Tryz.underlying26,rfl⟩,by kernel_rfl⟩
theorem bY:Row Tryz.prog 28 34:=⟨⟨_,Tryz.underlying28,rfl⟩,by kernel_rfl⟩
theorem bL:Row Tryz.prog 31 71:=⟨⟨_,Tryz.underlying31,rfl⟩,by kernel_rfl⟩
theorem bV:Row Tryz.prog 44 5:=⟨⟨_,Tryz.underlying44,rfl⟩,by kernel_rfl⟩
theorem a8:Row Tryz.prog 67 67:=⟨⟨_,Tryz.underlying67,rfl⟩,by kernel_rfl⟩
theorem Lw:Row Tryz.prog 71 139:=⟨⟨_,Tryz.underlying71,rfl⟩,by kernel_rfl⟩
theorem wj:Row Tryz.prog 89 6:=⟨⟨_,Tryz.underlying89,rfl⟩,by kernel_rfl⟩
theorem MW:Row Tryz.prog 94 71:=⟨⟨_,Tryz.underlying94,rfl⟩,by kernel_rfl⟩
theorem BL:Row Tryz.prog 95 71:=⟨⟨_,Tryz.underlying95,rfl⟩,by kernel_rfl⟩
theorem fc:Row Tryz.prog 103 3:=⟨⟨_,Tryz.underlying103,rfl⟩,by kernel_rfl⟩
theorem lJ:Row Tryz.prog 107 73:=⟨⟨_,Tryz.underlying107,rfl⟩,by kernel_rfl⟩
theorem f8:Row Tryz.prog 111 72:=⟨⟨_,Tryz.underlying111,rfl⟩,by kernel_rfl⟩
theorem EN:Row Tryz.prog 134 4:=⟨⟨_,Tryz.underlying134,rfl⟩,by kernel_rfl⟩
theorem xG:Row Tryz.prog 184 16:=⟨⟨_,Tryz.underlying184,rfl⟩,by kernel_rfl⟩
theorem lw:Row Tryz.prog 192 8:=⟨⟨_,Tryz.underlying192,rfl⟩,by kernel_rfl⟩
theorem iX:Row Tryz.prog 197 64:=⟨⟨_,Tryz.underlying197,rfl⟩,by kernel_rfl⟩
theorem tc:Row Tryz.prog 199 64:=⟨⟨_,Tryz.underlying199,rfl⟩,by kernel_rfl⟩
theorem bo:One Tryz.prog 3:=⟨⟨_,Tryz.underlying3,rfl⟩,by kernel_rfl⟩
theorem gO:One Tryz.prog 4:=⟨⟨_,Tryz.underlying4,rfl⟩,by kernel_rfl⟩
theorem lm:One Tryz.prog 5:=⟨⟨_,Tryz.underlying5,rfl⟩,by kernel_rfl⟩
theorem dG:One Tryz.prog 9:=⟨⟨_,Tryz.underlying9,rfl⟩,by kernel_rfl⟩
theorem eO:One Tryz.prog 22:=⟨⟨_,Tryz.underlying22,rfl⟩,by kernel_rfl⟩
theorem cG:One Tryz.prog 29:=⟨⟨_,Tryz.underlying29,rfl⟩,by kernel_rfl⟩
theorem nf:One Tryz.prog 34:=⟨⟨_,Tryz.underlying34,rfl⟩,by kernel_rfl⟩
theorem nG:One Tryz.prog 35:=⟨⟨_,Tryz.underlying35,rfl⟩,by kernel_rfl⟩
theorem Ki:One Tryz.prog 101:=⟨⟨_,Tryz.underlying101,rfl⟩,by kernel_rfl⟩
theorem qv:One Tryz.prog 167:=⟨⟨_,Tryz.underlying167,rfl⟩,by kernel_rfl⟩
theorem co:One Tryz.prog 180:=⟨⟨_,Tryz.underlying180,rfl⟩,by kernel_rfl⟩
theorem O0:(Tryz.prog.info? 9).map (·.size)=some 1:=by kernel_rfl
theorem H5:(Tryz.prog.info? 22).map (·.size)=some 1:=by kernel_rfl
theorem fp:(Tryz.prog.info? 28).map (·.size)=some 34:=by kernel_rfl
theorem Ip:(Tryz.prog.info? 29).map (·.size)=some 1:=by kernel_rfl
theorem dZ:(Tryz.prog.info? 67).map (·.size)=some 67:=by kernel_rfl
theorem fN:(Tryz.prog.info? 71).map (·.size)=some 139:=by kernel_rfl
theorem Ch:(Tryz.prog.info? 107).map (·.size)=some 73:=by kernel_rfl
theorem ej:(Tryz.prog.info? 180).map (·.size)=some 1:=by kernel_rfl
theorem Gq:Fld Tryz.prog 24 0 0:=⟨⟨_,_,0,Tryz.underlying24,rfl,by kernel_rfl,rfl⟩⟩
theorem GZ:Fld Tryz.prog 24 1 1:=⟨⟨_,_,0,Tryz.underlying24,rfl,by kernel_rfl,rfl⟩⟩
theorem GR:Fld Tryz.prog 24 2 2:=⟨⟨_,_,0,Tryz.underlying24,rfl,by kernel_rfl,rfl⟩⟩
theorem j9:Fld Tryz.prog 28 0 0:=⟨⟨_,_,0,Tryz.underlying28,rfl,by kernel_rfl,rfl⟩⟩
theorem yr:Fld Tryz.prog 28 1 1:=⟨⟨_,_,31,Tryz.underlying28,rfl,by kernel_rfl,rfl⟩⟩
theorem zk:Fld Tryz.prog 28 2 33:=⟨⟨_,_,0,Tryz.underlying28,rfl,by kernel_rfl,rfl⟩⟩
theorem yn:Fld Tryz.prog 31 0 0:=⟨⟨_,_,0,Tryz.underlying31,rfl,by kernel_rfl,rfl⟩⟩
theorem GA:Fld Tryz.prog 31 1 1:=⟨⟨_,_,31,Tryz.underlying31,rfl,by kernel_rfl,rfl⟩⟩
theorem GF:Fld Tryz.prog 31 2 33:=⟨⟨_,_,33,Tryz.underlying31,rfl,by kernel_rfl,rfl⟩⟩
theorem Fj:Fld Tryz.prog 31 3 67:=⟨⟨_,_,0,Tryz.underlying31,rfl,by kernel_rfl,rfl⟩⟩
theorem G8:Fld Tryz.prog 31 4 68:=⟨⟨_,_,0,Tryz.underlying31,rfl,by kernel_rfl,rfl⟩⟩
theorem FZ:Fld Tryz.prog 31 5 69:=⟨⟨_,_,0,Tryz.underlying31,rfl,by kernel_rfl,rfl⟩⟩
theorem Hc:Fld Tryz.prog 31 6 70:=⟨⟨_,_,0,Tryz.underlying31,rfl,by kernel_rfl,rfl⟩⟩
theorem FL:Fld Tryz.prog 44 0 0:=⟨⟨_,_,2,Tryz.underlying44,rfl,by kernel_rfl,rfl⟩⟩
theorem Gx:Fld Tryz.prog 44 1 3:=⟨⟨_,_,0,Tryz.underlying44,rfl,by kernel_rfl,rfl⟩⟩
theorem GX:Fld Tryz.prog 44 2 4:=⟨⟨_,_,0,Tryz.underlying44,rfl,by kernel_rfl,rfl⟩⟩
theorem tV:Fld Tryz.prog 67 0 0:=⟨⟨_,_,31,Tryz.underlying67,rfl,by kernel_rfl,rfl⟩⟩
theorem F9:Fld Tryz.prog 67 1 32:=⟨⟨_,_,33,Tryz.underlying67,rfl,by kernel_rfl,rfl⟩⟩
theorem td:Fld Tryz.prog 67 2 66:=⟨⟨_,_,0,Tryz.underlying67,rfl,by kernel_rfl,rfl⟩⟩
theorem g7:Fld Tryz.prog 71 0 0:=⟨⟨_,_,0,Tryz.underlying71,rfl,by kernel_rfl,rfl⟩⟩
theorem mr:Fld Tryz.prog 71 1 1:=⟨⟨_,_,70,Tryz.underlying71,rfl,by kernel_rfl,rfl⟩⟩
theorem kP:Fld Tryz.prog 71 2 72:=⟨⟨_,_,66,Tryz.underlying71,rfl,by kernel_rfl,rfl⟩⟩
theorem Fx:Fld Tryz.prog 89 0 0:=⟨⟨_,_,0,Tryz.underlying89,rfl,by kernel_rfl,rfl⟩⟩
theorem FY:Fld Tryz.prog 89 1 1:=⟨⟨_,_,0,Tryz.underlying89,rfl,by kernel_rfl,rfl⟩⟩
theorem EX:Fld Tryz.prog 89 2 2:=⟨⟨_,_,0,Tryz.underlying89,rfl,by kernel_rfl,rfl⟩⟩
theorem Hl:Fld Tryz.prog 89 3 3:=⟨⟨_,_,0,Tryz.underlying89,rfl,by kernel_rfl,rfl⟩⟩
theorem GT:Fld Tryz.prog 89 4 4:=⟨⟨_,_,0,Tryz.underlying89,rfl,by kernel_rfl,rfl⟩⟩
theorem Fq:Fld Tryz.prog 89 5 5:=⟨⟨_,_,0,Tryz.underlying89,rfl,by kernel_rfl,rfl⟩⟩
theorem Fu:Fld Tryz.prog 94 0 0:=⟨⟨_,_,70,Tryz.underlying94,rfl,by kernel_rfl,rfl⟩⟩
theorem Hy:Fld Tryz.prog 95 0 0:=⟨⟨_,_,70,Tryz.underlying95,rfl,by kernel_rfl,rfl⟩⟩
theorem Dl:Fld Tryz.prog 103 0 0:=⟨⟨_,_,0,Tryz.underlying103,rfl,by kernel_rfl,rfl⟩⟩
theorem Dj:Fld Tryz.prog 103 1 1:=⟨⟨_,_,0,Tryz.underlying103,rfl,by kernel_rfl,rfl⟩⟩
theorem BE:Fld Tryz.prog 103 2 2:=⟨⟨_,_,0,Tryz.underlying103,rfl,by kernel_rfl,rfl⟩⟩
theorem Bp:Fld Tryz.prog 107 0 0:=⟨⟨_,_,0,Tryz.underlying107,rfl,by kernel_rfl,rfl⟩⟩
theorem BN:Fld Tryz.prog 107 1 1:=⟨⟨_,_,0,Tryz.underlying107,rfl,by kernel_rfl,rfl⟩⟩
theorem C2:Fld Tryz.prog 107 2 2:=⟨⟨_,_,2,Tryz.underlying107,rfl,by kernel_rfl,rfl⟩⟩
theorem CY:Fld Tryz.prog 107 3 5:=⟨⟨_,_,66,Tryz.underlying107,rfl,by kernel_rfl,rfl⟩⟩
theorem CO:Fld Tryz.prog 107 4 72:=⟨⟨_,_,0,Tryz.underlying107,rfl,by kernel_rfl,rfl⟩⟩
theorem DR:Fld Tryz.prog 111 0 0:=⟨⟨_,_,0,Tryz.underlying111,rfl,by kernel_rfl,rfl⟩⟩
theorem CI:Fld Tryz.prog 111 1 1:=⟨⟨_,_,70,Tryz.underlying111,rfl,by kernel_rfl,rfl⟩⟩
theorem CH:Fld Tryz.prog 133 0 0:=⟨⟨_,_,31,Tryz.underlying133,rfl,by kernel_rfl,rfl⟩⟩
theorem Bt:Fld Tryz.prog 133 1 32:=⟨⟨_,_,33,Tryz.underlying133,rfl,by kernel_rfl,rfl⟩⟩
theorem Hg:FldT Tryz.prog 67 2 66 3:=⟨⟨_,_,Tryz.underlying67,rfl,rfl,rfl⟩⟩
theorem NO:EqV Tryz.prog 2 26 (32*1) (fun xs=>xs.length=32*1∧∀ i,i<32→∃ n,(xs.drop (i*1)).take 1=[Value.int .u8 n]) xh:=EqV.arr (n:=32) (EqV.int .u8 Tryz.underlying5 (by kernel_rfl)) Tryz.underlying26 (by kernel_rfl)
theorem xP (x y:cU):MM Tryz.prog 3 28 34 (bg x) (bg y):=⟨_,EqV.struct' [(1,(fun xs=>∃ n,xs=[Value.int .i64 n])),(32*1,(fun xs=>xs.length=32*1∧∀ i,i<32→∃ n,(xs.drop (i*1)).take 1=[Value.int .u8 n])),(1,(fun xs=>∃ n,xs=[Value.int .i64 n]))] Tryz.underlying28 (by kernel_rfl) (by kernel_rfl) ⟨by decide,⟨K0,(EqV.int .i64 Tryz.underlying3 (by kernel_rfl)).up⟩,by decide,⟨xh,NO⟩,by decide,⟨K0,(EqV.int .i64 Tryz.underlying3 (by kernel_rfl)).up⟩,trivial⟩ ⟨rfl,rfl,rfl,rfl⟩,⟨by rw [Array.length_toList,aC],⟨_,zR _⟩,(by show _∧_;unfold m8;dsimp only;rw [zS];exact oE _ _),⟨_,zw _⟩,trivial⟩,⟨by rw [Array.length_toList,aC],⟨_,zR _⟩,(by show _∧_;unfold m8;dsimp only;rw [zS];exact oE _ _),⟨_,zw _⟩,trivial⟩⟩
theorem yf:Stt Tryz.prog 28 eZ:=⟨⟨_,Tryz.underlying28,rfl,fun i f hf=>by
 match i,hf with
 |0,hf=>cases hf;exact ⟨_,rfl,by kernel_rfl,rfl⟩
 |1,hf=>cases hf;exact ⟨_,rfl,by kernel_rfl,rfl⟩
 |2,hf=>cases hf;exact ⟨_,rfl,by kernel_rfl,rfl⟩
 |i+3,hf=>simp at hf⟩,by kernel_rfl⟩
theorem jM:Stt Tryz.prog 67 Bk:=⟨⟨_,Tryz.underlying67,rfl,fun i f hf=>by
 match i,hf with
 |0,hf=>cases hf;exact ⟨_,rfl,by kernel_rfl,rfl⟩
 |1,hf=>cases hf;exact ⟨_,rfl,by kernel_rfl,rfl⟩
 |2,hf=>cases hf;exact ⟨_,rfl,by kernel_rfl,rfl⟩
 |i+3,hf=>simp at hf⟩,by kernel_rfl⟩
theorem N4 (x y:Tg):MM Tryz.prog 4 67 67 (aB x) (aB y):=by
 obtain ⟨V,E9,h1,h2⟩:=xP x.2.1 y.2.1
 exact ⟨_,EqV.struct' [(32*1,(fun xs=>xs.length=32*1∧∀ i,i<32→∃ n,(xs.drop (i*1)).take 1=[Value.int .u8 n])),(34,V),(1,(fun xs=>∃ n,xs=[Value.int .i64 n]))] Tryz.underlying67 (by kernel_rfl) (by kernel_rfl) ⟨by decide,⟨xh,NO.up⟩,by decide,⟨xh,E9⟩,by decide,⟨K0,(EqV.int .i64 Tryz.underlying3 (by kernel_rfl)).up.up⟩,trivial⟩ ⟨rfl,rfl,rfl,rfl⟩,⟨by rw [Array.length_toList,ao],(by show _∧_;unfold m8;dsimp only;rw [vA];exact oE _ _),(by show V (m8 _ _ _);unfold m8;dsimp only;rw [wh];exact h1),⟨_,zy _⟩,trivial⟩,⟨by rw [Array.length_toList,ao],(by show _∧_;unfold m8;dsimp only;rw [vA];exact oE _ _),(by show V (m8 _ _ _);unfold m8;dsimp only;rw [wh];exact h2),⟨_,zy _⟩,trivial⟩⟩
theorem li:Stt Tryz.prog 31 zn:=⟨⟨_,Tryz.underlying31,rfl,fun i f hf=>by
 match i,hf with
 |0,hf=>cases hf;exact ⟨_,rfl,by kernel_rfl,rfl⟩
 |1,hf=>cases hf;exact ⟨_,rfl,by kernel_rfl,rfl⟩
 |2,hf=>cases hf;exact ⟨_,rfl,by kernel_rfl,rfl⟩
 |3,hf=>cases hf;exact ⟨_,rfl,by kernel_rfl,rfl⟩
 |4,hf=>cases hf;exact ⟨_,rfl,by kernel_rfl,rfl⟩
 |5,hf=>cases hf;exact ⟨_,rfl,by kernel_rfl,rfl⟩
 |6,hf=>cases hf;exact ⟨_,rfl,by kernel_rfl,rfl⟩
 |i+7,hf=>simp at hf⟩,by kernel_rfl⟩
theorem ra:Stt Tryz.prog 111 NS:=⟨⟨_,Tryz.underlying111,rfl,fun i f hf=>by
 match i,hf with
 |0,hf=>cases hf;exact ⟨_,rfl,by kernel_rfl,rfl⟩
 |1,hf=>cases hf;exact ⟨_,rfl,by kernel_rfl,rfl⟩
 |i+2,hf=>simp at hf⟩,by kernel_rfl⟩
theorem OQ:EqV Tryz.prog 2 184 (16*1) (fun xs=>xs.length=16*1∧∀ i,i<16→∃ n,(xs.drop (i*1)).take 1=[Value.int .u8 n]) xh:=EqV.arr (n:=16) (EqV.int .u8 Tryz.underlying5 (by kernel_rfl)) Tryz.underlying184 (by kernel_rfl)
theorem OM (x y:vP):MM Tryz.prog 2 184 (16*1) (ki x) (ki y):=⟨_,OQ,oE _ _,oE _ _⟩
theorem rC:Stt Tryz.prog 89 fZ:=⟨⟨_,Tryz.underlying89,rfl,fun i f hf=>by
 match i,hf with
 |0,hf=>cases hf;exact ⟨_,rfl,by kernel_rfl,rfl⟩
 |1,hf=>cases hf;exact ⟨_,rfl,by kernel_rfl,rfl⟩
 |2,hf=>cases hf;exact ⟨_,rfl,by kernel_rfl,rfl⟩
 |3,hf=>cases hf;exact ⟨_,rfl,by kernel_rfl,rfl⟩
 |4,hf=>cases hf;exact ⟨_,rfl,by kernel_rfl,rfl⟩
 |5,hf=>cases hf;exact ⟨_,rfl,by kernel_rfl,rfl⟩
 |i+6,hf=>simp at hf⟩,by kernel_rfl⟩
theorem E3:Stt Tryz.prog 103 O7:=⟨⟨_,Tryz.underlying103,rfl,fun i f hf=>by
 match i,hf with
 |0,hf=>cases hf;exact ⟨_,rfl,by kernel_rfl,rfl⟩
 |1,hf=>cases hf;exact ⟨_,rfl,by kernel_rfl,rfl⟩
 |2,hf=>cases hf;exact ⟨_,rfl,by kernel_rfl,rfl⟩
 |i+3,hf=>simp at hf⟩,by kernel_rfl⟩
theorem wG:Stt Tryz.prog 107 MK:=⟨⟨_,Tryz.underlying107,rfl,fun i f hf=>by
 match i,hf with
 |0,hf=>cases hf;exact ⟨_,rfl,by kernel_rfl,rfl⟩
 |1,hf=>cases hf;exact ⟨_,rfl,by kernel_rfl,rfl⟩
 |2,hf=>cases hf;exact ⟨_,rfl,by kernel_rfl,rfl⟩
 |3,hf=>cases hf;exact ⟨_,rfl,by kernel_rfl,rfl⟩
 |4,hf=>cases hf;exact ⟨_,rfl,by kernel_rfl,rfl⟩
 |i+5,hf=>simp at hf⟩,by kernel_rfl⟩
theorem ji:Stt Tryz.prog 24 NP:=⟨⟨_,Tryz.underlying24,rfl,fun i f hf=>by
 match i,hf with
 |0,hf=>cases hf;exact ⟨_,rfl,by kernel_rfl,rfl⟩
 |1,hf=>cases hf;exact ⟨_,rfl,by kernel_rfl,rfl⟩
 |2,hf=>cases hf;exact ⟨_,rfl,by kernel_rfl,rfl⟩
 |i+3,hf=>simp at hf⟩,by kernel_rfl⟩
theorem qk:Stt Tryz.prog 71 Ol:=⟨⟨_,Tryz.underlying71,rfl,fun i f hf=>by
 match i,hf with
 |0,hf=>cases hf;exact ⟨_,rfl,by kernel_rfl,rfl⟩
 |1,hf=>cases hf;exact ⟨_,rfl,by kernel_rfl,rfl⟩
 |2,hf=>cases hf;exact ⟨_,rfl,by kernel_rfl,rfl⟩
 |i+3,hf=>simp at hf⟩,by kernel_rfl⟩
theorem kX:Stt Tryz.prog 44 N7:=⟨⟨_,Tryz.underlying44,rfl,fun i f hf=>by
 match i,hf with
 |0,hf=>cases hf;exact ⟨_,rfl,by kernel_rfl,rfl⟩
 |1,hf=>cases hf;exact ⟨_,rfl,by kernel_rfl,rfl⟩
 |2,hf=>cases hf;exact ⟨_,rfl,by kernel_rfl,rfl⟩
 |i+3,hf=>simp at hf⟩,by kernel_rfl⟩
theorem DA:Stt Tryz.prog 94 OI:=⟨⟨_,Tryz.underlying94,rfl,fun i f hf=>by
 match i,hf with
 |0,hf=>cases hf;exact ⟨_,rfl,by kernel_rfl,rfl⟩
 |i+1,hf=>simp at hf⟩,by kernel_rfl⟩
theorem Nu:Stt Tryz.prog 95 OI:=⟨⟨_,Tryz.underlying95,rfl,fun i f hf=>by
 match i,hf with
 |0,hf=>cases hf;exact ⟨_,rfl,by kernel_rfl,rfl⟩
 |i+1,hf=>simp at hf⟩,by kernel_rfl⟩
theorem NI:Stt Tryz.prog 99 ([]:List (List Value)):=⟨⟨_,Tryz.underlying99,rfl,fun i f hf=>by
 match i,hf with
 |i+0,hf=>simp at hf⟩,by kernel_rfl⟩
theorem ec:(Tryz.prog.info? 5).map (·.size)=some 1:=by kernel_rfl
theorem Mt:(Tryz.prog.info? 9).map (·.size)=some 1:=by kernel_rfl
theorem yF:(Tryz.prog.info? 131).map (·.size)=some 1:=by kernel_rfl
theorem dE:(Tryz.prog.info? 180).map (·.size)=some 1:=by kernel_rfl
theorem ip:(Tryz.prog.info? 24).bind (·.zero)=some (.agg (aQ 0 ByteArray.empty aI)):=by kernel_rfl
theorem dS:(Tryz.prog.info? 26).bind (·.zero)=some (gp 0#256):=d8.zero
theorem ob:(Tryz.prog.info? 28).bind (·.zero)=some (.agg (bg (0,0#256,0))):=by rw [gR];kernel_rfl
theorem kQ:(Tryz.prog.info? 31).bind (·.zero)=some (.agg (aP mZ aI)):=by rw [show aP mZ aI=aP mZ (.slice none 0 0) from rfl,jH];kernel_rfl
theorem gL:(Tryz.prog.info? 44).bind (·.zero)=some (.agg (bT 0 ByteArray.empty aI aI 0)):=by kernel_rfl
theorem eL:(Tryz.prog.info? 67).bind (·.zero)=some (.agg (aB aW)):=by rw [tZ];kernel_rfl
theorem tB:(Tryz.prog.info? 89).bind (·.zero)=some (.agg (fq 0)):=by kernel_rfl
theorem K1:(Tryz.prog.info? 94).bind (·.zero)=some (.agg (aP mZ aI)):=by rw [show aP mZ aI=aP mZ (.slice none 0 0) from rfl,jH];kernel_rfl
theorem Ky:(Tryz.prog.info? 95).bind (·.zero)=some (.agg (aP mZ aI)):=by rw [show aP mZ aI=aP mZ (.slice none 0 0) from rfl,jH];kernel_rfl
theorem sM:(Tryz.prog.info? 103).bind (·.zero)=some (.agg (bO aI 0 ByteArray.empty)):=by kernel_rfl
theorem pK:(Tryz.prog.info? 107).bind (·.zero)=some (.agg (cu 0 0 aI 0 ByteArray.empty aW 0)):=by rw [FV];kernel_rfl
theorem yS:(Tryz.prog.info? 111).bind (·.zero)=some (.agg (jc 0 mZ aI)):=by rw [Hw];kernel_rfl
theorem yZ:(Tryz.prog.info? 134).bind (·.zero)=some (.agg #[.nilFunc,.nilFunc,.nilFunc,.nilFunc]):=by kernel_rfl
theorem G1:(Tryz.prog.info? 145).bind (·.zero)=some (.nilFunc):=by kernel_rfl
theorem GH:(Tryz.prog.info? 167).bind (·.zero)=some (.nilFunc):=by kernel_rfl
theorem GY:(Tryz.prog.info? 184).bind (·.zero)=some (.agg (aO (fun _=>0) 16)):=by rw [show aO (fun _=>0) 16=(List.replicate 16 (Value.int .u8 0)).toArray from rfl];kernel_rfl
theorem tH:(Tryz.prog.info? 192).bind (·.zero)=some (.agg (wF (fun _=>0#32) 8)):=by rw [zD];kernel_rfl
theorem pL:(Tryz.prog.info? 197).bind (·.zero)=some (.agg (aO (fun _=>0) 64)):=by rw [show aO (fun _=>0) 64=(List.replicate 64 (Value.int .u8 0)).toArray from rfl];kernel_rfl
theorem yL:(Tryz.prog.info? 199).bind (·.zero)=some (.agg (wF (fun _=>0#32) 64)):=by rw [zD];kernel_rfl
theorem dg (n:Nat) (h:(match Tryz.prog.funcs[n]? with|some fn => !fn.body.isNone && !(fn.name == "runtime.NumGoroutine")|none=>false)=true):Fnc Tryz.prog n:=by
 cases hf:Tryz.prog.funcs[n]? with
 |none=>rw [hf] at h;simp at h
 |some fn=>rw [hf] at h;simp only [Bool.and_eq_true,Bool.not_eq_true'] at h;exact ⟨⟨fn,hf,h.1,h.2⟩⟩
theorem uV:Elm Tryz.prog 5 1 1:=kC (by kernel_rfl) (by decide)
theorem JY:Elm Tryz.prog 9 1 16:=kC (by kernel_rfl) (by decide)
theorem HQ:Elm Tryz.prog 22 1 24:=kC (by kernel_rfl) (by decide)
theorem pm:Elm Tryz.prog 28 34 48:=kC (by kernel_rfl) (by decide)
theorem Nr:Elm Tryz.prog 29 1 24:=kC (by kernel_rfl) (by decide)
theorem ex:Elm Tryz.prog 67 67 88:=kC (by kernel_rfl) (by decide)
theorem kW:Elm Tryz.prog 71 139 248:=kC (by kernel_rfl) (by decide)
theorem fJ:Elm Tryz.prog 107 73 160:=kC (by kernel_rfl) (by decide)
theorem iY:Elm Tryz.prog 180 1 4:=kC (by kernel_rfl) (by decide)
theorem Eh:(Tryz.prog.info? 5).bind (·.zero)=some (.int .u8 0):=by kernel_rfl
theorem N8:Fnc Tryz.prog 5:=dg 5 (by kernel_rfl)
theorem Om:Fnc Tryz.prog 6:=dg 6 (by kernel_rfl)
theorem M4:Fnc Tryz.prog 7:=dg 7 (by kernel_rfl)
theorem Oq:Fnc Tryz.prog 8:=dg 8 (by kernel_rfl)
theorem Fe:Fnc Tryz.prog 9:=dg 9 (by kernel_rfl)
theorem Is:Fnc Tryz.prog 10:=dg 10 (by kernel_rfl)
theorem Mv:Fnc Tryz.prog 11:=dg 11 (by kernel_rfl)
theorem Ci:Fnc Tryz.prog 12:=dg 12 (by kernel_rfl)
theorem q7:Fnc Tryz.prog 13:=dg 13 (by kernel_rfl)
theorem qZ:Fnc Tryz.prog 14:=dg 14 (by kernel_rfl)
theorem pV:Fnc Tryz.prog 15:=dg 15 (by kernel_rfl)
theorem L0:Fnc Tryz.prog 19:=dg 19 (by kernel_rfl)
theorem Me:Fnc Tryz.prog 20:=dg 20 (by kernel_rfl)
theorem wa:Fnc Tryz.prog 22:=dg 22 (by kernel_rfl)
theorem qW:Fnc Tryz.prog 23:=dg 23 (by kernel_rfl)
theorem Lj:Fnc Tryz.prog 24:=dg 24 (by kernel_rfl)
theorem LS:Fnc Tryz.prog 25:=dg 25 (by kernel_rfl)
theorem vH:Fnc Tryz.prog 26:=dg 26 (by kernel_rfl)
theorem HI:Fnc Tryz.prog 27:=dg 27 (by kernel_rfl)
theorem qU:Fnc Tryz.prog 28:=dg 28 (by kernel_rfl)
theorem jj:Fnc Tryz.prog 29:=dg 29 (by kernel_rfl)
theorem Cg:Fnc Tryz.prog 30:=dg 30 (by kernel_rfl)
theorem HJ:Fnc Tryz.prog 31:=dg 31 (by kernel_rfl)
theorem H8:Fnc Tryz.prog 32:=dg 32 (by kernel_rfl)
theorem LL:Fnc Tryz.prog 33:=dg 33 (by kernel_rfl)
theorem Nq:Fnc Tryz.prog 34:=dg 34 (by kernel_rfl)
theorem Nj:Fnc Tryz.prog 35:=dg 35 (by kernel_rfl)
theorem HL:Fnc Tryz.prog 36:=dg 36 (by kernel_rfl)
theorem LH:Fnc Tryz.prog 37:=dg 37 (by kernel_rfl)
theorem za:Fnc Tryz.prog 40:=dg 40 (by kernel_rfl)
theorem EH:Fnc Tryz.prog 41:=dg 41 (by kernel_rfl)
theorem Ic:Fnc Tryz.prog 42:=dg 42 (by kernel_rfl)
theorem L9:Fnc Tryz.prog 43:=dg 43 (by kernel_rfl)
theorem eF:Fnc Tryz.prog 44:=dg 44 (by kernel_rfl)
theorem oU:Fnc Tryz.prog 45:=dg 45 (by kernel_rfl)
theorem rQ:Fnc Tryz.prog 46:=dg 46 (by kernel_rfl)
theorem LU:Fnc Tryz.prog 47:=dg 47 (by kernel_rfl)
theorem Nl:Fnc Tryz.prog 48:=dg 48 (by kernel_rfl)
theorem L3:Fnc Tryz.prog 49:=dg 49 (by kernel_rfl)
theorem wn:Fnc Tryz.prog 50:=dg 50 (by kernel_rfl)
theorem rZ:Fnc Tryz.prog 51:=dg 51 (by kernel_rfl)
theorem Nb:Fnc Tryz.prog 52:=dg 52 (by kernel_rfl)
theorem NK:Fnc Tryz.prog 53:=dg 53 (by kernel_rfl)
theorem Lq:Fnc Tryz.prog 54:=dg 54 (by kernel_rfl)
theorem qo:Fnc Tryz.prog 55:=dg 55 (by kernel_rfl)
theorem DU:Fnc Tryz.prog 56:=dg 56 (by kernel_rfl)
theorem Mu:Fnc Tryz.prog 57:=dg 57 (by kernel_rfl)
theorem HT:Fnc Tryz.prog 58:=dg 58 (by kernel_rfl)
theorem Ih:Fnc Tryz.prog 59:=dg 59 (by kernel_rfl)
theorem Iu:Fnc Tryz.prog 60:=dg 60 (by kernel_rfl)
theorem Nh:Fnc Tryz.prog 61:=dg 61 (by kernel_rfl)
theorem Ir:Fnc Tryz.prog 62:=dg 62 (by kernel_rfl)
theorem If:Fnc Tryz.prog 63:=dg 63 (by kernel_rfl)
theorem IB:Fnc Tryz.prog 67:=dg 67 (by kernel_rfl)
theorem Iw:Fnc Tryz.prog 68:=dg 68 (by kernel_rfl)
theorem zI:Fnc Tryz.prog 69:=dg 69 (by kernel_rfl)
theorem LT:Fnc Tryz.prog 70:=dg 70 (by kernel_rfl)
theorem MQ:Fnc Tryz.prog 71:=dg 71 (by kernel_rfl)
theorem Ms:Fnc Tryz.prog 72:=dg 72 (by kernel_rfl)
theorem LE:Fnc Tryz.prog 73:=dg 73 (by kernel_rfl)
theorem Ej:Fnc Tryz.prog 74:=dg 74 (by kernel_rfl)
theorem Il:Fnc Tryz.prog 75:=dg 75 (by kernel_rfl)
theorem LW:Fnc Tryz.prog 76:=dg 76 (by kernel_rfl)
theorem Li:Fnc Tryz.prog 77:=dg 77 (by kernel_rfl)
theorem MX:Fnc Tryz.prog 78:=dg 78 (by kernel_rfl)
theorem ME:Fnc Tryz.prog 79:=dg 79 (by kernel_rfl)
theorem L8:Fnc Tryz.prog 80:=dg 80 (by kernel_rfl)
theorem Nx:Fnc Tryz.prog 81:=dg 81 (by kernel_rfl)
theorem Ln:Fnc Tryz.prog 82:=dg 82 (by kernel_rfl)
theorem Mc:Fnc Tryz.prog 83:=dg 83 (by kernel_rfl)
theorem LX:Fnc Tryz.prog 84:=dg 84 (by kernel_rfl)
theorem HY:Fnc Tryz.prog 85:=dg 85 (by kernel_rfl)
theorem NF:Fnc Tryz.prog 86:=dg 86 (by kernel_rfl)
theorem Md:Fnc Tryz.prog 87:=dg 87 (by kernel_rfl)
theorem Cq:Fnc Tryz.prog 88:=dg 88 (by kernel_rfl)
theorem Ni:Fnc Tryz.prog 89:=dg 89 (by kernel_rfl)
theorem M0:Fnc Tryz.prog 90:=dg 90 (by kernel_rfl)
theorem Iz:Fnc Tryz.prog 91:=dg 91 (by kernel_rfl)
theorem rU:Fnc Tryz.prog 93:=dg 93 (by kernel_rfl)
theorem MN:Fnc Tryz.prog 94:=dg 94 (by kernel_rfl)
theorem NJ:Fnc Tryz.prog 95:=dg 95 (by kernel_rfl)
theorem Na:Fnc Tryz.prog 96:=dg 96 (by kernel_rfl)
theorem H6:Fnc Tryz.prog 97:=dg 97 (by kernel_rfl)
theorem H7:Fnc Tryz.prog 98:=dg 98 (by kernel_rfl)
theorem LA:Fnc Tryz.prog 99:=dg 99 (by kernel_rfl)
theorem KE:Fnc Tryz.prog 100:=dg 100 (by kernel_rfl)
theorem Cu:Fnc Tryz.prog 101:=dg 101 (by kernel_rfl)
theorem IX:Fnc Tryz.prog 102:=dg 102 (by kernel_rfl)
theorem CP:Fnc Tryz.prog 103:=dg 103 (by kernel_rfl)
theorem Jg:Fnc Tryz.prog 104:=dg 104 (by kernel_rfl)
theorem m9:Fnc Tryz.prog 105:=dg 105 (by kernel_rfl)
theorem yb:Fnc Tryz.prog 106:=dg 106 (by kernel_rfl)
theorem Du:Fnc Tryz.prog 107:=dg 107 (by kernel_rfl)
theorem KI:Fnc Tryz.prog 108:=dg 108 (by kernel_rfl)
theorem Dd:Fnc Tryz.prog 109:=dg 109 (by kernel_rfl)
theorem Kb:Fnc Tryz.prog 110:=dg 110 (by kernel_rfl)
theorem IE:Fnc Tryz.prog 111:=dg 111 (by kernel_rfl)
theorem wD:Fnc Tryz.prog 112:=dg 112 (by kernel_rfl)
theorem Jd:Fnc Tryz.prog 113:=dg 113 (by kernel_rfl)
theorem BQ:Fnc Tryz.prog 114:=dg 114 (by kernel_rfl)
theorem Jh:Fnc Tryz.prog 115:=dg 115 (by kernel_rfl)
theorem DQ:Fnc Tryz.prog 116:=dg 116 (by kernel_rfl)
theorem JP:Fnc Tryz.prog 117:=dg 117 (by kernel_rfl)
theorem Bn:Fnc Tryz.prog 118:=dg 118 (by kernel_rfl)
theorem KC:Fnc Tryz.prog 119:=dg 119 (by kernel_rfl)
theorem Er:Fnc Tryz.prog 120:=dg 120 (by kernel_rfl)
theorem Jv:Fnc Tryz.prog 121:=dg 121 (by kernel_rfl)
theorem IF:Fnc Tryz.prog 122:=dg 122 (by kernel_rfl)
theorem KZ:Fnc Tryz.prog 123:=dg 123 (by kernel_rfl)
theorem BK:Fnc Tryz.prog 124:=dg 124 (by kernel_rfl)
theorem Dq:Fnc Tryz.prog 125:=dg 125 (by kernel_rfl)
theorem lR:Fnc Tryz.prog 126:=dg 126 (by kernel_rfl)
theorem DG:Fnc Tryz.prog 127:=dg 127 (by kernel_rfl)
theorem KD:Fnc Tryz.prog 128:=dg 128 (by kernel_rfl)
theorem Bm:Fnc Tryz.prog 129:=dg 129 (by kernel_rfl)
theorem IN:Fnc Tryz.prog 130:=dg 130 (by kernel_rfl)
theorem KX:Fnc Tryz.prog 131:=dg 131 (by kernel_rfl)
theorem jx:Fnc Tryz.prog 132:=dg 132 (by kernel_rfl)
theorem Kn:Fnc Tryz.prog 133:=dg 133 (by kernel_rfl)
theorem KK:Fnc Tryz.prog 134:=dg 134 (by kernel_rfl)
theorem J9:Fnc Tryz.prog 135:=dg 135 (by kernel_rfl)
theorem KB:Fnc Tryz.prog 136:=dg 136 (by kernel_rfl)
theorem J6:Fnc Tryz.prog 137:=dg 137 (by kernel_rfl)
theorem JM:Fnc Tryz.prog 138:=dg 138 (by kernel_rfl)
theorem BF:Fnc Tryz.prog 139:=dg 139 (by kernel_rfl)
theorem Kf:Fnc Tryz.prog 140:=dg 140 (by kernel_rfl)
theorem JT:Fnc Tryz.prog 141:=dg 141 (by kernel_rfl)
theorem Jn:Fnc Tryz.prog 142:=dg 142 (by kernel_rfl)
theorem BT:Fnc Tryz.prog 143:=dg 143 (by kernel_rfl)
theorem jr:Fnc Tryz.prog 144:=dg 144 (by kernel_rfl)
theorem JE:Fnc Tryz.prog 145:=dg 145 (by kernel_rfl)
theorem J8:Fnc Tryz.prog 161:=dg 161 (by kernel_rfl)
theorem IC:Fnc Tryz.prog 162:=dg 162 (by kernel_rfl)
def PN:List (Nat × Nat × Nat):=[(24,0,0),(24,1,1),(24,2,2),(28,0,0),(28,1,1),(28,2,33),(31,0,0),(31,1,1),(31,2,33),(31,3,67),(31,4,68),(31,5,69),(31,6,70),(44,0,0),(44,1,3),(44,2,4),(67,0,0),(67,1,32),(67,2,66),(71,0,0),(71,1,1),(71,2,72),(89,0,0),(89,1,1),(89,2,2),(89,3,3),(89,4,4),(89,5,5),(94,0,0),(95,0,0),(103,0,0),(103,1,1),(103,2,2),(107,0,0),(107,1,1),(107,2,2),(107,3,5),(107,4,72),(111,0,0),(111,1,1),(133,0,0),(133,1,32)]
theorem ab:FT Tryz.prog PN:=⟨Gq,GZ,GR,j9,yr,zk,yn,GA,GF,Fj,G8,FZ,Hc,FL,Gx,GX,tV,F9,td,g7,mr,kP,Fx,FY,EX,Hl,GT,Fq,Fu,Hy,Dl,Dj,BE,Bp,BN,C2,CY,CO,DR,CI,CH,Bt,trivial⟩
end Go.Proofs.YtobfeflheaobiaaGreatDoor
