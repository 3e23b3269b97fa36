/- What the walks want of the program: its types and functions by number; no condition. -/
import Derived.Test.YthggibfkgofncaaGreatProg
import Derived.KernelRfl
import Derived.Test.YthggibfkgofncaaGreatOw
namespace Go.Proofs.YthggibfkgofncaaGreat
theorem g6:IdTy Tryz.prog 26 5:=⟨Tryz.underlying26,by kernel_rfl,Tryz.underlying5,by kernel_rfl,by rw [ia,jr];kernel_rfl⟩
theorem bk:Row Tryz.prog 24 1:=⟨⟨_,Tryz.underlying24,rfl⟩,by kernel_rfl⟩
theorem cA:Row Tryz.prog 26 32:=⟨⟨_,Tryz.underlying26,rfl⟩,by kernel_rfl⟩
theorem aC:Row Tryz.prog 28 33:=⟨⟨_,Tryz.underlying28,rfl⟩,by kernel_rfl⟩
theorem aW:Row Tryz.prog 42 68:=⟨⟨_,Tryz.underlying42,rfl⟩,by kernel_rfl⟩
theorem A4:Row Tryz.prog 114 0:=⟨⟨_,Tryz.underlying114,rfl⟩,by kernel_rfl⟩
theorem bw:One Tryz.prog 3:=⟨⟨_,Tryz.underlying3,rfl⟩,by kernel_rfl⟩
theorem fl:One Tryz.prog 4:=⟨⟨_,Tryz.underlying4,rfl⟩,by kernel_rfl⟩
theorem pu:One Tryz.prog 5:=⟨⟨_,Tryz.underlying5,rfl⟩,by kernel_rfl⟩
theorem da:One Tryz.prog 22:=⟨⟨_,Tryz.underlying22,rfl⟩,by kernel_rfl⟩
theorem bE:One Tryz.prog 36:=⟨⟨_,Tryz.underlying36,rfl⟩,by kernel_rfl⟩
theorem ge:One Tryz.prog 54:=⟨⟨_,Tryz.underlying54,rfl⟩,by kernel_rfl⟩
theorem sk:One Tryz.prog 78:=⟨⟨_,Tryz.underlying78,rfl⟩,by kernel_rfl⟩
theorem jY:One Tryz.prog 84:=⟨⟨_,Tryz.underlying84,rfl⟩,by kernel_rfl⟩
theorem BW:(Tryz.prog.info? 3).map (·.size)=some 1:=by kernel_rfl
theorem cD:(Tryz.prog.info? 28).map (·.size)=some 33:=by kernel_rfl
theorem Aj:(Tryz.prog.info? 36).map (·.size)=some 1:=by kernel_rfl
theorem eA:(Tryz.prog.info? 42).map (·.size)=some 68:=by kernel_rfl
theorem cp:Fld Tryz.prog 24 0 0:=⟨⟨_,_,0,Tryz.underlying24,rfl,by kernel_rfl,rfl⟩⟩
theorem aH:Fld Tryz.prog 28 0 0:=⟨⟨_,_,0,Tryz.underlying28,rfl,by kernel_rfl,rfl⟩⟩
theorem cj:Fld Tryz.prog 28 1 1:=⟨⟨_,_,31,Tryz.underlying28,rfl,by kernel_rfl,rfl⟩⟩
theorem aK:Fld Tryz.prog 42 0 0:=⟨⟨_,_,32,Tryz.underlying42,rfl,by kernel_rfl,rfl⟩⟩
theorem aV:Fld Tryz.prog 42 1 33:=⟨⟨_,_,32,Tryz.underlying42,rfl,by kernel_rfl,rfl⟩⟩
theorem bC:Fld Tryz.prog 42 2 66:=⟨⟨_,_,0,Tryz.underlying42,rfl,by kernel_rfl,rfl⟩⟩
theorem cP:Fld Tryz.prog 42 3 67:=⟨⟨_,_,0,Tryz.underlying42,rfl,by kernel_rfl,rfl⟩⟩
theorem rR:FldT Tryz.prog 28 0 0 3:=⟨⟨_,_,Tryz.underlying28,rfl,rfl,rfl⟩⟩
theorem Du:EqV Tryz.prog 2 26 (32*1) (fun xs=>xs.length=32*1∧∀ i,i<32→∃ n,(xs.drop (i*1)).take 1=[Value.int .u8 n]) t7:=EqV.arr (n:=32) (EqV.int .u8 Tryz.underlying5 (by kernel_rfl)) Tryz.underlying26 (by kernel_rfl)
theorem eo (x y:Mb):DH Tryz.prog 3 28 33 (av x) (av y):=⟨_,EqV.struct' [(1,(fun xs=>∃ n,xs=[Value.int .i64 n])),(32*1,(fun xs=>xs.length=32*1∧∀ i,i<32→∃ n,(xs.drop (i*1)).take 1=[Value.int .u8 n]))] Tryz.underlying28 (by kernel_rfl) (by kernel_rfl) ⟨by decide,⟨Dp,(EqV.int .i64 Tryz.underlying3 (by kernel_rfl)).up⟩,by decide,⟨t7,Du⟩,trivial⟩ ⟨rfl,rfl,rfl⟩,⟨by rw [Array.length_toList,aj],⟨_,pB _⟩,(by show _∧_;unfold oF;dsimp only;rw [pF];exact vd _ _),trivial⟩,⟨by rw [Array.length_toList,aj],⟨_,pB _⟩,(by show _∧_;unfold oF;dsimp only;rw [pF];exact vd _ _),trivial⟩⟩
theorem mM:Stt Tryz.prog 28 DA:=⟨⟨_,Tryz.underlying28,rfl,fun i f hf=>by
 match i,hf with
 |0,hf=>cases hf;exact ⟨_,rfl,by kernel_rfl,rfl⟩
 |1,hf=>cases hf;exact ⟨_,rfl,by kernel_rfl,rfl⟩
 |i+2,hf=>simp at hf⟩,by kernel_rfl⟩
theorem p3:Stt Tryz.prog 42 Co:=⟨⟨_,Tryz.underlying42,rfl,fun i f hf=>by
 match i,hf with
 |0,hf=>cases hf;exact ⟨_,rfl,by kernel_rfl,rfl⟩
 |1,hf=>cases hf;exact ⟨_,rfl,by kernel_rfl,rfl⟩
 |2,hf=>cases hf;exact ⟨_,rfl,by kernel_rfl,rfl⟩
 |3,hf=>cases hf;exact ⟨_,rfl,by kernel_rfl,rfl⟩
 |i+4,hf=>simp at hf⟩,by kernel_rfl⟩
theorem g5:Stt Tryz.prog 24 Eg:=⟨⟨_,Tryz.underlying24,rfl,fun i f hf=>by
 match i,hf with
 |0,hf=>cases hf;exact ⟨_,rfl,by kernel_rfl,rfl⟩
 |i+1,hf=>simp at hf⟩,by kernel_rfl⟩
theorem DP:Stt Tryz.prog 114 []:=⟨⟨_,Tryz.underlying114,rfl,fun i f hf=>by
 match i,hf with
 |i+0,hf=>simp at hf⟩,by kernel_rfl⟩
theorem kS:(Tryz.prog.info? 5).map (·.size)=some 1:=by kernel_rfl
theorem rC:(Tryz.prog.info? 4).bind (·.zero)=some (.bool false):=by kernel_rfl
theorem d3:(Tryz.prog.info? 24).bind (·.zero)=some (.agg #[bp]):=by kernel_rfl
theorem wW:(Tryz.prog.info? 26).bind (·.zero)=some (ia 0#256):=g6.zero
theorem cB:(Tryz.prog.info? 28).bind (·.zero)=some (.agg (av aZ)):=by rw [oI];kernel_rfl
theorem qc:(Tryz.prog.info? 36).bind (·.zero)=some (.slice none 0 0):=by kernel_rfl
theorem dL:(Tryz.prog.info? 42).bind (·.zero)=some (.agg (ay aZ aZ bp bp)):=by rw [yj];kernel_rfl
theorem AF:(Tryz.prog.info? 54).bind (·.zero)=some (.pointer none):=by kernel_rfl
theorem AP:(Tryz.prog.info? 78).bind (·.zero)=some (.slice none 0 0):=by kernel_rfl
theorem w6:(Tryz.prog.info? 84).bind (·.zero)=some (.map none):=by kernel_rfl
theorem r4:(Tryz.prog.info? 114).bind (·.zero)=some (.agg #[]):=by kernel_rfl
theorem di (n:Nat) (h:(match Tryz.prog.funcs[n]? with|some fn => !fn.body.isNone && !(fn.name == "runtime.NumGoroutine")|none=>false)=true):Fnc Tryz.prog n:=by
 cases hf:Tryz.prog.funcs[n]? with
 |none=>rw [hf] at h;simp at h
 |some fn=>rw [hf] at h;simp only [Bool.and_eq_true,Bool.not_eq_true'] at h;exact ⟨⟨fn,hf,h.1,h.2⟩⟩
theorem yt:Elm Tryz.prog 3 1 8:=n8 (by kernel_rfl) (by decide)
theorem c8:Elm Tryz.prog 28 33 40:=n8 (by kernel_rfl) (by decide)
theorem CV:Elm Tryz.prog 36 1 24:=n8 (by kernel_rfl) (by decide)
theorem gY:Elm Tryz.prog 42 68 128:=n8 (by kernel_rfl) (by decide)
theorem Dz:Fnc Tryz.prog 7:=di 7 (by kernel_rfl)
theorem DV:Fnc Tryz.prog 8:=di 8 (by kernel_rfl)
theorem zI:Fnc Tryz.prog 10:=di 10 (by kernel_rfl)
theorem mA:Fnc Tryz.prog 11:=di 11 (by kernel_rfl)
theorem Ci:Fnc Tryz.prog 12:=di 12 (by kernel_rfl)
theorem wH:Fnc Tryz.prog 14:=di 14 (by kernel_rfl)
theorem zu:Fnc Tryz.prog 15:=di 15 (by kernel_rfl)
theorem uz:Fnc Tryz.prog 16:=di 16 (by kernel_rfl)
theorem CR:Fnc Tryz.prog 17:=di 17 (by kernel_rfl)
theorem mT:Fnc Tryz.prog 18:=di 18 (by kernel_rfl)
theorem fi:Fnc Tryz.prog 20:=di 20 (by kernel_rfl)
theorem Dg:Fnc Tryz.prog 22:=di 22 (by kernel_rfl)
theorem rU:Fnc Tryz.prog 28:=di 28 (by kernel_rfl)
theorem BX:Fnc Tryz.prog 29:=di 29 (by kernel_rfl)
theorem zh:Fnc Tryz.prog 30:=di 30 (by kernel_rfl)
theorem CL:Fnc Tryz.prog 31:=di 31 (by kernel_rfl)
theorem zp:Fnc Tryz.prog 32:=di 32 (by kernel_rfl)
theorem Ae:Fnc Tryz.prog 33:=di 33 (by kernel_rfl)
theorem zx:Fnc Tryz.prog 34:=di 34 (by kernel_rfl)
theorem lW:Fnc Tryz.prog 35:=di 35 (by kernel_rfl)
theorem xp:Fnc Tryz.prog 36:=di 36 (by kernel_rfl)
theorem zB:Fnc Tryz.prog 37:=di 37 (by kernel_rfl)
theorem wd:Fnc Tryz.prog 39:=di 39 (by kernel_rfl)
theorem wb:Fnc Tryz.prog 40:=di 40 (by kernel_rfl)
theorem r2:Fnc Tryz.prog 41:=di 41 (by kernel_rfl)
theorem zF:Fnc Tryz.prog 42:=di 42 (by kernel_rfl)
theorem rF:Fnc Tryz.prog 43:=di 43 (by kernel_rfl)
theorem Cx:Fnc Tryz.prog 44:=di 44 (by kernel_rfl)
theorem pA:Fnc Tryz.prog 45:=di 45 (by kernel_rfl)
theorem zK:Fnc Tryz.prog 46:=di 46 (by kernel_rfl)
theorem kE:Fnc Tryz.prog 47:=di 47 (by kernel_rfl)
theorem gd:Fnc Tryz.prog 48:=di 48 (by kernel_rfl)
theorem zQ:Fnc Tryz.prog 49:=di 49 (by kernel_rfl)
theorem CG:Fnc Tryz.prog 50:=di 50 (by kernel_rfl)
theorem rJ:Fnc Tryz.prog 51:=di 51 (by kernel_rfl)
theorem i9:Fnc Tryz.prog 52:=di 52 (by kernel_rfl)
theorem fN:Fnc Tryz.prog 55:=di 55 (by kernel_rfl)
theorem wI:Fnc Tryz.prog 56:=di 56 (by kernel_rfl)
theorem uy:Fnc Tryz.prog 57:=di 57 (by kernel_rfl)
theorem CT:Fnc Tryz.prog 59:=di 59 (by kernel_rfl)
theorem BV:Fnc Tryz.prog 62:=di 62 (by kernel_rfl)
theorem C8:Fnc Tryz.prog 63:=di 63 (by kernel_rfl)
theorem B4:Fnc Tryz.prog 64:=di 64 (by kernel_rfl)
theorem CN:Fnc Tryz.prog 65:=di 65 (by kernel_rfl)
theorem Ck:Fnc Tryz.prog 66:=di 66 (by kernel_rfl)
theorem zn:Fnc Tryz.prog 67:=di 67 (by kernel_rfl)
theorem fT:Fnc Tryz.prog 68:=di 68 (by kernel_rfl)
theorem u0:Fnc Tryz.prog 69:=di 69 (by kernel_rfl)
theorem C2:Fnc Tryz.prog 70:=di 70 (by kernel_rfl)
theorem rX:Fnc Tryz.prog 71:=di 71 (by kernel_rfl)
theorem CX:Fnc Tryz.prog 74:=di 74 (by kernel_rfl)
theorem ic:Fnc Tryz.prog 75:=di 75 (by kernel_rfl)
theorem kC:Fnc Tryz.prog 76:=di 76 (by kernel_rfl)
theorem zw:Fnc Tryz.prog 77:=di 77 (by kernel_rfl)
theorem B3:Fnc Tryz.prog 78:=di 78 (by kernel_rfl)
theorem kH:Fnc Tryz.prog 79:=di 79 (by kernel_rfl)
theorem uj:Fnc Tryz.prog 80:=di 80 (by kernel_rfl)
theorem zT:Fnc Tryz.prog 81:=di 81 (by kernel_rfl)
theorem Cp:Fnc Tryz.prog 82:=di 82 (by kernel_rfl)
theorem CH:Fnc Tryz.prog 83:=di 83 (by kernel_rfl)
theorem Cq:Fnc Tryz.prog 84:=di 84 (by kernel_rfl)
theorem C5:Fnc Tryz.prog 85:=di 85 (by kernel_rfl)
theorem Di:Fnc Tryz.prog 87:=di 87 (by kernel_rfl)
theorem rt:Fnc Tryz.prog 89:=di 89 (by kernel_rfl)
theorem m3:Fnc Tryz.prog 92:=di 92 (by kernel_rfl)
theorem B2:Fnc Tryz.prog 95:=di 95 (by kernel_rfl)
theorem zH:Fnc Tryz.prog 96:=di 96 (by kernel_rfl)
theorem lP:Fnc Tryz.prog 97:=di 97 (by kernel_rfl)
theorem C3:Fnc Tryz.prog 98:=di 98 (by kernel_rfl)
theorem zk:Fnc Tryz.prog 99:=di 99 (by kernel_rfl)
theorem Br:Fnc Tryz.prog 100:=di 100 (by kernel_rfl)
theorem wq:Fnc Tryz.prog 111:=di 111 (by kernel_rfl)
theorem uK:Fnc Tryz.prog 112:=di 112 (by kernel_rfl)
theorem A3:Fnc Tryz.prog 113:=di 113 (by kernel_rfl)
theorem qZ:Fnc Tryz.prog 114:=di 114 (by kernel_rfl)
theorem xg:Fnc Tryz.prog 115:=di 115 (by kernel_rfl)
theorem AL:Fnc Tryz.prog 116:=di 116 (by kernel_rfl)
theorem ux:Fnc Tryz.prog 117:=di 117 (by kernel_rfl)
theorem BG:Fnc Tryz.prog 118:=di 118 (by kernel_rfl)
theorem Bc:Fnc Tryz.prog 122:=di 122 (by kernel_rfl)
theorem Al:Fnc Tryz.prog 123:=di 123 (by kernel_rfl)
theorem vE:Fnc Tryz.prog 124:=di 124 (by kernel_rfl)
theorem oJ:Fnc Tryz.prog 125:=di 125 (by kernel_rfl)
theorem nW:Fnc Tryz.prog 127:=di 127 (by kernel_rfl)
theorem AV:Fnc Tryz.prog 128:=di 128 (by kernel_rfl)
theorem uR:Fnc Tryz.prog 129:=di 129 (by kernel_rfl)
theorem nK:Fnc Tryz.prog 130:=di 130 (by kernel_rfl)
theorem AR:Fnc Tryz.prog 131:=di 131 (by kernel_rfl)
theorem AB:Fnc Tryz.prog 137:=di 137 (by kernel_rfl)
theorem wK:Fnc Tryz.prog 138:=di 138 (by kernel_rfl)
theorem n5:Fnc Tryz.prog 139:=di 139 (by kernel_rfl)
theorem A6:Fnc Tryz.prog 140:=di 140 (by kernel_rfl)
theorem BA:Fnc Tryz.prog 142:=di 142 (by kernel_rfl)
theorem AO:Fnc Tryz.prog 144:=di 144 (by kernel_rfl)
theorem AJ:Fnc Tryz.prog 146:=di 146 (by kernel_rfl)
theorem AE:Fnc Tryz.prog 147:=di 147 (by kernel_rfl)
theorem AS:Fnc Tryz.prog 148:=di 148 (by kernel_rfl)
theorem wS:Fnc Tryz.prog 150:=di 150 (by kernel_rfl)
theorem An:Fnc Tryz.prog 151:=di 151 (by kernel_rfl)
end Go.Proofs.YthggibfkgofncaaGreat
