/- What the walks want of the program: its types and functions by number; no condition. -/
import Derived.Test.YthggibfkgofncaaGreatProg
import Derived.KernelRfl
import Derived.Test.YthggibfkgofncaaGreatOw
namespace Go.Proofs.YthggibfkgofncaaGreat
theorem gY:IdTy Tryz.prog 26 5:=⟨Tryz.underlying26,by kernel_rfl,Tryz.underlying5,by kernel_rfl,by rw [gI,iT];kernel_rfl⟩
theorem a7:Row Tryz.prog 24 1:=⟨⟨_,Tryz.underlying24,rfl⟩,by kernel_rfl⟩
theorem cq:Row Tryz.prog 26 32:=⟨⟨_,Tryz.underlying26,rfl⟩,by kernel_rfl⟩
theorem aJ:Row Tryz.prog 28 33:=⟨⟨_,Tryz.underlying28,rfl⟩,by kernel_rfl⟩
theorem bw:Row Tryz.prog 42 68:=⟨⟨_,Tryz.underlying42,rfl⟩,by kernel_rfl⟩
theorem zI:Row Tryz.prog 114 0:=⟨⟨_,Tryz.underlying114,rfl⟩,by kernel_rfl⟩
theorem bV:One Tryz.prog 3:=⟨⟨_,Tryz.underlying3,rfl⟩,by kernel_rfl⟩
theorem eU:One Tryz.prog 4:=⟨⟨_,Tryz.underlying4,rfl⟩,by kernel_rfl⟩
theorem oK:One Tryz.prog 5:=⟨⟨_,Tryz.underlying5,rfl⟩,by kernel_rfl⟩
theorem c3:One Tryz.prog 22:=⟨⟨_,Tryz.underlying22,rfl⟩,by kernel_rfl⟩
theorem cf:One Tryz.prog 36:=⟨⟨_,Tryz.underlying36,rfl⟩,by kernel_rfl⟩
theorem rv:One Tryz.prog 54:=⟨⟨_,Tryz.underlying54,rfl⟩,by kernel_rfl⟩
theorem r5:One Tryz.prog 78:=⟨⟨_,Tryz.underlying78,rfl⟩,by kernel_rfl⟩
theorem pU:One Tryz.prog 84:=⟨⟨_,Tryz.underlying84,rfl⟩,by kernel_rfl⟩
theorem Dq:(Tryz.prog.info? 3).map (·.size)=some 1:=by kernel_rfl
theorem cA:(Tryz.prog.info? 28).map (·.size)=some 33:=by kernel_rfl
theorem y0:(Tryz.prog.info? 36).map (·.size)=some 1:=by kernel_rfl
theorem fa:(Tryz.prog.info? 42).map (·.size)=some 68:=by kernel_rfl
theorem ck:Fld Tryz.prog 24 0 0:=⟨⟨_,_,0,Tryz.underlying24,rfl,by kernel_rfl,rfl⟩⟩
theorem aP:Fld Tryz.prog 28 0 0:=⟨⟨_,_,0,Tryz.underlying28,rfl,by kernel_rfl,rfl⟩⟩
theorem ce:Fld Tryz.prog 28 1 1:=⟨⟨_,_,31,Tryz.underlying28,rfl,by kernel_rfl,rfl⟩⟩
theorem bA:Fld Tryz.prog 42 0 0:=⟨⟨_,_,32,Tryz.underlying42,rfl,by kernel_rfl,rfl⟩⟩
theorem cx:Fld Tryz.prog 42 1 33:=⟨⟨_,_,32,Tryz.underlying42,rfl,by kernel_rfl,rfl⟩⟩
theorem cC:Fld Tryz.prog 42 2 66:=⟨⟨_,_,0,Tryz.underlying42,rfl,by kernel_rfl,rfl⟩⟩
theorem dP:Fld Tryz.prog 42 3 67:=⟨⟨_,_,0,Tryz.underlying42,rfl,by kernel_rfl,rfl⟩⟩
theorem ru:FldT Tryz.prog 28 0 0 3:=⟨⟨_,_,Tryz.underlying28,rfl,rfl,rfl⟩⟩
theorem Dp:EqV Tryz.prog 2 26 (32*1) (fun xs=>xs.length=32*1∧∀ i,i<32→∃ n,(xs.drop (i*1)).take 1=[Value.int .u8 n]) tG:=EqV.arr (n:=32) (EqV.int .u8 Tryz.underlying5 (by kernel_rfl)) Tryz.underlying26 (by kernel_rfl)
theorem i9 (x y:Mb):Dn Tryz.prog 3 28 33 (av x) (av y):=⟨_,EqV.struct' [(1,(fun xs=>∃ n,xs=[Value.int .i64 n])),(32*1,(fun xs=>xs.length=32*1∧∀ i,i<32→∃ n,(xs.drop (i*1)).take 1=[Value.int .u8 n]))] Tryz.underlying28 (by kernel_rfl) (by kernel_rfl) ⟨by decide,⟨CZ,(EqV.int .i64 Tryz.underlying3 (by kernel_rfl)).up⟩,by decide,⟨tG,Dp⟩,trivial⟩ ⟨rfl,rfl,rfl⟩,⟨by rw [Array.length_toList,al],⟨_,pC _⟩,(by show _∧_;unfold nA;dsimp only;rw [po];exact uF _ _),trivial⟩,⟨by rw [Array.length_toList,al],⟨_,pC _⟩,(by show _∧_;unfold nA;dsimp only;rw [po];exact uF _ _),trivial⟩⟩
theorem oL:Stt Tryz.prog 28 Do:=⟨⟨_,Tryz.underlying28,rfl,fun i f hf=>by
 match i,hf with
 |0,hf=>cases hf;exact ⟨_,rfl,by kernel_rfl,rfl⟩
 |1,hf=>cases hf;exact ⟨_,rfl,by kernel_rfl,rfl⟩
 |i+2,hf=>simp at hf⟩,by kernel_rfl⟩
theorem pP:Stt Tryz.prog 42 BK:=⟨⟨_,Tryz.underlying42,rfl,fun i f hf=>by
 match i,hf with
 |0,hf=>cases hf;exact ⟨_,rfl,by kernel_rfl,rfl⟩
 |1,hf=>cases hf;exact ⟨_,rfl,by kernel_rfl,rfl⟩
 |2,hf=>cases hf;exact ⟨_,rfl,by kernel_rfl,rfl⟩
 |3,hf=>cases hf;exact ⟨_,rfl,by kernel_rfl,rfl⟩
 |i+4,hf=>simp at hf⟩,by kernel_rfl⟩
theorem jB:Stt Tryz.prog 24 DN:=⟨⟨_,Tryz.underlying24,rfl,fun i f hf=>by
 match i,hf with
 |0,hf=>cases hf;exact ⟨_,rfl,by kernel_rfl,rfl⟩
 |i+1,hf=>simp at hf⟩,by kernel_rfl⟩
theorem C3:Stt Tryz.prog 114 []:=⟨⟨_,Tryz.underlying114,rfl,fun i f hf=>by
 match i,hf with
 |i+0,hf=>simp at hf⟩,by kernel_rfl⟩
theorem kq:(Tryz.prog.info? 5).map (·.size)=some 1:=by kernel_rfl
theorem q8:(Tryz.prog.info? 4).bind (·.zero)=some (.bool false):=by kernel_rfl
theorem d6:(Tryz.prog.info? 24).bind (·.zero)=some (.agg #[aU]):=by kernel_rfl
theorem uh:(Tryz.prog.info? 26).bind (·.zero)=some (gI 0#256):=gY.zero
theorem cF:(Tryz.prog.info? 28).bind (·.zero)=some (.agg (av ap)):=by rw [oc];kernel_rfl
theorem qM:(Tryz.prog.info? 36).bind (·.zero)=some (.slice none 0 0):=by kernel_rfl
theorem ei:(Tryz.prog.info? 42).bind (·.zero)=some (.agg (au ap ap aU aU)):=by rw [xN];kernel_rfl
theorem Au:(Tryz.prog.info? 54).bind (·.zero)=some (.pointer none):=by kernel_rfl
theorem Bh:(Tryz.prog.info? 78).bind (·.zero)=some (.slice none 0 0):=by kernel_rfl
theorem Af:(Tryz.prog.info? 84).bind (·.zero)=some (.map none):=by kernel_rfl
theorem rJ:(Tryz.prog.info? 114).bind (·.zero)=some (.agg #[]):=by kernel_rfl
theorem df (n:Nat) (h:(match Tryz.prog.funcs[n]? with|some fn => !fn.body.isNone && !(fn.name == "runtime.NumGoroutine")|none=>false)=true):Fnc Tryz.prog n:=by
 cases hf:Tryz.prog.funcs[n]? with
 |none=>rw [hf] at h;simp at h
 |some fn=>rw [hf] at h;simp only [Bool.and_eq_true,Bool.not_eq_true'] at h;exact ⟨⟨fn,hf,h.1,h.2⟩⟩
theorem BX:Elm Tryz.prog 3 1 8:=nX (by kernel_rfl) (by decide)
theorem dY:Elm Tryz.prog 28 33 40:=nX (by kernel_rfl) (by decide)
theorem B7:Elm Tryz.prog 36 1 24:=nX (by kernel_rfl) (by decide)
theorem iw:Elm Tryz.prog 42 68 128:=nX (by kernel_rfl) (by decide)
theorem DI:Fnc Tryz.prog 7:=df 7 (by kernel_rfl)
theorem BU:Fnc Tryz.prog 8:=df 8 (by kernel_rfl)
theorem iE:Fnc Tryz.prog 11:=df 11 (by kernel_rfl)
theorem B1:Fnc Tryz.prog 12:=df 12 (by kernel_rfl)
theorem ui:Fnc Tryz.prog 14:=df 14 (by kernel_rfl)
theorem pb:Fnc Tryz.prog 15:=df 15 (by kernel_rfl)
theorem yZ:Fnc Tryz.prog 16:=df 16 (by kernel_rfl)
theorem zb:Fnc Tryz.prog 17:=df 17 (by kernel_rfl)
theorem CG:Fnc Tryz.prog 24:=df 24 (by kernel_rfl)
theorem BB:Fnc Tryz.prog 25:=df 25 (by kernel_rfl)
theorem BI:Fnc Tryz.prog 28:=df 28 (by kernel_rfl)
theorem vH:Fnc Tryz.prog 32:=df 32 (by kernel_rfl)
theorem zc:Fnc Tryz.prog 33:=df 33 (by kernel_rfl)
theorem yQ:Fnc Tryz.prog 34:=df 34 (by kernel_rfl)
theorem gZ:Fnc Tryz.prog 35:=df 35 (by kernel_rfl)
theorem ra:Fnc Tryz.prog 36:=df 36 (by kernel_rfl)
theorem yT:Fnc Tryz.prog 37:=df 37 (by kernel_rfl)
theorem uR:Fnc Tryz.prog 39:=df 39 (by kernel_rfl)
theorem mF:Fnc Tryz.prog 40:=df 40 (by kernel_rfl)
theorem zG:Fnc Tryz.prog 43:=df 43 (by kernel_rfl)
theorem oV:Fnc Tryz.prog 45:=df 45 (by kernel_rfl)
theorem zo:Fnc Tryz.prog 46:=df 46 (by kernel_rfl)
theorem ko:Fnc Tryz.prog 47:=df 47 (by kernel_rfl)
theorem fY:Fnc Tryz.prog 48:=df 48 (by kernel_rfl)
theorem zr:Fnc Tryz.prog 49:=df 49 (by kernel_rfl)
theorem Cx:Fnc Tryz.prog 50:=df 50 (by kernel_rfl)
theorem zw:Fnc Tryz.prog 51:=df 51 (by kernel_rfl)
theorem fJ:Fnc Tryz.prog 55:=df 55 (by kernel_rfl)
theorem uC:Fnc Tryz.prog 56:=df 56 (by kernel_rfl)
theorem vC:Fnc Tryz.prog 57:=df 57 (by kernel_rfl)
theorem zd:Fnc Tryz.prog 58:=df 58 (by kernel_rfl)
theorem Cy:Fnc Tryz.prog 62:=df 62 (by kernel_rfl)
theorem BM:Fnc Tryz.prog 63:=df 63 (by kernel_rfl)
theorem B8:Fnc Tryz.prog 64:=df 64 (by kernel_rfl)
theorem yL:Fnc Tryz.prog 67:=df 67 (by kernel_rfl)
theorem fA:Fnc Tryz.prog 68:=df 68 (by kernel_rfl)
theorem wG:Fnc Tryz.prog 69:=df 69 (by kernel_rfl)
theorem CN:Fnc Tryz.prog 70:=df 70 (by kernel_rfl)
theorem sd:Fnc Tryz.prog 71:=df 71 (by kernel_rfl)
theorem BL:Fnc Tryz.prog 74:=df 74 (by kernel_rfl)
theorem uI:Fnc Tryz.prog 75:=df 75 (by kernel_rfl)
theorem zz:Fnc Tryz.prog 77:=df 77 (by kernel_rfl)
theorem B6:Fnc Tryz.prog 78:=df 78 (by kernel_rfl)
theorem kv:Fnc Tryz.prog 79:=df 79 (by kernel_rfl)
theorem wC:Fnc Tryz.prog 80:=df 80 (by kernel_rfl)
theorem y5:Fnc Tryz.prog 81:=df 81 (by kernel_rfl)
theorem Ck:Fnc Tryz.prog 82:=df 82 (by kernel_rfl)
theorem yS:Fnc Tryz.prog 83:=df 83 (by kernel_rfl)
theorem BT:Fnc Tryz.prog 84:=df 84 (by kernel_rfl)
theorem Cj:Fnc Tryz.prog 85:=df 85 (by kernel_rfl)
theorem BG:Fnc Tryz.prog 87:=df 87 (by kernel_rfl)
theorem BR:Fnc Tryz.prog 88:=df 88 (by kernel_rfl)
theorem rX:Fnc Tryz.prog 89:=df 89 (by kernel_rfl)
theorem zf:Fnc Tryz.prog 90:=df 90 (by kernel_rfl)
theorem yX:Fnc Tryz.prog 91:=df 91 (by kernel_rfl)
theorem CP:Fnc Tryz.prog 95:=df 95 (by kernel_rfl)
theorem Ca:Fnc Tryz.prog 96:=df 96 (by kernel_rfl)
theorem zm:Fnc Tryz.prog 99:=df 99 (by kernel_rfl)
theorem Ae:Fnc Tryz.prog 100:=df 100 (by kernel_rfl)
theorem ur:Fnc Tryz.prog 111:=df 111 (by kernel_rfl)
theorem t2:Fnc Tryz.prog 112:=df 112 (by kernel_rfl)
theorem zU:Fnc Tryz.prog 113:=df 113 (by kernel_rfl)
theorem qf:Fnc Tryz.prog 114:=df 114 (by kernel_rfl)
theorem tM:Fnc Tryz.prog 115:=df 115 (by kernel_rfl)
theorem Ax:Fnc Tryz.prog 116:=df 116 (by kernel_rfl)
theorem vM:Fnc Tryz.prog 117:=df 117 (by kernel_rfl)
theorem AO:Fnc Tryz.prog 118:=df 118 (by kernel_rfl)
theorem Ag:Fnc Tryz.prog 122:=df 122 (by kernel_rfl)
theorem A5:Fnc Tryz.prog 123:=df 123 (by kernel_rfl)
theorem uz:Fnc Tryz.prog 124:=df 124 (by kernel_rfl)
theorem nV:Fnc Tryz.prog 125:=df 125 (by kernel_rfl)
theorem nF:Fnc Tryz.prog 127:=df 127 (by kernel_rfl)
theorem A1:Fnc Tryz.prog 128:=df 128 (by kernel_rfl)
theorem uO:Fnc Tryz.prog 129:=df 129 (by kernel_rfl)
theorem nG:Fnc Tryz.prog 130:=df 130 (by kernel_rfl)
theorem A7:Fnc Tryz.prog 131:=df 131 (by kernel_rfl)
theorem Ak:Fnc Tryz.prog 137:=df 137 (by kernel_rfl)
theorem vt:Fnc Tryz.prog 138:=df 138 (by kernel_rfl)
theorem nm:Fnc Tryz.prog 139:=df 139 (by kernel_rfl)
theorem z8:Fnc Tryz.prog 140:=df 140 (by kernel_rfl)
theorem AT:Fnc Tryz.prog 142:=df 142 (by kernel_rfl)
theorem zV:Fnc Tryz.prog 144:=df 144 (by kernel_rfl)
theorem AN:Fnc Tryz.prog 146:=df 146 (by kernel_rfl)
theorem AC:Fnc Tryz.prog 147:=df 147 (by kernel_rfl)
theorem Bg:Fnc Tryz.prog 148:=df 148 (by kernel_rfl)
theorem u3:Fnc Tryz.prog 150:=df 150 (by kernel_rfl)
theorem z7:Fnc Tryz.prog 151:=df 151 (by kernel_rfl)
end Go.Proofs.YthggibfkgofncaaGreat
