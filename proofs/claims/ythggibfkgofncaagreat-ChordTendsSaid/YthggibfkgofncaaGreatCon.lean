/- What the walks want of the program: its types and functions by number; no condition. -/
import Derived.Test.YthggibfkgofncaaGreatProg
import Derived.KernelRfl
import Derived.Test.YthggibfkgofncaaGreatOw
namespace Go.Proofs.YthggibfkgofncaaGreat
theorem fC:IdTy Tryz.prog 26 5:=⟨Tryz.underlying26,by kernel_rfl,Tryz.underlying5,by kernel_rfl,by rw [fa,jx];kernel_rfl⟩
theorem a6:Row Tryz.prog 24 1:=⟨⟨_,Tryz.underlying24,rfl⟩,by kernel_rfl⟩
theorem bP:Row Tryz.prog 26 32:=⟨⟨_,Tryz.underlying26,rfl⟩,by kernel_rfl⟩
theorem aL:Row Tryz.prog 28 33:=⟨⟨_,Tryz.underlying28,rfl⟩,by kernel_rfl⟩
theorem aZ:Row Tryz.prog 42 68:=⟨⟨_,Tryz.underlying42,rfl⟩,by kernel_rfl⟩
theorem B0:Row Tryz.prog 114 0:=⟨⟨_,Tryz.underlying114,rfl⟩,by kernel_rfl⟩
theorem bz:One Tryz.prog 3:=⟨⟨_,Tryz.underlying3,rfl⟩,by kernel_rfl⟩
theorem fx:One Tryz.prog 4:=⟨⟨_,Tryz.underlying4,rfl⟩,by kernel_rfl⟩
theorem oV:One Tryz.prog 5:=⟨⟨_,Tryz.underlying5,rfl⟩,by kernel_rfl⟩
theorem c4:One Tryz.prog 22:=⟨⟨_,Tryz.underlying22,rfl⟩,by kernel_rfl⟩
theorem bE:One Tryz.prog 36:=⟨⟨_,Tryz.underlying36,rfl⟩,by kernel_rfl⟩
theorem tj:One Tryz.prog 54:=⟨⟨_,Tryz.underlying54,rfl⟩,by kernel_rfl⟩
theorem sy:One Tryz.prog 78:=⟨⟨_,Tryz.underlying78,rfl⟩,by kernel_rfl⟩
theorem qy:One Tryz.prog 84:=⟨⟨_,Tryz.underlying84,rfl⟩,by kernel_rfl⟩
theorem C8:(Tryz.prog.info? 3).map (·.size)=some 1:=by kernel_rfl
theorem cz:(Tryz.prog.info? 28).map (·.size)=some 33:=by kernel_rfl
theorem Aw:(Tryz.prog.info? 36).map (·.size)=some 1:=by kernel_rfl
theorem gc:(Tryz.prog.info? 42).map (·.size)=some 68:=by kernel_rfl
theorem cp:Fld Tryz.prog 24 0 0:=⟨⟨_,_,0,Tryz.underlying24,rfl,by kernel_rfl,rfl⟩⟩
theorem aJ:Fld Tryz.prog 28 0 0:=⟨⟨_,_,0,Tryz.underlying28,rfl,by kernel_rfl,rfl⟩⟩
theorem bW:Fld Tryz.prog 28 1 1:=⟨⟨_,_,31,Tryz.underlying28,rfl,by kernel_rfl,rfl⟩⟩
theorem aR:Fld Tryz.prog 42 0 0:=⟨⟨_,_,32,Tryz.underlying42,rfl,by kernel_rfl,rfl⟩⟩
theorem bR:Fld Tryz.prog 42 1 33:=⟨⟨_,_,32,Tryz.underlying42,rfl,by kernel_rfl,rfl⟩⟩
theorem bD:Fld Tryz.prog 42 2 66:=⟨⟨_,_,0,Tryz.underlying42,rfl,by kernel_rfl,rfl⟩⟩
theorem cR:Fld Tryz.prog 42 3 67:=⟨⟨_,_,0,Tryz.underlying42,rfl,by kernel_rfl,rfl⟩⟩
theorem kg:FldT Tryz.prog 28 0 0 3:=⟨⟨_,_,Tryz.underlying28,rfl,rfl,rfl⟩⟩
theorem Ek:EqV Tryz.prog 2 26 (32*1) (fun xs=>xs.length=32*1∧∀ i,i<32→∃ n,(xs.drop (i*1)).take 1=[Value.int .u8 n]) vi:=EqV.arr (n:=32) (EqV.int .u8 Tryz.underlying5 (by kernel_rfl)) Tryz.underlying26 (by kernel_rfl)
theorem g4 (x y:Mb):EI Tryz.prog 3 28 33 (aw x) (aw y):=⟨_,EqV.struct' [(1,(fun xs=>∃ n,xs=[Value.int .i64 n])),(32*1,(fun xs=>xs.length=32*1∧∀ i,i<32→∃ n,(xs.drop (i*1)).take 1=[Value.int .u8 n]))] Tryz.underlying28 (by kernel_rfl) (by kernel_rfl) ⟨by decide,⟨DZ,(EqV.int .i64 Tryz.underlying3 (by kernel_rfl)).up⟩,by decide,⟨vi,Ek⟩,trivial⟩ ⟨rfl,rfl,rfl⟩,⟨by rw [Array.length_toList,ak],⟨_,qk _⟩,(by show _∧_;unfold oR;dsimp only;rw [qC];exact xH _ _),trivial⟩,⟨by rw [Array.length_toList,ak],⟨_,qk _⟩,(by show _∧_;unfold oR;dsimp only;rw [qC];exact xH _ _),trivial⟩⟩
theorem mO:Stt Tryz.prog 28 Ep:=⟨⟨_,Tryz.underlying28,rfl,fun i f hf=>by
 match i,hf with
 |0,hf=>cases hf;exact ⟨_,rfl,by kernel_rfl,rfl⟩
 |1,hf=>cases hf;exact ⟨_,rfl,by kernel_rfl,rfl⟩
 |i+2,hf=>simp at hf⟩,by kernel_rfl⟩
theorem qt:Stt Tryz.prog 42 CF:=⟨⟨_,Tryz.underlying42,rfl,fun i f hf=>by
 match i,hf with
 |0,hf=>cases hf;exact ⟨_,rfl,by kernel_rfl,rfl⟩
 |1,hf=>cases hf;exact ⟨_,rfl,by kernel_rfl,rfl⟩
 |2,hf=>cases hf;exact ⟨_,rfl,by kernel_rfl,rfl⟩
 |3,hf=>cases hf;exact ⟨_,rfl,by kernel_rfl,rfl⟩
 |i+4,hf=>simp at hf⟩,by kernel_rfl⟩
theorem jK:Stt Tryz.prog 24 EP:=⟨⟨_,Tryz.underlying24,rfl,fun i f hf=>by
 match i,hf with
 |0,hf=>cases hf;exact ⟨_,rfl,by kernel_rfl,rfl⟩
 |i+1,hf=>simp at hf⟩,by kernel_rfl⟩
theorem EA:Stt Tryz.prog 114 []:=⟨⟨_,Tryz.underlying114,rfl,fun i f hf=>by
 match i,hf with
 |i+0,hf=>simp at hf⟩,by kernel_rfl⟩
theorem ko:(Tryz.prog.info? 5).map (·.size)=some 1:=by kernel_rfl
theorem sU:(Tryz.prog.info? 4).bind (·.zero)=some (.bool false):=by kernel_rfl
theorem eY:(Tryz.prog.info? 24).bind (·.zero)=some (.agg #[a8]):=by kernel_rfl
theorem xr:(Tryz.prog.info? 26).bind (·.zero)=some (fa 0#256):=fC.zero
theorem cB:(Tryz.prog.info? 28).bind (·.zero)=some (.agg (aw aT)):=by rw [oL];kernel_rfl
theorem rJ:(Tryz.prog.info? 36).bind (·.zero)=some (.slice none 0 0):=by kernel_rfl
theorem ea:(Tryz.prog.info? 42).bind (·.zero)=some (.agg (aC aT aT a8 a8)):=by rw [zK];kernel_rfl
theorem BM:(Tryz.prog.info? 54).bind (·.zero)=some (.pointer none):=by kernel_rfl
theorem Cc:(Tryz.prog.info? 78).bind (·.zero)=some (.slice none 0 0):=by kernel_rfl
theorem Bn:(Tryz.prog.info? 84).bind (·.zero)=some (.map none):=by kernel_rfl
theorem tt:(Tryz.prog.info? 114).bind (·.zero)=some (.agg #[]):=by kernel_rfl
theorem dl (n:Nat) (h:(match Tryz.prog.funcs[n]? with|some fn => !fn.body.isNone && !(fn.name == "runtime.NumGoroutine")|none=>false)=true):Fnc Tryz.prog n:=by
 cases hf:Tryz.prog.funcs[n]? with
 |none=>rw [hf] at h;simp at h
 |some fn=>rw [hf] at h;simp only [Bool.and_eq_true,Bool.not_eq_true'] at h;exact ⟨⟨fn,hf,h.1,h.2⟩⟩
theorem x4:Elm Tryz.prog 3 1 8:=oK (by kernel_rfl) (by decide)
theorem cP:Elm Tryz.prog 28 33 40:=oK (by kernel_rfl) (by decide)
theorem De:Elm Tryz.prog 36 1 24:=oK (by kernel_rfl) (by decide)
theorem fc:Elm Tryz.prog 42 68 128:=oK (by kernel_rfl) (by decide)
theorem Es:Fnc Tryz.prog 7:=dl 7 (by kernel_rfl)
theorem EF:Fnc Tryz.prog 8:=dl 8 (by kernel_rfl)
theorem z6:Fnc Tryz.prog 10:=dl 10 (by kernel_rfl)
theorem jV:Fnc Tryz.prog 11:=dl 11 (by kernel_rfl)
theorem Do:Fnc Tryz.prog 12:=dl 12 (by kernel_rfl)
theorem vH:Fnc Tryz.prog 14:=dl 14 (by kernel_rfl)
theorem AH:Fnc Tryz.prog 15:=dl 15 (by kernel_rfl)
theorem sG:Fnc Tryz.prog 16:=dl 16 (by kernel_rfl)
theorem DC:Fnc Tryz.prog 17:=dl 17 (by kernel_rfl)
theorem qw:Fnc Tryz.prog 18:=dl 18 (by kernel_rfl)
theorem i5:Fnc Tryz.prog 20:=dl 20 (by kernel_rfl)
theorem tQ:Fnc Tryz.prog 22:=dl 22 (by kernel_rfl)
theorem qx:Fnc Tryz.prog 23:=dl 23 (by kernel_rfl)
theorem DB:Fnc Tryz.prog 24:=dl 24 (by kernel_rfl)
theorem CE:Fnc Tryz.prog 25:=dl 25 (by kernel_rfl)
theorem Du:Fnc Tryz.prog 26:=dl 26 (by kernel_rfl)
theorem AC:Fnc Tryz.prog 27:=dl 27 (by kernel_rfl)
theorem AB:Fnc Tryz.prog 32:=dl 32 (by kernel_rfl)
theorem AO:Fnc Tryz.prog 33:=dl 33 (by kernel_rfl)
theorem A7:Fnc Tryz.prog 34:=dl 34 (by kernel_rfl)
theorem iH:Fnc Tryz.prog 35:=dl 35 (by kernel_rfl)
theorem tM:Fnc Tryz.prog 36:=dl 36 (by kernel_rfl)
theorem A5:Fnc Tryz.prog 37:=dl 37 (by kernel_rfl)
theorem xf:Fnc Tryz.prog 39:=dl 39 (by kernel_rfl)
theorem wZ:Fnc Tryz.prog 40:=dl 40 (by kernel_rfl)
theorem tI:Fnc Tryz.prog 41:=dl 41 (by kernel_rfl)
theorem wY:Fnc Tryz.prog 42:=dl 42 (by kernel_rfl)
theorem mS:Fnc Tryz.prog 43:=dl 43 (by kernel_rfl)
theorem CO:Fnc Tryz.prog 44:=dl 44 (by kernel_rfl)
theorem qr:Fnc Tryz.prog 45:=dl 45 (by kernel_rfl)
theorem Ak:Fnc Tryz.prog 46:=dl 46 (by kernel_rfl)
theorem lA:Fnc Tryz.prog 47:=dl 47 (by kernel_rfl)
theorem gA:Fnc Tryz.prog 48:=dl 48 (by kernel_rfl)
theorem AT:Fnc Tryz.prog 49:=dl 49 (by kernel_rfl)
theorem CW:Fnc Tryz.prog 50:=dl 50 (by kernel_rfl)
theorem AJ:Fnc Tryz.prog 51:=dl 51 (by kernel_rfl)
theorem fv:Fnc Tryz.prog 52:=dl 52 (by kernel_rfl)
theorem gi:Fnc Tryz.prog 55:=dl 55 (by kernel_rfl)
theorem x5:Fnc Tryz.prog 56:=dl 56 (by kernel_rfl)
theorem wa:Fnc Tryz.prog 57:=dl 57 (by kernel_rfl)
theorem AR:Fnc Tryz.prog 58:=dl 58 (by kernel_rfl)
theorem CJ:Fnc Tryz.prog 59:=dl 59 (by kernel_rfl)
theorem AX:Fnc Tryz.prog 60:=dl 60 (by kernel_rfl)
theorem AP:Fnc Tryz.prog 61:=dl 61 (by kernel_rfl)
theorem Dt:Fnc Tryz.prog 64:=dl 64 (by kernel_rfl)
theorem A4:Fnc Tryz.prog 67:=dl 67 (by kernel_rfl)
theorem gb:Fnc Tryz.prog 68:=dl 68 (by kernel_rfl)
theorem vG:Fnc Tryz.prog 69:=dl 69 (by kernel_rfl)
theorem Db:Fnc Tryz.prog 70:=dl 70 (by kernel_rfl)
theorem sO:Fnc Tryz.prog 71:=dl 71 (by kernel_rfl)
theorem Da:Fnc Tryz.prog 74:=dl 74 (by kernel_rfl)
theorem iE:Fnc Tryz.prog 75:=dl 75 (by kernel_rfl)
theorem lD:Fnc Tryz.prog 76:=dl 76 (by kernel_rfl)
theorem Ag:Fnc Tryz.prog 77:=dl 77 (by kernel_rfl)
theorem DE:Fnc Tryz.prog 78:=dl 78 (by kernel_rfl)
theorem lm:Fnc Tryz.prog 79:=dl 79 (by kernel_rfl)
theorem wB:Fnc Tryz.prog 80:=dl 80 (by kernel_rfl)
theorem AQ:Fnc Tryz.prog 81:=dl 81 (by kernel_rfl)
theorem CN:Fnc Tryz.prog 82:=dl 82 (by kernel_rfl)
theorem AK:Fnc Tryz.prog 83:=dl 83 (by kernel_rfl)
theorem Ds:Fnc Tryz.prog 84:=dl 84 (by kernel_rfl)
theorem C5:Fnc Tryz.prog 85:=dl 85 (by kernel_rfl)
theorem DJ:Fnc Tryz.prog 87:=dl 87 (by kernel_rfl)
theorem Cz:Fnc Tryz.prog 88:=dl 88 (by kernel_rfl)
theorem sL:Fnc Tryz.prog 89:=dl 89 (by kernel_rfl)
theorem AY:Fnc Tryz.prog 90:=dl 90 (by kernel_rfl)
theorem Ad:Fnc Tryz.prog 91:=dl 91 (by kernel_rfl)
theorem oq:Fnc Tryz.prog 92:=dl 92 (by kernel_rfl)
theorem Ay:Fnc Tryz.prog 93:=dl 93 (by kernel_rfl)
theorem wM:Fnc Tryz.prog 94:=dl 94 (by kernel_rfl)
theorem DO:Fnc Tryz.prog 96:=dl 96 (by kernel_rfl)
theorem AU:Fnc Tryz.prog 99:=dl 99 (by kernel_rfl)
theorem BX:Fnc Tryz.prog 100:=dl 100 (by kernel_rfl)
theorem wt:Fnc Tryz.prog 111:=dl 111 (by kernel_rfl)
theorem we:Fnc Tryz.prog 112:=dl 112 (by kernel_rfl)
theorem Bj:Fnc Tryz.prog 113:=dl 113 (by kernel_rfl)
theorem rI:Fnc Tryz.prog 114:=dl 114 (by kernel_rfl)
theorem xO:Fnc Tryz.prog 115:=dl 115 (by kernel_rfl)
theorem B6:Fnc Tryz.prog 116:=dl 116 (by kernel_rfl)
theorem wj:Fnc Tryz.prog 117:=dl 117 (by kernel_rfl)
theorem Bi:Fnc Tryz.prog 118:=dl 118 (by kernel_rfl)
theorem Cd:Fnc Tryz.prog 122:=dl 122 (by kernel_rfl)
theorem BP:Fnc Tryz.prog 123:=dl 123 (by kernel_rfl)
theorem vJ:Fnc Tryz.prog 124:=dl 124 (by kernel_rfl)
theorem pC:Fnc Tryz.prog 125:=dl 125 (by kernel_rfl)
theorem jn:Fnc Tryz.prog 126:=dl 126 (by kernel_rfl)
theorem oH:Fnc Tryz.prog 127:=dl 127 (by kernel_rfl)
theorem BL:Fnc Tryz.prog 128:=dl 128 (by kernel_rfl)
theorem xh:Fnc Tryz.prog 129:=dl 129 (by kernel_rfl)
theorem o5:Fnc Tryz.prog 130:=dl 130 (by kernel_rfl)
theorem Bb:Fnc Tryz.prog 131:=dl 131 (by kernel_rfl)
theorem Cl:Fnc Tryz.prog 137:=dl 137 (by kernel_rfl)
theorem xi:Fnc Tryz.prog 138:=dl 138 (by kernel_rfl)
theorem o4:Fnc Tryz.prog 139:=dl 139 (by kernel_rfl)
theorem Bq:Fnc Tryz.prog 140:=dl 140 (by kernel_rfl)
theorem Ce:Fnc Tryz.prog 142:=dl 142 (by kernel_rfl)
theorem pv:Fnc Tryz.prog 143:=dl 143 (by kernel_rfl)
theorem BU:Fnc Tryz.prog 144:=dl 144 (by kernel_rfl)
theorem BN:Fnc Tryz.prog 146:=dl 146 (by kernel_rfl)
theorem Ck:Fnc Tryz.prog 147:=dl 147 (by kernel_rfl)
theorem BH:Fnc Tryz.prog 148:=dl 148 (by kernel_rfl)
theorem wQ:Fnc Tryz.prog 150:=dl 150 (by kernel_rfl)
theorem B1:Fnc Tryz.prog 151:=dl 151 (by kernel_rfl)
end Go.Proofs.YthggibfkgofncaaGreat
