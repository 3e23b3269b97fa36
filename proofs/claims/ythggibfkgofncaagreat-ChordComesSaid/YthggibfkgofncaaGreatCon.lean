/- What the walks want of the program: its types and functions by number; no condition. -/
import Derived.Test.YthggibfkgofncaaGreatProg
import Derived.KernelRfl
import Derived.Test.YthggibfkgofncaaGreatOw
namespace Go.Proofs.YthggibfkgofncaaGreat
theorem fv:IdTy Tryz.prog 26 5:=⟨Tryz.underlying26,by kernel_rfl,Tryz.underlying5,by kernel_rfl,by rw [dC,iV];kernel_rfl⟩
theorem aU:Row Tryz.prog 24 1:=⟨⟨_,Tryz.underlying24,rfl⟩,by kernel_rfl⟩
theorem bV:Row Tryz.prog 26 32:=⟨⟨_,Tryz.underlying26,rfl⟩,by kernel_rfl⟩
theorem aL:Row Tryz.prog 28 33:=⟨⟨_,Tryz.underlying28,rfl⟩,by kernel_rfl⟩
theorem bS:Row Tryz.prog 42 68:=⟨⟨_,Tryz.underlying42,rfl⟩,by kernel_rfl⟩
theorem bO:One Tryz.prog 3:=⟨⟨_,Tryz.underlying3,rfl⟩,by kernel_rfl⟩
theorem fa:One Tryz.prog 4:=⟨⟨_,Tryz.underlying4,rfl⟩,by kernel_rfl⟩
theorem jj:One Tryz.prog 5:=⟨⟨_,Tryz.underlying5,rfl⟩,by kernel_rfl⟩
theorem cH:One Tryz.prog 22:=⟨⟨_,Tryz.underlying22,rfl⟩,by kernel_rfl⟩
theorem bH:One Tryz.prog 36:=⟨⟨_,Tryz.underlying36,rfl⟩,by kernel_rfl⟩
theorem rj:One Tryz.prog 54:=⟨⟨_,Tryz.underlying54,rfl⟩,by kernel_rfl⟩
theorem cG:(Tryz.prog.info? 28).map (·.size)=some 33:=by kernel_rfl
theorem xZ:(Tryz.prog.info? 36).map (·.size)=some 1:=by kernel_rfl
theorem eX:(Tryz.prog.info? 42).map (·.size)=some 68:=by kernel_rfl
theorem cb:Fld Tryz.prog 24 0 0:=⟨⟨_,_,0,Tryz.underlying24,rfl,by kernel_rfl,rfl⟩⟩
theorem aP:Fld Tryz.prog 28 0 0:=⟨⟨_,_,0,Tryz.underlying28,rfl,by kernel_rfl,rfl⟩⟩
theorem c3:Fld Tryz.prog 28 1 1:=⟨⟨_,_,31,Tryz.underlying28,rfl,by kernel_rfl,rfl⟩⟩
theorem a6:Fld Tryz.prog 42 0 0:=⟨⟨_,_,32,Tryz.underlying42,rfl,by kernel_rfl,rfl⟩⟩
theorem cy:Fld Tryz.prog 42 1 33:=⟨⟨_,_,32,Tryz.underlying42,rfl,by kernel_rfl,rfl⟩⟩
theorem bI:Fld Tryz.prog 42 2 66:=⟨⟨_,_,0,Tryz.underlying42,rfl,by kernel_rfl,rfl⟩⟩
theorem cC:Fld Tryz.prog 42 3 67:=⟨⟨_,_,0,Tryz.underlying42,rfl,by kernel_rfl,rfl⟩⟩
theorem qZ:FldT Tryz.prog 28 0 0 3:=⟨⟨_,_,Tryz.underlying28,rfl,rfl,rfl⟩⟩
theorem lc:FldT Tryz.prog 42 0 0 28:=⟨⟨_,_,Tryz.underlying42,rfl,rfl,rfl⟩⟩
theorem Bx:EqV Tryz.prog 2 26 (32*1) (fun xs=>xs.length=32*1∧∀ i,i<32→∃ n,(xs.drop (i*1)).take 1=[Value.int .u8 n]) sN:=EqV.arr (n:=32) (EqV.int .u8 Tryz.underlying5 (by kernel_rfl)) Tryz.underlying26 (by kernel_rfl)
theorem gM (x y:Mb):BF Tryz.prog 3 28 33 (au x) (au y):=⟨_,EqV.struct' [(1,(fun xs=>∃ n,xs=[Value.int .i64 n])),(32*1,(fun xs=>xs.length=32*1∧∀ i,i<32→∃ n,(xs.drop (i*1)).take 1=[Value.int .u8 n]))] Tryz.underlying28 (by kernel_rfl) (by kernel_rfl) ⟨by decide,⟨A7,(EqV.int .i64 Tryz.underlying3 (by kernel_rfl)).up⟩,by decide,⟨sN,Bx⟩,trivial⟩ ⟨rfl,rfl,rfl⟩,⟨by rw [Array.length_toList,ak],⟨_,o3 _⟩,(by show _∧_;unfold oo;dsimp only;rw [oQ];exact sV _ _),trivial⟩,⟨by rw [Array.length_toList,ak],⟨_,o3 _⟩,(by show _∧_;unfold oo;dsimp only;rw [oQ];exact sV _ _),trivial⟩⟩
theorem my:Stt Tryz.prog 28 Bk:=⟨⟨_,Tryz.underlying28,rfl,fun i f hf=>by
 match i,hf with
 |0,hf=>cases hf;exact ⟨_,rfl,by kernel_rfl,rfl⟩
 |1,hf=>cases hf;exact ⟨_,rfl,by kernel_rfl,rfl⟩
 |i+2,hf=>simp at hf⟩,by kernel_rfl⟩
theorem oP:Stt Tryz.prog 42 A1:=⟨⟨_,Tryz.underlying42,rfl,fun i f hf=>by
 match i,hf with
 |0,hf=>cases hf;exact ⟨_,rfl,by kernel_rfl,rfl⟩
 |1,hf=>cases hf;exact ⟨_,rfl,by kernel_rfl,rfl⟩
 |2,hf=>cases hf;exact ⟨_,rfl,by kernel_rfl,rfl⟩
 |3,hf=>cases hf;exact ⟨_,rfl,by kernel_rfl,rfl⟩
 |i+4,hf=>simp at hf⟩,by kernel_rfl⟩
theorem eE:Stt Tryz.prog 24 BO:=⟨⟨_,Tryz.underlying24,rfl,fun i f hf=>by
 match i,hf with
 |0,hf=>cases hf;exact ⟨_,rfl,by kernel_rfl,rfl⟩
 |i+1,hf=>simp at hf⟩,by kernel_rfl⟩
theorem fy:(Tryz.prog.info? 5).map (·.size)=some 1:=by kernel_rfl
theorem q8:(Tryz.prog.info? 4).bind (·.zero)=some (.bool false):=by kernel_rfl
theorem dY:(Tryz.prog.info? 24).bind (·.zero)=some (.agg #[bo]):=by kernel_rfl
theorem gn:(Tryz.prog.info? 26).bind (·.zero)=some (dC 0#256):=fv.zero
theorem cz:(Tryz.prog.info? 28).bind (·.zero)=some (.agg (au a8)):=by rw [om];kernel_rfl
theorem uM:(Tryz.prog.info? 36).bind (·.zero)=some (.slice none 0 0):=by kernel_rfl
theorem dH:(Tryz.prog.info? 42).bind (·.zero)=some (.agg (aD a8 a8 bo bo)):=by rw [wM];kernel_rfl
theorem zl:(Tryz.prog.info? 54).bind (·.zero)=some (.pointer none):=by kernel_rfl
theorem df (n:Nat) (h:(match Tryz.prog.funcs[n]? with|some fn => !fn.body.isNone && !(fn.name == "runtime.NumGoroutine")|none=>false)=true):Fnc Tryz.prog n:=by
 cases hf:Tryz.prog.funcs[n]? with
 |none=>rw [hf] at h;simp at h
 |some fn=>rw [hf] at h;simp only [Bool.and_eq_true,Bool.not_eq_true'] at h;exact ⟨⟨fn,hf,h.1,h.2⟩⟩
theorem dD:Elm Tryz.prog 28 33 40:=ql (by kernel_rfl) (by decide)
theorem Av:Elm Tryz.prog 36 1 24:=ql (by kernel_rfl) (by decide)
theorem er:Elm Tryz.prog 42 68 128:=ql (by kernel_rfl) (by decide)
theorem Br:Fnc Tryz.prog 7:=df 7 (by kernel_rfl)
theorem AF:Fnc Tryz.prog 8:=df 8 (by kernel_rfl)
theorem BL:Fnc Tryz.prog 9:=df 9 (by kernel_rfl)
theorem ra:Fnc Tryz.prog 10:=df 10 (by kernel_rfl)
theorem jP:Fnc Tryz.prog 11:=df 11 (by kernel_rfl)
theorem tw:Fnc Tryz.prog 12:=df 12 (by kernel_rfl)
theorem x2:Fnc Tryz.prog 13:=df 13 (by kernel_rfl)
theorem ly:Fnc Tryz.prog 14:=df 14 (by kernel_rfl)
theorem rA:Fnc Tryz.prog 15:=df 15 (by kernel_rfl)
theorem mL:Fnc Tryz.prog 16:=df 16 (by kernel_rfl)
theorem yE:Fnc Tryz.prog 17:=df 17 (by kernel_rfl)
theorem eY:Fnc Tryz.prog 18:=df 18 (by kernel_rfl)
theorem AQ:Fnc Tryz.prog 19:=df 19 (by kernel_rfl)
theorem eT:Fnc Tryz.prog 20:=df 20 (by kernel_rfl)
theorem rJ:Fnc Tryz.prog 21:=df 21 (by kernel_rfl)
theorem l4:Fnc Tryz.prog 22:=df 22 (by kernel_rfl)
theorem pc:Fnc Tryz.prog 23:=df 23 (by kernel_rfl)
theorem yx:Fnc Tryz.prog 32:=df 32 (by kernel_rfl)
theorem xY:Fnc Tryz.prog 33:=df 33 (by kernel_rfl)
theorem yb:Fnc Tryz.prog 34:=df 34 (by kernel_rfl)
theorem kP:Fnc Tryz.prog 35:=df 35 (by kernel_rfl)
theorem tR:Fnc Tryz.prog 36:=df 36 (by kernel_rfl)
theorem yn:Fnc Tryz.prog 37:=df 37 (by kernel_rfl)
theorem vg:Fnc Tryz.prog 39:=df 39 (by kernel_rfl)
theorem tF:Fnc Tryz.prog 40:=df 40 (by kernel_rfl)
theorem q7:Fnc Tryz.prog 41:=df 41 (by kernel_rfl)
theorem uz:Fnc Tryz.prog 42:=df 42 (by kernel_rfl)
theorem rN:Fnc Tryz.prog 43:=df 43 (by kernel_rfl)
theorem Ar:Fnc Tryz.prog 44:=df 44 (by kernel_rfl)
theorem oE:Fnc Tryz.prog 45:=df 45 (by kernel_rfl)
theorem yl:Fnc Tryz.prog 46:=df 46 (by kernel_rfl)
theorem mR:Fnc Tryz.prog 47:=df 47 (by kernel_rfl)
theorem lz:Fnc Tryz.prog 48:=df 48 (by kernel_rfl)
theorem yi:Fnc Tryz.prog 49:=df 49 (by kernel_rfl)
theorem Aw:Fnc Tryz.prog 50:=df 50 (by kernel_rfl)
theorem x4:Fnc Tryz.prog 51:=df 51 (by kernel_rfl)
theorem kA:Fnc Tryz.prog 52:=df 52 (by kernel_rfl)
theorem uT:Fnc Tryz.prog 53:=df 53 (by kernel_rfl)
theorem yo:Fnc Tryz.prog 54:=df 54 (by kernel_rfl)
theorem fu:Fnc Tryz.prog 55:=df 55 (by kernel_rfl)
theorem Az:Fnc Tryz.prog 56:=df 56 (by kernel_rfl)
theorem tk:Fnc Tryz.prog 57:=df 57 (by kernel_rfl)
theorem yp:Fnc Tryz.prog 67:=df 67 (by kernel_rfl)
theorem oK:Fnc Tryz.prog 68:=df 68 (by kernel_rfl)
theorem yr:Fnc Tryz.prog 69:=df 69 (by kernel_rfl)
theorem AI:Fnc Tryz.prog 70:=df 70 (by kernel_rfl)
theorem ri:Fnc Tryz.prog 71:=df 71 (by kernel_rfl)
theorem AS:Fnc Tryz.prog 74:=df 74 (by kernel_rfl)
theorem g4:Fnc Tryz.prog 75:=df 75 (by kernel_rfl)
theorem kO:Fnc Tryz.prog 76:=df 76 (by kernel_rfl)
theorem yj:Fnc Tryz.prog 77:=df 77 (by kernel_rfl)
theorem At:Fnc Tryz.prog 78:=df 78 (by kernel_rfl)
theorem mJ:Fnc Tryz.prog 79:=df 79 (by kernel_rfl)
theorem vd:Fnc Tryz.prog 80:=df 80 (by kernel_rfl)
theorem xN:Fnc Tryz.prog 81:=df 81 (by kernel_rfl)
theorem z6:Fnc Tryz.prog 82:=df 82 (by kernel_rfl)
theorem Ad:Fnc Tryz.prog 83:=df 83 (by kernel_rfl)
theorem AO:Fnc Tryz.prog 84:=df 84 (by kernel_rfl)
theorem z8:Fnc Tryz.prog 85:=df 85 (by kernel_rfl)
theorem yz:Fnc Tryz.prog 86:=df 86 (by kernel_rfl)
theorem A4:Fnc Tryz.prog 87:=df 87 (by kernel_rfl)
theorem zX:Fnc Tryz.prog 94:=df 94 (by kernel_rfl)
theorem yv:Fnc Tryz.prog 99:=df 99 (by kernel_rfl)
theorem zq:Fnc Tryz.prog 100:=df 100 (by kernel_rfl)
theorem un:Fnc Tryz.prog 111:=df 111 (by kernel_rfl)
theorem yL:Fnc Tryz.prog 112:=df 112 (by kernel_rfl)
theorem zm:Fnc Tryz.prog 113:=df 113 (by kernel_rfl)
theorem qd:Fnc Tryz.prog 114:=df 114 (by kernel_rfl)
theorem tb:Fnc Tryz.prog 115:=df 115 (by kernel_rfl)
theorem yK:Fnc Tryz.prog 116:=df 116 (by kernel_rfl)
theorem ua:Fnc Tryz.prog 117:=df 117 (by kernel_rfl)
theorem yF:Fnc Tryz.prog 118:=df 118 (by kernel_rfl)
theorem y1:Fnc Tryz.prog 119:=df 119 (by kernel_rfl)
theorem pP:Fnc Tryz.prog 120:=df 120 (by kernel_rfl)
theorem tI:Fnc Tryz.prog 121:=df 121 (by kernel_rfl)
theorem ia:Fnc Tryz.prog 126:=df 126 (by kernel_rfl)
theorem pQ:Fnc Tryz.prog 130:=df 130 (by kernel_rfl)
theorem zh:Fnc Tryz.prog 131:=df 131 (by kernel_rfl)
theorem zg:Fnc Tryz.prog 137:=df 137 (by kernel_rfl)
theorem uS:Fnc Tryz.prog 138:=df 138 (by kernel_rfl)
theorem nA:Fnc Tryz.prog 139:=df 139 (by kernel_rfl)
theorem zH:Fnc Tryz.prog 140:=df 140 (by kernel_rfl)
theorem sQ:Fnc Tryz.prog 141:=df 141 (by kernel_rfl)
theorem nv:Fnc Tryz.prog 143:=df 143 (by kernel_rfl)
theorem za:Fnc Tryz.prog 146:=df 146 (by kernel_rfl)
theorem zi:Fnc Tryz.prog 147:=df 147 (by kernel_rfl)
theorem zG:Fnc Tryz.prog 148:=df 148 (by kernel_rfl)
theorem zw:Fnc Tryz.prog 149:=df 149 (by kernel_rfl)
theorem tQ:Fnc Tryz.prog 150:=df 150 (by kernel_rfl)
theorem yR:Fnc Tryz.prog 151:=df 151 (by kernel_rfl)
end Go.Proofs.YthggibfkgofncaaGreat
