/- What the walks want of the program: its types and functions by number; no condition. -/
import Derived.Test.YthmlflaiidhoiaaGreatDoorProg
import Derived.KernelRfl
import Derived.Test.YthmlflaiidhoiaaGreatDoorWd
namespace Go.Proofs.YthmlflaiidhoiaaGreatDoor
abbrev aO8:=@Tryz.underlying42
abbrev aO9:=@Tryz.underlying5
abbrev aP0:=@Tryz.underlying24
abbrev aP1:=@Tryz.underlying29
abbrev aP2:=@Tryz.underlying31
abbrev aP3:=@Tryz.underlying45
abbrev aP4:=@Tryz.underlying47
abbrev aP5:=@Tryz.underlying49
abbrev aP6:=@Tryz.underlying54
abbrev aP7:=@Tryz.underlying60
abbrev aP8:=@Tryz.underlying63
abbrev aP9:=@Tryz.underlying68
abbrev aQ0:=@Tryz.underlying84
abbrev aQ1:=@Tryz.underlying91
abbrev aQ2:=@Tryz.underlying125
abbrev aQ3:=@Tryz.underlying128
abbrev aQ4:=@Tryz.underlying132
abbrev aQ5:=@Tryz.underlying184
abbrev aQ6:=@Tryz.underlying186
abbrev aQ7:=@Tryz.underlying202
abbrev aQ8:=@Tryz.underlying219
abbrev aQ9:=@Tryz.underlying247
abbrev aR0:=@Tryz.underlying264
abbrev aR1:=@Tryz.underlying277
abbrev aR2:=@Tryz.underlying3
abbrev aR3:=@Tryz.underlying4
abbrev aR4:=@Tryz.underlying9
abbrev aR5:=@Tryz.underlying22
abbrev aR6:=@Tryz.underlying25
abbrev aR7:=@Tryz.underlying26
abbrev aR8:=@Tryz.underlying27
abbrev aR9:=@Tryz.underlying34
abbrev aS0:=@Tryz.underlying38
abbrev aS1:=@Tryz.underlying43
abbrev aS2:=@Tryz.underlying61
abbrev aS3:=@Tryz.underlying64
abbrev aS4:=@Tryz.underlying65
abbrev aS5:=@Tryz.underlying66
abbrev aS6:=@Tryz.underlying97
abbrev aS7:=@Tryz.underlying106
abbrev aS8:=@Tryz.underlying199
abbrev aS9:=@Tryz.underlying200
abbrev aT0:=@Tryz.underlying233
abbrev aT1:=@Tryz.underlying340
abbrev aT2:=@Tryz.underlying0
abbrev aT3:=@Tryz.underlying220
abbrev aT4:=@Tryz.underlying333
abbrev aT5:=@Tryz.underlying334
abbrev aT6:=@Tryz.underlying113
abbrev aT7:=@Tryz.underlying312
abbrev aT8:=@Tryz.underlying381
abbrev aT9:=@Tryz.underlying385
abbrev aU0:=@Tryz.underlying416
abbrev aU1:=@Tryz.underlying417
abbrev aU2:=@Tryz.underlying328
abbrev aU3:=@Tryz.underlying198
abbrev aU4:=@Tryz.underlying156
abbrev aU5:=@Tryz.underlying309
abbrev aU6:=@Tryz.underlying80
abbrev aU7:=@Tryz.underlying122
theorem gE:IdTy Tryz.prog 42 5:=⟨Tryz.underlying42,by kernel_rfl,Tryz.underlying5,by kernel_rfl,by rw [iy,eJ];kernel_rfl⟩
theorem bN:Row Tryz.prog 24 1:=⟨⟨_,Tryz.underlying24,rfl⟩,by kernel_rfl⟩
theorem eS:Row Tryz.prog 29 3:=⟨⟨_,Tryz.underlying29,rfl⟩,by kernel_rfl⟩
theorem g4:Row Tryz.prog 31 6:=⟨⟨_,Tryz.underlying31,rfl⟩,by kernel_rfl⟩
theorem bW:Row Tryz.prog 42 32:=⟨⟨_,Tryz.underlying42,rfl⟩,by kernel_rfl⟩
theorem tJ:Row Tryz.prog 45 38:=⟨⟨_,Tryz.underlying45,rfl⟩,by kernel_rfl⟩
theorem eY:Row Tryz.prog 47 34:=⟨⟨_,Tryz.underlying47,rfl⟩,by kernel_rfl⟩
theorem cn:Row Tryz.prog 49 67:=⟨⟨_,Tryz.underlying49,rfl⟩,by kernel_rfl⟩
theorem cC:Row Tryz.prog 54 3:=⟨⟨_,Tryz.underlying54,rfl⟩,by kernel_rfl⟩
theorem aQ:Row Tryz.prog 60 33:=⟨⟨_,Tryz.underlying60,rfl⟩,by kernel_rfl⟩
theorem dl:Row Tryz.prog 63 68:=⟨⟨_,Tryz.underlying63,rfl⟩,by kernel_rfl⟩
theorem gc:Row Tryz.prog 68 5:=⟨⟨_,Tryz.underlying68,rfl⟩,by kernel_rfl⟩
theorem ZV:Row Tryz.prog 84 7:=⟨⟨_,Tryz.underlying84,rfl⟩,by kernel_rfl⟩
theorem Y3:Row Tryz.prog 91 74:=⟨⟨_,Tryz.underlying91,rfl⟩,by kernel_rfl⟩
theorem Mh:Row Tryz.prog 125 33:=⟨⟨_,Tryz.underlying125,rfl⟩,by kernel_rfl⟩
theorem Mz:Row Tryz.prog 128 34:=⟨⟨_,Tryz.underlying128,rfl⟩,by kernel_rfl⟩
theorem qE:Row Tryz.prog 132 4:=⟨⟨_,Tryz.underlying132,rfl⟩,by kernel_rfl⟩
theorem qf:Row Tryz.prog 184 71:=⟨⟨_,Tryz.underlying184,rfl⟩,by kernel_rfl⟩
theorem gk:Row Tryz.prog 186 139:=⟨⟨_,Tryz.underlying186,rfl⟩,by kernel_rfl⟩
theorem oM:Row Tryz.prog 202 5:=⟨⟨_,Tryz.underlying202,rfl⟩,by kernel_rfl⟩
theorem Jd:Row Tryz.prog 219 4:=⟨⟨_,Tryz.underlying219,rfl⟩,by kernel_rfl⟩
theorem kX:Row Tryz.prog 247 33:=⟨⟨_,Tryz.underlying247,rfl⟩,by kernel_rfl⟩
theorem qN:Row Tryz.prog 264 6:=⟨⟨_,Tryz.underlying264,rfl⟩,by kernel_rfl⟩
theorem lm:Row Tryz.prog 277 34:=⟨⟨_,Tryz.underlying277,rfl⟩,by kernel_rfl⟩
theorem V3:Row Tryz.prog 291 0:=⟨⟨_,Tryz.underlying291,rfl⟩,by kernel_rfl⟩
theorem bJ:One Tryz.prog 3:=⟨⟨_,Tryz.underlying3,rfl⟩,by kernel_rfl⟩
theorem dq:One Tryz.prog 4:=⟨⟨_,Tryz.underlying4,rfl⟩,by kernel_rfl⟩
theorem r2:One Tryz.prog 5:=⟨⟨_,Tryz.underlying5,rfl⟩,by kernel_rfl⟩
theorem jv:One Tryz.prog 9:=⟨⟨_,Tryz.underlying9,rfl⟩,by kernel_rfl⟩
theorem fE:One Tryz.prog 22:=⟨⟨_,Tryz.underlying22,rfl⟩,by kernel_rfl⟩
theorem ij:One Tryz.prog 25:=⟨⟨_,Tryz.underlying25,rfl⟩,by kernel_rfl⟩
theorem nV:One Tryz.prog 26:=⟨⟨_,Tryz.underlying26,rfl⟩,by kernel_rfl⟩
theorem nU:One Tryz.prog 27:=⟨⟨_,Tryz.underlying27,rfl⟩,by kernel_rfl⟩
theorem jb:One Tryz.prog 34:=⟨⟨_,Tryz.underlying34,rfl⟩,by kernel_rfl⟩
theorem NR:One Tryz.prog 38:=⟨⟨_,Tryz.underlying38,rfl⟩,by kernel_rfl⟩
theorem jA:One Tryz.prog 43:=⟨⟨_,Tryz.underlying43,rfl⟩,by kernel_rfl⟩
theorem dS:One Tryz.prog 61:=⟨⟨_,Tryz.underlying61,rfl⟩,by kernel_rfl⟩
theorem FN:One Tryz.prog 64:=⟨⟨_,Tryz.underlying64,rfl⟩,by kernel_rfl⟩
theorem Fd:One Tryz.prog 65:=⟨⟨_,Tryz.underlying65,rfl⟩,by kernel_rfl⟩
theorem wX:One Tryz.prog 66:=⟨⟨_,Tryz.underlying66,rfl⟩,by kernel_rfl⟩
theorem lT:One Tryz.prog 97:=⟨⟨_,Tryz.underlying97,rfl⟩,by kernel_rfl⟩
theorem XS:One Tryz.prog 106:=⟨⟨_,Tryz.underlying106,rfl⟩,by kernel_rfl⟩
theorem DN:One Tryz.prog 112:=⟨⟨_,Tryz.underlying112,rfl⟩,by kernel_rfl⟩
theorem JP:One Tryz.prog 164:=⟨⟨_,Tryz.underlying164,rfl⟩,by kernel_rfl⟩
theorem MD:One Tryz.prog 177:=⟨⟨_,Tryz.underlying177,rfl⟩,by kernel_rfl⟩
theorem Du:One Tryz.prog 199:=⟨⟨_,Tryz.underlying199,rfl⟩,by kernel_rfl⟩
theorem oB:One Tryz.prog 200:=⟨⟨_,Tryz.underlying200,rfl⟩,by kernel_rfl⟩
theorem oy:One Tryz.prog 233:=⟨⟨_,Tryz.underlying233,rfl⟩,by kernel_rfl⟩
theorem aq6:(Tryz.prog.info? 3).map (·.size)=some 1:=by kernel_rfl
theorem ax9:(Tryz.prog.info? 5).map (·.size)=some 1:=by kernel_rfl
theorem at1:(Tryz.prog.info? 9).map (·.size)=some 1:=by kernel_rfl
theorem Tl:(Tryz.prog.info? 34).map (·.size)=some 1:=by kernel_rfl
theorem As:(Tryz.prog.info? 47).map (·.size)=some 34:=by kernel_rfl
theorem gf:(Tryz.prog.info? 49).map (·.size)=some 67:=by kernel_rfl
theorem kB:(Tryz.prog.info? 54).map (·.size)=some 3:=by kernel_rfl
theorem dX:(Tryz.prog.info? 60).map (·.size)=some 33:=by kernel_rfl
theorem S8:(Tryz.prog.info? 61).map (·.size)=some 1:=by kernel_rfl
theorem ms:(Tryz.prog.info? 63).map (·.size)=some 68:=by kernel_rfl
theorem wq:(Tryz.prog.info? 68).map (·.size)=some 5:=by kernel_rfl
theorem ag6:(Tryz.prog.info? 91).map (·.size)=some 74:=by kernel_rfl
theorem Xl:(Tryz.prog.info? 125).map (·.size)=some 33:=by kernel_rfl
theorem Xi:(Tryz.prog.info? 128).map (·.size)=some 34:=by kernel_rfl
theorem XA:(Tryz.prog.info? 132).map (·.size)=some 4:=by kernel_rfl
theorem yM:(Tryz.prog.info? 247).map (·.size)=some 33:=by kernel_rfl
theorem oL:(Tryz.prog.info? 277).map (·.size)=some 34:=by kernel_rfl
theorem QC:Fld Tryz.prog 24 0 0:=⟨⟨_,_,0,Tryz.underlying24,rfl,by kernel_rfl,rfl⟩⟩
theorem Rv:Fld Tryz.prog 29 0 0:=⟨⟨_,_,0,Tryz.underlying29,rfl,by kernel_rfl,rfl⟩⟩
theorem QW:Fld Tryz.prog 29 1 1:=⟨⟨_,_,0,Tryz.underlying29,rfl,by kernel_rfl,rfl⟩⟩
theorem QJ:Fld Tryz.prog 29 2 2:=⟨⟨_,_,0,Tryz.underlying29,rfl,by kernel_rfl,rfl⟩⟩
theorem Ro:Fld Tryz.prog 31 0 0:=⟨⟨_,_,0,Tryz.underlying31,rfl,by kernel_rfl,rfl⟩⟩
theorem Si:Fld Tryz.prog 31 1 1:=⟨⟨_,_,0,Tryz.underlying31,rfl,by kernel_rfl,rfl⟩⟩
theorem R5:Fld Tryz.prog 31 2 2:=⟨⟨_,_,0,Tryz.underlying31,rfl,by kernel_rfl,rfl⟩⟩
theorem RF:Fld Tryz.prog 31 3 3:=⟨⟨_,_,2,Tryz.underlying31,rfl,by kernel_rfl,rfl⟩⟩
theorem PO:Fld Tryz.prog 45 0 0:=⟨⟨_,_,0,Tryz.underlying45,rfl,by kernel_rfl,rfl⟩⟩
theorem QR:Fld Tryz.prog 45 1 1:=⟨⟨_,_,0,Tryz.underlying45,rfl,by kernel_rfl,rfl⟩⟩
theorem Q7:Fld Tryz.prog 45 2 2:=⟨⟨_,_,0,Tryz.underlying45,rfl,by kernel_rfl,rfl⟩⟩
theorem P7:Fld Tryz.prog 45 4 4:=⟨⟨_,_,31,Tryz.underlying45,rfl,by kernel_rfl,rfl⟩⟩
theorem O0:Fld Tryz.prog 45 5 36:=⟨⟨_,_,0,Tryz.underlying45,rfl,by kernel_rfl,rfl⟩⟩
theorem Sg:Fld Tryz.prog 45 6 37:=⟨⟨_,_,0,Tryz.underlying45,rfl,by kernel_rfl,rfl⟩⟩
theorem GL:Fld Tryz.prog 47 0 0:=⟨⟨_,_,0,Tryz.underlying47,rfl,by kernel_rfl,rfl⟩⟩
theorem Fp:Fld Tryz.prog 47 1 1:=⟨⟨_,_,31,Tryz.underlying47,rfl,by kernel_rfl,rfl⟩⟩
theorem SD:Fld Tryz.prog 47 2 33:=⟨⟨_,_,0,Tryz.underlying47,rfl,by kernel_rfl,rfl⟩⟩
theorem Rx:Fld Tryz.prog 49 0 0:=⟨⟨_,_,31,Tryz.underlying49,rfl,by kernel_rfl,rfl⟩⟩
theorem SM:Fld Tryz.prog 49 1 32:=⟨⟨_,_,33,Tryz.underlying49,rfl,by kernel_rfl,rfl⟩⟩
theorem zg:Fld Tryz.prog 49 2 66:=⟨⟨_,_,0,Tryz.underlying49,rfl,by kernel_rfl,rfl⟩⟩
theorem Qr:Fld Tryz.prog 54 0 0:=⟨⟨_,_,0,Tryz.underlying54,rfl,by kernel_rfl,rfl⟩⟩
theorem QS:Fld Tryz.prog 54 1 1:=⟨⟨_,_,0,Tryz.underlying54,rfl,by kernel_rfl,rfl⟩⟩
theorem xC:Fld Tryz.prog 54 2 2:=⟨⟨_,_,0,Tryz.underlying54,rfl,by kernel_rfl,rfl⟩⟩
theorem jh:Fld Tryz.prog 60 0 0:=⟨⟨_,_,0,Tryz.underlying60,rfl,by kernel_rfl,rfl⟩⟩
theorem xO:Fld Tryz.prog 60 1 1:=⟨⟨_,_,31,Tryz.underlying60,rfl,by kernel_rfl,rfl⟩⟩
theorem f5:Fld Tryz.prog 63 0 0:=⟨⟨_,_,32,Tryz.underlying63,rfl,by kernel_rfl,rfl⟩⟩
theorem sd:Fld Tryz.prog 63 1 33:=⟨⟨_,_,32,Tryz.underlying63,rfl,by kernel_rfl,rfl⟩⟩
theorem nz:Fld Tryz.prog 63 2 66:=⟨⟨_,_,0,Tryz.underlying63,rfl,by kernel_rfl,rfl⟩⟩
theorem pm:Fld Tryz.prog 63 3 67:=⟨⟨_,_,0,Tryz.underlying63,rfl,by kernel_rfl,rfl⟩⟩
theorem sD:Fld Tryz.prog 68 0 0:=⟨⟨_,_,0,Tryz.underlying68,rfl,by kernel_rfl,rfl⟩⟩
theorem PM:Fld Tryz.prog 68 1 1:=⟨⟨_,_,0,Tryz.underlying68,rfl,by kernel_rfl,rfl⟩⟩
theorem yT:Fld Tryz.prog 68 2 2:=⟨⟨_,_,0,Tryz.underlying68,rfl,by kernel_rfl,rfl⟩⟩
theorem zr:Fld Tryz.prog 68 3 3:=⟨⟨_,_,0,Tryz.underlying68,rfl,by kernel_rfl,rfl⟩⟩
theorem zd:Fld Tryz.prog 68 4 4:=⟨⟨_,_,0,Tryz.underlying68,rfl,by kernel_rfl,rfl⟩⟩
theorem Pf:Fld Tryz.prog 84 0 0:=⟨⟨_,_,5,Tryz.underlying84,rfl,by kernel_rfl,rfl⟩⟩
theorem Q8:Fld Tryz.prog 84 1 6:=⟨⟨_,_,0,Tryz.underlying84,rfl,by kernel_rfl,rfl⟩⟩
theorem E6:Fld Tryz.prog 91 0 0:=⟨⟨_,_,0,Tryz.underlying91,rfl,by kernel_rfl,rfl⟩⟩
theorem Qz:Fld Tryz.prog 91 1 1:=⟨⟨_,_,0,Tryz.underlying91,rfl,by kernel_rfl,rfl⟩⟩
theorem Kc:Fld Tryz.prog 125 0 0:=⟨⟨_,_,31,Tryz.underlying125,rfl,by kernel_rfl,rfl⟩⟩
theorem MF:Fld Tryz.prog 125 1 32:=⟨⟨_,_,0,Tryz.underlying125,rfl,by kernel_rfl,rfl⟩⟩
theorem LR:Fld Tryz.prog 128 0 0:=⟨⟨_,_,31,Tryz.underlying128,rfl,by kernel_rfl,rfl⟩⟩
theorem Mj:Fld Tryz.prog 128 1 32:=⟨⟨_,_,0,Tryz.underlying128,rfl,by kernel_rfl,rfl⟩⟩
theorem Oh:Fld Tryz.prog 128 2 33:=⟨⟨_,_,0,Tryz.underlying128,rfl,by kernel_rfl,rfl⟩⟩
theorem Mt:Fld Tryz.prog 132 0 0:=⟨⟨_,_,0,Tryz.underlying132,rfl,by kernel_rfl,rfl⟩⟩
theorem Lm:Fld Tryz.prog 132 1 1:=⟨⟨_,_,0,Tryz.underlying132,rfl,by kernel_rfl,rfl⟩⟩
theorem I9:Fld Tryz.prog 132 2 2:=⟨⟨_,_,0,Tryz.underlying132,rfl,by kernel_rfl,rfl⟩⟩
theorem OE:Fld Tryz.prog 132 3 3:=⟨⟨_,_,0,Tryz.underlying132,rfl,by kernel_rfl,rfl⟩⟩
theorem Ki:Fld Tryz.prog 184 0 0:=⟨⟨_,_,0,Tryz.underlying184,rfl,by kernel_rfl,rfl⟩⟩
theorem Ng:Fld Tryz.prog 184 1 1:=⟨⟨_,_,31,Tryz.underlying184,rfl,by kernel_rfl,rfl⟩⟩
theorem M3:Fld Tryz.prog 184 2 33:=⟨⟨_,_,33,Tryz.underlying184,rfl,by kernel_rfl,rfl⟩⟩
theorem K8:Fld Tryz.prog 184 3 67:=⟨⟨_,_,0,Tryz.underlying184,rfl,by kernel_rfl,rfl⟩⟩
theorem No:Fld Tryz.prog 184 4 68:=⟨⟨_,_,0,Tryz.underlying184,rfl,by kernel_rfl,rfl⟩⟩
theorem KN:Fld Tryz.prog 184 5 69:=⟨⟨_,_,0,Tryz.underlying184,rfl,by kernel_rfl,rfl⟩⟩
theorem NA:Fld Tryz.prog 184 6 70:=⟨⟨_,_,0,Tryz.underlying184,rfl,by kernel_rfl,rfl⟩⟩
theorem M5:Fld Tryz.prog 186 0 0:=⟨⟨_,_,0,Tryz.underlying186,rfl,by kernel_rfl,rfl⟩⟩
theorem Mn:Fld Tryz.prog 186 1 1:=⟨⟨_,_,70,Tryz.underlying186,rfl,by kernel_rfl,rfl⟩⟩
theorem Li:Fld Tryz.prog 202 0 0:=⟨⟨_,_,0,Tryz.underlying202,rfl,by kernel_rfl,rfl⟩⟩
theorem L5:Fld Tryz.prog 202 1 1:=⟨⟨_,_,0,Tryz.underlying202,rfl,by kernel_rfl,rfl⟩⟩
theorem JY:Fld Tryz.prog 202 2 2:=⟨⟨_,_,0,Tryz.underlying202,rfl,by kernel_rfl,rfl⟩⟩
theorem KX:Fld Tryz.prog 202 3 3:=⟨⟨_,_,0,Tryz.underlying202,rfl,by kernel_rfl,rfl⟩⟩
theorem MU:Fld Tryz.prog 202 4 4:=⟨⟨_,_,0,Tryz.underlying202,rfl,by kernel_rfl,rfl⟩⟩
theorem I6:Fld Tryz.prog 218 0 0:=⟨⟨_,_,31,Tryz.underlying218,rfl,by kernel_rfl,rfl⟩⟩
theorem Nj:Fld Tryz.prog 218 1 32:=⟨⟨_,_,33,Tryz.underlying218,rfl,by kernel_rfl,rfl⟩⟩
theorem NM:Fld Tryz.prog 245 0 0:=⟨⟨_,_,31,Tryz.underlying245,rfl,by kernel_rfl,rfl⟩⟩
theorem Oo:Fld Tryz.prog 247 1 32:=⟨⟨_,_,0,Tryz.underlying247,rfl,by kernel_rfl,rfl⟩⟩
theorem KF:Fld Tryz.prog 264 0 0:=⟨⟨_,_,0,Tryz.underlying264,rfl,by kernel_rfl,rfl⟩⟩
theorem KU:Fld Tryz.prog 264 1 1:=⟨⟨_,_,0,Tryz.underlying264,rfl,by kernel_rfl,rfl⟩⟩
theorem LX:Fld Tryz.prog 264 2 2:=⟨⟨_,_,0,Tryz.underlying264,rfl,by kernel_rfl,rfl⟩⟩
theorem Kz:Fld Tryz.prog 264 3 3:=⟨⟨_,_,0,Tryz.underlying264,rfl,by kernel_rfl,rfl⟩⟩
theorem Ln:Fld Tryz.prog 264 4 4:=⟨⟨_,_,0,Tryz.underlying264,rfl,by kernel_rfl,rfl⟩⟩
theorem MZ:Fld Tryz.prog 264 5 5:=⟨⟨_,_,0,Tryz.underlying264,rfl,by kernel_rfl,rfl⟩⟩
theorem AR:Fld Tryz.prog 277 1 32:=⟨⟨_,_,0,Tryz.underlying277,rfl,by kernel_rfl,rfl⟩⟩
theorem uG:Fld Tryz.prog 277 2 33:=⟨⟨_,_,0,Tryz.underlying277,rfl,by kernel_rfl,rfl⟩⟩
theorem ZS:EqV Tryz.prog 2 42 (32*1) (λxs=>xs.length=32*1/\∀ i,i<32->∃ n,(xs.drop (i*1)).take 1=[Value.int .u8 n]) Cq:=EqV.arr (n:=32) (EqV.int .u8 Tryz.underlying5 (by kernel_rfl)) Tryz.underlying42 (by kernel_rfl)
theorem T0 (x y:dN):Zc Tryz.prog 3 47 34 (cG x) (cG y):=⟨_,EqV.struct' [(1,(λxs=>∃ n,xs=[Value.int .i64 n])),(32*1,(λxs=>xs.length=32*1/\∀ i,i<32->∃ n,(xs.drop (i*1)).take 1=[Value.int .u8 n])),(1,(λxs=>∃ n,xs=[Value.int .i64 n]))] Tryz.underlying47 (by kernel_rfl) (by kernel_rfl) ⟨by decide,⟨HL,(EqV.int .i64 Tryz.underlying3 (by kernel_rfl)).up⟩,by decide,⟨Cq,ZS⟩,by decide,⟨HL,(EqV.int .i64 Tryz.underlying3 (by kernel_rfl)).up⟩,trivial⟩ ⟨rfl,rfl,rfl,rfl⟩,⟨by rw [aI2,bR],⟨_,E8 _⟩,(by show _/\_;unfold mm;dsimp only;rw [FZ];exact p7 _ _),⟨_,F2 _⟩,trivial⟩,⟨by rw [aI2,bR],⟨_,E8 _⟩,(by show _/\_;unfold mm;dsimp only;rw [FZ];exact p7 _ _),⟨_,F2 _⟩,trivial⟩⟩
theorem Cw:Stt Tryz.prog 47 eZ:=⟨⟨_,Tryz.underlying47,rfl,λi f hf=>by
 match i,hf with
 |0,hf=>cases hf;exact ⟨_,rfl,by kernel_rfl,rfl⟩
 |1,hf=>cases hf;exact ⟨_,rfl,by kernel_rfl,rfl⟩
 |2,hf=>cases hf;exact ⟨_,rfl,by kernel_rfl,rfl⟩
 |i+3,hf=>simp at hf⟩,by kernel_rfl⟩
theorem as3:Stt Tryz.prog 49 LN:=⟨⟨_,Tryz.underlying49,rfl,λi f hf=>by
 match i,hf with
 |0,hf=>cases hf;exact ⟨_,rfl,by kernel_rfl,rfl⟩
 |1,hf=>cases hf;exact ⟨_,rfl,by kernel_rfl,rfl⟩
 |2,hf=>cases hf;exact ⟨_,rfl,by kernel_rfl,rfl⟩
 |i+3,hf=>simp at hf⟩,by kernel_rfl⟩
theorem eqG (x y:Tg):Zc Tryz.prog 4 49 67 (aU x) (aU y):=by
 obtain ⟨V,E9,h1,h2⟩:=T0 x.2.1 y.2.1
 exact ⟨_,EqV.struct' [(32*1,(λxs=>xs.length=32*1/\∀ i,i<32->∃ n,(xs.drop (i*1)).take 1=[Value.int .u8 n])),(34,V),(1,(λxs=>∃ n,xs=[Value.int .i64 n]))] Tryz.underlying49 (by kernel_rfl) (by kernel_rfl) ⟨by decide,⟨Cq,ZS.up⟩,by decide,⟨Cq,E9⟩,by decide,⟨HL,(EqV.int .i64 Tryz.underlying3 (by kernel_rfl)).up.up⟩,trivial⟩ ⟨rfl,rfl,rfl,rfl⟩,⟨by rw [aI2,aE],(by show _/\_;unfold mm;dsimp only;rw [Bz];exact p7 _ _),(by show V (mm _ _ _);unfold mm;dsimp only;rw [BK];exact h1),⟨_,GQ _⟩,trivial⟩,⟨by rw [aI2,aE],(by show _/\_;unfold mm;dsimp only;rw [Bz];exact p7 _ _),(by show V (mm _ _ _);unfold mm;dsimp only;rw [BK];exact h2),⟨_,GQ _⟩,trivial⟩⟩
theorem ae3:Stt Tryz.prog 184 Yh:=⟨⟨_,Tryz.underlying184,rfl,λi f hf=>by
 match i,hf with
 |0,hf=>cases hf;exact ⟨_,rfl,by kernel_rfl,rfl⟩
 |1,hf=>cases hf;exact ⟨_,rfl,by kernel_rfl,rfl⟩
 |2,hf=>cases hf;exact ⟨_,rfl,by kernel_rfl,rfl⟩
 |3,hf=>cases hf;exact ⟨_,rfl,by kernel_rfl,rfl⟩
 |4,hf=>cases hf;exact ⟨_,rfl,by kernel_rfl,rfl⟩
 |5,hf=>cases hf;exact ⟨_,rfl,by kernel_rfl,rfl⟩
 |6,hf=>cases hf;exact ⟨_,rfl,by kernel_rfl,rfl⟩
 |i+7,hf=>simp at hf⟩,by kernel_rfl⟩
theorem vJ:Stt Tryz.prog 264 fZ:=⟨⟨_,Tryz.underlying264,rfl,λi f hf=>by
 match i,hf with
 |0,hf=>cases hf;exact ⟨_,rfl,by kernel_rfl,rfl⟩
 |1,hf=>cases hf;exact ⟨_,rfl,by kernel_rfl,rfl⟩
 |2,hf=>cases hf;exact ⟨_,rfl,by kernel_rfl,rfl⟩
 |3,hf=>cases hf;exact ⟨_,rfl,by kernel_rfl,rfl⟩
 |4,hf=>cases hf;exact ⟨_,rfl,by kernel_rfl,rfl⟩
 |5,hf=>cases hf;exact ⟨_,rfl,by kernel_rfl,rfl⟩
 |i+6,hf=>simp at hf⟩,by kernel_rfl⟩
theorem FD:Stt Tryz.prog 54 svZ:=⟨⟨_,Tryz.underlying54,rfl,λi f hf=>by
 match i,hf with
 |0,hf=>cases hf;exact ⟨_,rfl,by kernel_rfl,rfl⟩
 |1,hf=>cases hf;exact ⟨_,rfl,by kernel_rfl,rfl⟩
 |2,hf=>cases hf;exact ⟨_,rfl,by kernel_rfl,rfl⟩
 |i+3,hf=>simp at hf⟩,by kernel_rfl⟩
theorem wM:Stt Tryz.prog 186 seZ:=⟨⟨_,Tryz.underlying186,rfl,λi f hf=>by
 match i,hf with
 |0,hf=>cases hf;exact ⟨_,rfl,by kernel_rfl,rfl⟩
 |1,hf=>cases hf;exact ⟨_,rfl,by kernel_rfl,rfl⟩
 |2,hf=>cases hf;exact ⟨_,rfl,by kernel_rfl,rfl⟩
 |i+3,hf=>simp at hf⟩,by kernel_rfl⟩
theorem Tj:Stt Tryz.prog 68 YT:=⟨⟨_,Tryz.underlying68,rfl,λi f hf=>by
 match i,hf with
 |0,hf=>cases hf;exact ⟨_,rfl,by kernel_rfl,rfl⟩
 |1,hf=>cases hf;exact ⟨_,rfl,by kernel_rfl,rfl⟩
 |2,hf=>cases hf;exact ⟨_,rfl,by kernel_rfl,rfl⟩
 |3,hf=>cases hf;exact ⟨_,rfl,by kernel_rfl,rfl⟩
 |4,hf=>cases hf;exact ⟨_,rfl,by kernel_rfl,rfl⟩
 |i+5,hf=>simp at hf⟩,by kernel_rfl⟩
theorem Zs:Stt Tryz.prog 202 YT:=⟨⟨_,Tryz.underlying202,rfl,λi f hf=>by
 match i,hf with
 |0,hf=>cases hf;exact ⟨_,rfl,by kernel_rfl,rfl⟩
 |1,hf=>cases hf;exact ⟨_,rfl,by kernel_rfl,rfl⟩
 |2,hf=>cases hf;exact ⟨_,rfl,by kernel_rfl,rfl⟩
 |3,hf=>cases hf;exact ⟨_,rfl,by kernel_rfl,rfl⟩
 |4,hf=>cases hf;exact ⟨_,rfl,by kernel_rfl,rfl⟩
 |i+5,hf=>simp at hf⟩,by kernel_rfl⟩
theorem ad8:Stt Tryz.prog 247 wnZ:=⟨⟨_,Tryz.underlying247,rfl,λi f hf=>by
 match i,hf with
 |0,hf=>cases hf;exact ⟨_,rfl,by kernel_rfl,rfl⟩
 |1,hf=>cases hf;exact ⟨_,rfl,by kernel_rfl,rfl⟩
 |i+2,hf=>simp at hf⟩,by kernel_rfl⟩
theorem ZE:Stt Tryz.prog 277 hnZ:=⟨⟨_,Tryz.underlying277,rfl,λi f hf=>by
 match i,hf with
 |0,hf=>cases hf;exact ⟨_,rfl,by kernel_rfl,rfl⟩
 |1,hf=>cases hf;exact ⟨_,rfl,by kernel_rfl,rfl⟩
 |2,hf=>cases hf;exact ⟨_,rfl,by kernel_rfl,rfl⟩
 |i+3,hf=>simp at hf⟩,by kernel_rfl⟩
theorem TQ:Stt Tryz.prog 245 nmZ:=⟨⟨_,Tryz.underlying245,rfl,λi f hf=>by
 match i,hf with
 |0,hf=>cases hf;exact ⟨_,rfl,by kernel_rfl,rfl⟩
 |i+1,hf=>simp at hf⟩,by kernel_rfl⟩
theorem TK:Stt Tryz.prog 91 ntZ:=⟨⟨_,Tryz.underlying91,rfl,λi f hf=>by
 match i,hf with
 |0,hf=>cases hf;exact ⟨_,rfl,by kernel_rfl,rfl⟩
 |1,hf=>cases hf;exact ⟨_,rfl,by kernel_rfl,rfl⟩
 |2,hf=>cases hf;exact ⟨_,rfl,by kernel_rfl,rfl⟩
 |3,hf=>cases hf;exact ⟨_,rfl,by kernel_rfl,rfl⟩
 |4,hf=>cases hf;exact ⟨_,rfl,by kernel_rfl,rfl⟩
 |5,hf=>cases hf;exact ⟨_,rfl,by kernel_rfl,rfl⟩
 |6,hf=>cases hf;exact ⟨_,rfl,by kernel_rfl,rfl⟩
 |7,hf=>cases hf;exact ⟨_,rfl,by kernel_rfl,rfl⟩
 |i+8,hf=>simp at hf⟩,by kernel_rfl⟩
theorem w7:Stt Tryz.prog 29 mlZ:=⟨⟨_,Tryz.underlying29,rfl,λi f hf=>by
 match i,hf with
 |0,hf=>cases hf;exact ⟨_,rfl,by kernel_rfl,rfl⟩
 |1,hf=>cases hf;exact ⟨_,rfl,by kernel_rfl,rfl⟩
 |2,hf=>cases hf;exact ⟨_,rfl,by kernel_rfl,rfl⟩
 |i+3,hf=>simp at hf⟩,by kernel_rfl⟩
theorem ac2:Stt Tryz.prog 132 ltZ:=⟨⟨_,Tryz.underlying132,rfl,λi f hf=>by
 match i,hf with
 |0,hf=>cases hf;exact ⟨_,rfl,by kernel_rfl,rfl⟩
 |1,hf=>cases hf;exact ⟨_,rfl,by kernel_rfl,rfl⟩
 |2,hf=>cases hf;exact ⟨_,rfl,by kernel_rfl,rfl⟩
 |3,hf=>cases hf;exact ⟨_,rfl,by kernel_rfl,rfl⟩
 |i+4,hf=>simp at hf⟩,by kernel_rfl⟩
theorem ay5:EqV Tryz.prog 2 42 (32*1) (λxs=>xs.length=32*1/\∀ i,i<32->∃ n,(xs.drop (i*1)).take 1=[Value.int .u8 n]) Cq:=EqV.arr (n:=32) (EqV.int .u8 Tryz.underlying5 (by kernel_rfl)) Tryz.underlying42 (by kernel_rfl)
theorem x6 (x y:Mb):Zc Tryz.prog 3 60 33 (ar x) (ar y):=⟨_,EqV.struct' [(1,(λxs=>∃ n,xs=[Value.int .i64 n])),(32*1,(λxs=>xs.length=32*1/\∀ i,i<32->∃ n,(xs.drop (i*1)).take 1=[Value.int .u8 n]))] Tryz.underlying60 (by kernel_rfl) (by kernel_rfl) ⟨by decide,⟨HL,(EqV.int .i64 Tryz.underlying3 (by kernel_rfl)).up⟩,by decide,⟨Cq,ay5⟩,trivial⟩ ⟨rfl,rfl,rfl⟩,⟨by rw [aI2,aj],⟨_,BJ _⟩,(by show _/\_;unfold mm;dsimp only;rw [Cm];exact p7 _ _),trivial⟩,⟨by rw [aI2,aj],⟨_,BJ _⟩,(by show _/\_;unfold mm;dsimp only;rw [Cm];exact p7 _ _),trivial⟩⟩
theorem tT:Stt Tryz.prog 60 mbZ:=⟨⟨_,Tryz.underlying60,rfl,λi f hf=>by
 match i,hf with
 |0,hf=>cases hf;exact ⟨_,rfl,by kernel_rfl,rfl⟩
 |1,hf=>cases hf;exact ⟨_,rfl,by kernel_rfl,rfl⟩
 |i+2,hf=>simp at hf⟩,by kernel_rfl⟩
theorem Xy:Stt Tryz.prog 63 ndZ:=⟨⟨_,Tryz.underlying63,rfl,λi f hf=>by
 match i,hf with
 |0,hf=>cases hf;exact ⟨_,rfl,by kernel_rfl,rfl⟩
 |1,hf=>cases hf;exact ⟨_,rfl,by kernel_rfl,rfl⟩
 |2,hf=>cases hf;exact ⟨_,rfl,by kernel_rfl,rfl⟩
 |3,hf=>cases hf;exact ⟨_,rfl,by kernel_rfl,rfl⟩
 |i+4,hf=>simp at hf⟩,by kernel_rfl⟩
theorem nL:Stt Tryz.prog 24 ovZ:=⟨⟨_,Tryz.underlying24,rfl,λi f hf=>by
 match i,hf with
 |0,hf=>cases hf;exact ⟨_,rfl,by kernel_rfl,rfl⟩
 |i+1,hf=>simp at hf⟩,by kernel_rfl⟩
theorem aa6:Stt Tryz.prog 291 []:=⟨⟨_,Tryz.underlying291,rfl,λi f hf=>by
 match i,hf with
 |i+0,hf=>simp at hf⟩,by kernel_rfl⟩
theorem KA:Stt Tryz.prog 45 acZ:=⟨⟨_,Tryz.underlying45,rfl,λi f hf=>by
 match i,hf with
 |0,hf=>cases hf;exact ⟨_,rfl,by kernel_rfl,rfl⟩
 |1,hf=>cases hf;exact ⟨_,rfl,by kernel_rfl,rfl⟩
 |2,hf=>cases hf;exact ⟨_,rfl,by kernel_rfl,rfl⟩
 |3,hf=>cases hf;exact ⟨_,rfl,by kernel_rfl,rfl⟩
 |4,hf=>cases hf;exact ⟨_,rfl,by kernel_rfl,rfl⟩
 |5,hf=>cases hf;exact ⟨_,rfl,by kernel_rfl,rfl⟩
 |6,hf=>cases hf;exact ⟨_,rfl,by kernel_rfl,rfl⟩
 |i+7,hf=>simp at hf⟩,by kernel_rfl⟩
theorem TO:Stt Tryz.prog 31 wdZ:=⟨⟨_,Tryz.underlying31,rfl,λi f hf=>by
 match i,hf with
 |0,hf=>cases hf;exact ⟨_,rfl,by kernel_rfl,rfl⟩
 |1,hf=>cases hf;exact ⟨_,rfl,by kernel_rfl,rfl⟩
 |2,hf=>cases hf;exact ⟨_,rfl,by kernel_rfl,rfl⟩
 |3,hf=>cases hf;exact ⟨_,rfl,by kernel_rfl,rfl⟩
 |i+4,hf=>simp at hf⟩,by kernel_rfl⟩
theorem ai5:Stt Tryz.prog 84 crZ:=⟨⟨_,Tryz.underlying84,rfl,λi f hf=>by
 match i,hf with
 |0,hf=>cases hf;exact ⟨_,rfl,by kernel_rfl,rfl⟩
 |1,hf=>cases hf;exact ⟨_,rfl,by kernel_rfl,rfl⟩
 |i+2,hf=>simp at hf⟩,by kernel_rfl⟩
theorem jE:(Tryz.prog.info? 5).map (·.size)=some 1:=by kernel_rfl
theorem Fg:(Tryz.prog.info? 216).map (·.size)=some 1:=by kernel_rfl
theorem ET:(Tryz.prog.info? 4).bind (·.zero)=some (.bool false):=by kernel_rfl
theorem j5:(Tryz.prog.info? 24).bind (·.zero)=some (.agg #[ax]):=by kernel_rfl
theorem Es:(Tryz.prog.info? 29).bind (·.zero)=some (.agg (#[ax,.int .i64 0,.int .i64 0])):=by kernel_rfl
theorem yb:(Tryz.prog.info? 31).bind (·.zero)=some (.agg (fA ax ax ax ax 0 0)):=by kernel_rfl
theorem zn:(Tryz.prog.info? 42).bind (·.zero)=some (iy 0#256):=gE.zero
theorem UG:(Tryz.prog.info? 45).bind (·.zero)=some (.agg (bQ Yi ax)):=by kernel_rfl
theorem Nh:(Tryz.prog.info? 47).bind (·.zero)=some (.agg (cG (0,0#256,0))):=by rw [iH];kernel_rfl
theorem j9:(Tryz.prog.info? 49).bind (·.zero)=some (.agg (aU cr)):=by rw [xT];kernel_rfl
theorem i4:(Tryz.prog.info? 54).bind (·.zero)=some (.agg (bC 0 ByteArray.empty ax)):=by kernel_rfl
theorem em:(Tryz.prog.info? 60).bind (·.zero)=some (.agg (ar bH)):=by rw [yG];kernel_rfl
theorem XJ:(Tryz.prog.info? 61).bind (·.zero)=some (.slice none 0 0):=by kernel_rfl
theorem kJ:(Tryz.prog.info? 63).bind (·.zero)=some (.agg (bu bH bH ax ax)):=by rw [Ra];kernel_rfl
theorem uJ:(Tryz.prog.info? 68).bind (·.zero)=some (.agg (ca 0 0 ax ax ax)):=by kernel_rfl
theorem UE:(Tryz.prog.info? 78).bind (·.zero)=some (.nilFunc):=by kernel_rfl
theorem Wi:(Tryz.prog.info? 84).bind (·.zero)=some (.agg (gJ ax ax ax ax 0 0 ax)):=by kernel_rfl
theorem Ww:(Tryz.prog.info? 97).bind (·.zero)=some (.pointer none):=by kernel_rfl
theorem PW:(Tryz.prog.info? 112).bind (·.zero)=some (.nilFunc):=by kernel_rfl
theorem Q9:(Tryz.prog.info? 125).bind (·.zero)=some (.agg (ef jJ)):=by rw [Fq];kernel_rfl
theorem Sf:(Tryz.prog.info? 128).bind (·.zero)=some (.agg (dT gC)):=by rw [GR];kernel_rfl
theorem E0:(Tryz.prog.info? 132).bind (·.zero)=some (.agg (eu Eg)):=by kernel_rfl
theorem Gr:(Tryz.prog.info? 184).bind (·.zero)=some (.agg (eG mZ ax)):=by rw [show eG mZ ax=eG mZ (.slice none 0 0) from rfl,wj];kernel_rfl
theorem F6:(Tryz.prog.info? 186).bind (·.zero)=some (.agg (dP 0 mZ ax cr)):=by rw [Sb];kernel_rfl
theorem yS:(Tryz.prog.info? 202).bind (·.zero)=some (.agg (ca 0 0 ax ax ax)):=by kernel_rfl
theorem Gt:(Tryz.prog.info? 219).bind (·.zero)=some (.agg #[.nilFunc,.nilFunc,.nilFunc,.nilFunc]):=by kernel_rfl
theorem GO:(Tryz.prog.info? 233).bind (·.zero)=some (.map none):=by kernel_rfl
theorem OZ:(Tryz.prog.info? 247).bind (·.zero)=some (.agg (ef jJ)):=by rw [Fq];kernel_rfl
theorem pR:(Tryz.prog.info? 264).bind (·.zero)=some (.agg (eW 0)):=by kernel_rfl
theorem Ss:(Tryz.prog.info? 277).bind (·.zero)=some (.agg (dT gC)):=by rw [GR];kernel_rfl
theorem Gk:(Tryz.prog.info? 291).bind (·.zero)=some (.agg #[]):=by kernel_rfl
theorem QY:(Tryz.prog.info? 393).bind (·.zero)=some (.agg (cS (λ_=>0) 8)):=by rw [show cS (λ_=>0) 8=(List.replicate 8 (Value.int .u8 0)).toArray from rfl];kernel_rfl
theorem cw (n:Nat) (h:(match Tryz.prog.funcs[n]? with|some fn => !fn.body.isNone && !(fn.name == "runtime.NumGoroutine")|none=>false)=true):Fnc Tryz.prog n:=by
 cases hf:Tryz.prog.funcs[n]? with
 |none=>rw [hf] at h;simp at h
 |some fn=>rw [hf] at h;simp only [aH5,Bool.not_eq_true'] at h;exact ⟨⟨fn,hf,h.1,h.2⟩⟩
theorem ay9:Elm Tryz.prog 3 1 8:=fJ (by kernel_rfl) (by decide)
theorem uM:Elm Tryz.prog 5 1 1:=fJ (by kernel_rfl) (by decide)
theorem al3:Elm Tryz.prog 9 1 16:=fJ (by kernel_rfl) (by decide)
theorem ae8:Elm Tryz.prog 34 1 24:=fJ (by kernel_rfl) (by decide)
theorem F4:Elm Tryz.prog 47 34 48:=fJ (by kernel_rfl) (by decide)
theorem gp:Elm Tryz.prog 49 67 88:=fJ (by kernel_rfl) (by decide)
theorem Fw:Elm Tryz.prog 54 3 48:=fJ (by kernel_rfl) (by decide)
theorem je:Elm Tryz.prog 60 33 40:=fJ (by kernel_rfl) (by decide)
theorem af6:Elm Tryz.prog 61 1 24:=fJ (by kernel_rfl) (by decide)
theorem xk:Elm Tryz.prog 63 68 128:=fJ (by kernel_rfl) (by decide)
theorem Gw:Elm Tryz.prog 68 5 88:=fJ (by kernel_rfl) (by decide)
theorem SY:Elm Tryz.prog 91 74 152:=fJ (by kernel_rfl) (by decide)
theorem Jc:Elm Tryz.prog 125 33 40:=fJ (by kernel_rfl) (by decide)
theorem Ke:Elm Tryz.prog 128 34 48:=fJ (by kernel_rfl) (by decide)
theorem xU:Elm Tryz.prog 132 4 40:=fJ (by kernel_rfl) (by decide)
theorem Lu:Elm Tryz.prog 247 33 40:=fJ (by kernel_rfl) (by decide)
theorem J7:Elm Tryz.prog 277 34 48:=fJ (by kernel_rfl) (by decide)
theorem Ew:(Tryz.prog.info? 5).bind (·.zero)=some (.int .u8 0):=by kernel_rfl
theorem Qo:Fnc Tryz.prog 9:=cw 9 (by kernel_rfl)
theorem ab8:Fnc Tryz.prog 10:=cw 10 (by kernel_rfl)
theorem ae4:Fnc Tryz.prog 11:=cw 11 (by kernel_rfl)
theorem S6:Fnc Tryz.prog 12:=cw 12 (by kernel_rfl)
theorem xb:Fnc Tryz.prog 13:=cw 13 (by kernel_rfl)
theorem aj3:Fnc Tryz.prog 14:=cw 14 (by kernel_rfl)
theorem Tc:Fnc Tryz.prog 15:=cw 15 (by kernel_rfl)
theorem ab5:Fnc Tryz.prog 16:=cw 16 (by kernel_rfl)
theorem AO:Fnc Tryz.prog 18:=cw 18 (by kernel_rfl)
theorem ak6:Fnc Tryz.prog 20:=cw 20 (by kernel_rfl)
theorem Ub:Fnc Tryz.prog 22:=cw 22 (by kernel_rfl)
theorem al0:Fnc Tryz.prog 23:=cw 23 (by kernel_rfl)
theorem ad5:Fnc Tryz.prog 24:=cw 24 (by kernel_rfl)
theorem Od:Fnc Tryz.prog 25:=cw 25 (by kernel_rfl)
theorem YN:Fnc Tryz.prog 26:=cw 26 (by kernel_rfl)
theorem ZJ:Fnc Tryz.prog 27:=cw 27 (by kernel_rfl)
theorem aj9:Fnc Tryz.prog 28:=cw 28 (by kernel_rfl)
theorem Uj:Fnc Tryz.prog 29:=cw 29 (by kernel_rfl)
theorem ad3:Fnc Tryz.prog 30:=cw 30 (by kernel_rfl)
theorem ak8:Fnc Tryz.prog 31:=cw 31 (by kernel_rfl)
theorem FJ:Fnc Tryz.prog 32:=cw 32 (by kernel_rfl)
theorem ub:Fnc Tryz.prog 33:=cw 33 (by kernel_rfl)
theorem To:Fnc Tryz.prog 35:=cw 35 (by kernel_rfl)
theorem Oa:Fnc Tryz.prog 37:=cw 37 (by kernel_rfl)
theorem ak4:Fnc Tryz.prog 38:=cw 38 (by kernel_rfl)
theorem Kp:Fnc Tryz.prog 39:=cw 39 (by kernel_rfl)
theorem vR:Fnc Tryz.prog 42:=cw 42 (by kernel_rfl)
theorem AL:Fnc Tryz.prog 43:=cw 43 (by kernel_rfl)
theorem Y8:Fnc Tryz.prog 44:=cw 44 (by kernel_rfl)
theorem JR:Fnc Tryz.prog 45:=cw 45 (by kernel_rfl)
theorem al7:Fnc Tryz.prog 46:=cw 46 (by kernel_rfl)
theorem al1:Fnc Tryz.prog 47:=cw 47 (by kernel_rfl)
theorem ai8:Fnc Tryz.prog 48:=cw 48 (by kernel_rfl)
theorem Zu:Fnc Tryz.prog 52:=cw 52 (by kernel_rfl)
theorem ak9:Fnc Tryz.prog 56:=cw 56 (by kernel_rfl)
theorem Th:Fnc Tryz.prog 62:=cw 62 (by kernel_rfl)
theorem wW:Fnc Tryz.prog 63:=cw 63 (by kernel_rfl)
theorem ZB:Fnc Tryz.prog 64:=cw 64 (by kernel_rfl)
theorem Za:Fnc Tryz.prog 65:=cw 65 (by kernel_rfl)
theorem af1:Fnc Tryz.prog 66:=cw 66 (by kernel_rfl)
theorem ZR:Fnc Tryz.prog 67:=cw 67 (by kernel_rfl)
theorem Us:Fnc Tryz.prog 68:=cw 68 (by kernel_rfl)
theorem T8:Fnc Tryz.prog 69:=cw 69 (by kernel_rfl)
theorem MQ:Fnc Tryz.prog 70:=cw 70 (by kernel_rfl)
theorem Aj:Fnc Tryz.prog 71:=cw 71 (by kernel_rfl)
theorem Lw:Fnc Tryz.prog 72:=cw 72 (by kernel_rfl)
theorem TJ:Fnc Tryz.prog 73:=cw 73 (by kernel_rfl)
theorem ZN:Fnc Tryz.prog 74:=cw 74 (by kernel_rfl)
theorem FM:Fnc Tryz.prog 75:=cw 75 (by kernel_rfl)
theorem SU:Fnc Tryz.prog 76:=cw 76 (by kernel_rfl)
theorem Y1:Fnc Tryz.prog 77:=cw 77 (by kernel_rfl)
theorem Jt:Fnc Tryz.prog 78:=cw 78 (by kernel_rfl)
theorem EV:Fnc Tryz.prog 79:=cw 79 (by kernel_rfl)
theorem TE:Fnc Tryz.prog 80:=cw 80 (by kernel_rfl)
theorem uA:Fnc Tryz.prog 81:=cw 81 (by kernel_rfl)
theorem YG:Fnc Tryz.prog 83:=cw 83 (by kernel_rfl)
theorem ai7:Fnc Tryz.prog 84:=cw 84 (by kernel_rfl)
theorem T2:Fnc Tryz.prog 85:=cw 85 (by kernel_rfl)
theorem aa5:Fnc Tryz.prog 86:=cw 86 (by kernel_rfl)
theorem T3:Fnc Tryz.prog 87:=cw 87 (by kernel_rfl)
theorem Fk:Fnc Tryz.prog 88:=cw 88 (by kernel_rfl)
theorem Fi:Fnc Tryz.prog 89:=cw 89 (by kernel_rfl)
theorem wG:Fnc Tryz.prog 91:=cw 91 (by kernel_rfl)
theorem rj:Fnc Tryz.prog 92:=cw 92 (by kernel_rfl)
theorem YH:Fnc Tryz.prog 93:=cw 93 (by kernel_rfl)
theorem Z7:Fnc Tryz.prog 94:=cw 94 (by kernel_rfl)
theorem Zf:Fnc Tryz.prog 95:=cw 95 (by kernel_rfl)
theorem af4:Fnc Tryz.prog 96:=cw 96 (by kernel_rfl)
theorem Gj:Fnc Tryz.prog 97:=cw 97 (by kernel_rfl)
theorem Tr:Fnc Tryz.prog 98:=cw 98 (by kernel_rfl)
theorem JJ:Fnc Tryz.prog 99:=cw 99 (by kernel_rfl)
theorem UC:Fnc Tryz.prog 100:=cw 100 (by kernel_rfl)
theorem VT:Fnc Tryz.prog 101:=cw 101 (by kernel_rfl)
theorem Ms:Fnc Tryz.prog 102:=cw 102 (by kernel_rfl)
theorem CJ:Fnc Tryz.prog 103:=cw 103 (by kernel_rfl)
theorem VE:Fnc Tryz.prog 107:=cw 107 (by kernel_rfl)
theorem CL:Fnc Tryz.prog 108:=cw 108 (by kernel_rfl)
theorem WG:Fnc Tryz.prog 109:=cw 109 (by kernel_rfl)
theorem Dm:Fnc Tryz.prog 110:=cw 110 (by kernel_rfl)
theorem WD:Fnc Tryz.prog 114:=cw 114 (by kernel_rfl)
theorem X6:Fnc Tryz.prog 115:=cw 115 (by kernel_rfl)
theorem UR:Fnc Tryz.prog 116:=cw 116 (by kernel_rfl)
theorem KR:Fnc Tryz.prog 117:=cw 117 (by kernel_rfl)
theorem Xm:Fnc Tryz.prog 124:=cw 124 (by kernel_rfl)
theorem K7:Fnc Tryz.prog 125:=cw 125 (by kernel_rfl)
theorem KP:Fnc Tryz.prog 126:=cw 126 (by kernel_rfl)
theorem Xh:Fnc Tryz.prog 127:=cw 127 (by kernel_rfl)
theorem xt:Fnc Tryz.prog 128:=cw 128 (by kernel_rfl)
theorem uk:Fnc Tryz.prog 129:=cw 129 (by kernel_rfl)
theorem qp:Fnc Tryz.prog 130:=cw 130 (by kernel_rfl)
theorem Xv:Fnc Tryz.prog 131:=cw 131 (by kernel_rfl)
theorem XP:Fnc Tryz.prog 132:=cw 132 (by kernel_rfl)
theorem VU:Fnc Tryz.prog 133:=cw 133 (by kernel_rfl)
theorem Lr:Fnc Tryz.prog 134:=cw 134 (by kernel_rfl)
theorem oh:Fnc Tryz.prog 135:=cw 135 (by kernel_rfl)
theorem NK:Fnc Tryz.prog 136:=cw 136 (by kernel_rfl)
theorem UF:Fnc Tryz.prog 137:=cw 137 (by kernel_rfl)
theorem Wh:Fnc Tryz.prog 138:=cw 138 (by kernel_rfl)
theorem MX:Fnc Tryz.prog 139:=cw 139 (by kernel_rfl)
theorem UK:Fnc Tryz.prog 140:=cw 140 (by kernel_rfl)
theorem Vr:Fnc Tryz.prog 141:=cw 141 (by kernel_rfl)
theorem Wa:Fnc Tryz.prog 142:=cw 142 (by kernel_rfl)
theorem W6:Fnc Tryz.prog 143:=cw 143 (by kernel_rfl)
theorem Vz:Fnc Tryz.prog 144:=cw 144 (by kernel_rfl)
theorem UO:Fnc Tryz.prog 145:=cw 145 (by kernel_rfl)
theorem M9:Fnc Tryz.prog 146:=cw 146 (by kernel_rfl)
theorem Lf:Fnc Tryz.prog 147:=cw 147 (by kernel_rfl)
theorem Ez:Fnc Tryz.prog 148:=cw 148 (by kernel_rfl)
theorem MR:Fnc Tryz.prog 149:=cw 149 (by kernel_rfl)
theorem WT:Fnc Tryz.prog 151:=cw 151 (by kernel_rfl)
theorem UN:Fnc Tryz.prog 152:=cw 152 (by kernel_rfl)
theorem U3:Fnc Tryz.prog 153:=cw 153 (by kernel_rfl)
theorem XG:Fnc Tryz.prog 155:=cw 155 (by kernel_rfl)
theorem XQ:Fnc Tryz.prog 156:=cw 156 (by kernel_rfl)
theorem Vl:Fnc Tryz.prog 157:=cw 157 (by kernel_rfl)
theorem WO:Fnc Tryz.prog 158:=cw 158 (by kernel_rfl)
theorem DE:Fnc Tryz.prog 159:=cw 159 (by kernel_rfl)
theorem Wq:Fnc Tryz.prog 160:=cw 160 (by kernel_rfl)
theorem XD:Fnc Tryz.prog 161:=cw 161 (by kernel_rfl)
theorem Wv:Fnc Tryz.prog 163:=cw 163 (by kernel_rfl)
theorem XZ:Fnc Tryz.prog 164:=cw 164 (by kernel_rfl)
theorem Ej:Fnc Tryz.prog 166:=cw 166 (by kernel_rfl)
theorem M8:Fnc Tryz.prog 167:=cw 167 (by kernel_rfl)
theorem JB:Fnc Tryz.prog 170:=cw 170 (by kernel_rfl)
theorem qx:Fnc Tryz.prog 171:=cw 171 (by kernel_rfl)
theorem Ve:Fnc Tryz.prog 173:=cw 173 (by kernel_rfl)
theorem X3:Fnc Tryz.prog 174:=cw 174 (by kernel_rfl)
theorem kM:Fnc Tryz.prog 175:=cw 175 (by kernel_rfl)
theorem L7:Fnc Tryz.prog 176:=cw 176 (by kernel_rfl)
theorem OA:Fnc Tryz.prog 181:=cw 181 (by kernel_rfl)
theorem DF:Fnc Tryz.prog 194:=cw 194 (by kernel_rfl)
theorem V7:Fnc Tryz.prog 195:=cw 195 (by kernel_rfl)
theorem dR:Fnc Tryz.prog 196:=cw 196 (by kernel_rfl)
theorem Xp:Fnc Tryz.prog 197:=cw 197 (by kernel_rfl)
theorem Vu:Fnc Tryz.prog 198:=cw 198 (by kernel_rfl)
theorem JQ:Fnc Tryz.prog 199:=cw 199 (by kernel_rfl)
theorem VB:Fnc Tryz.prog 200:=cw 200 (by kernel_rfl)
theorem X9:Fnc Tryz.prog 201:=cw 201 (by kernel_rfl)
theorem VS:Fnc Tryz.prog 202:=cw 202 (by kernel_rfl)
theorem MV:Fnc Tryz.prog 203:=cw 203 (by kernel_rfl)
theorem uK:Fnc Tryz.prog 204:=cw 204 (by kernel_rfl)
theorem D7:Fnc Tryz.prog 205:=cw 205 (by kernel_rfl)
theorem L8:Fnc Tryz.prog 206:=cw 206 (by kernel_rfl)
theorem WC:Fnc Tryz.prog 207:=cw 207 (by kernel_rfl)
theorem XM:Fnc Tryz.prog 208:=cw 208 (by kernel_rfl)
theorem JH:Fnc Tryz.prog 209:=cw 209 (by kernel_rfl)
theorem XW:Fnc Tryz.prog 212:=cw 212 (by kernel_rfl)
theorem VY:Fnc Tryz.prog 214:=cw 214 (by kernel_rfl)
theorem n7:Fnc Tryz.prog 215:=cw 215 (by kernel_rfl)
theorem Ld:Fnc Tryz.prog 216:=cw 216 (by kernel_rfl)
theorem Uy:Fnc Tryz.prog 217:=cw 217 (by kernel_rfl)
theorem XK:Fnc Tryz.prog 218:=cw 218 (by kernel_rfl)
theorem Xk:Fnc Tryz.prog 219:=cw 219 (by kernel_rfl)
theorem WI:Fnc Tryz.prog 224:=cw 224 (by kernel_rfl)
theorem XL:Fnc Tryz.prog 225:=cw 225 (by kernel_rfl)
theorem Dj:Fnc Tryz.prog 228:=cw 228 (by kernel_rfl)
theorem UX:Fnc Tryz.prog 229:=cw 229 (by kernel_rfl)
theorem Uw:Fnc Tryz.prog 230:=cw 230 (by kernel_rfl)
theorem WR:Fnc Tryz.prog 231:=cw 231 (by kernel_rfl)
theorem UB:Fnc Tryz.prog 232:=cw 232 (by kernel_rfl)
theorem XV:Fnc Tryz.prog 241:=cw 241 (by kernel_rfl)
theorem Xr:Fnc Tryz.prog 242:=cw 242 (by kernel_rfl)
theorem Eb:Fnc Tryz.prog 243:=cw 243 (by kernel_rfl)
theorem W0:Fnc Tryz.prog 244:=cw 244 (by kernel_rfl)
theorem Vj:Fnc Tryz.prog 245:=cw 245 (by kernel_rfl)
theorem U9:Fnc Tryz.prog 246:=cw 246 (by kernel_rfl)
theorem Jm:Fnc Tryz.prog 257:=cw 257 (by kernel_rfl)
theorem Wy:Fnc Tryz.prog 258:=cw 258 (by kernel_rfl)
theorem WL:Fnc Tryz.prog 259:=cw 259 (by kernel_rfl)
theorem JA:Fnc Tryz.prog 260:=cw 260 (by kernel_rfl)
theorem ye:Fnc Tryz.prog 269:=cw 269 (by kernel_rfl)
theorem Wl:Fnc Tryz.prog 270:=cw 270 (by kernel_rfl)
theorem WE:Fnc Tryz.prog 271:=cw 271 (by kernel_rfl)
theorem XC:Fnc Tryz.prog 272:=cw 272 (by kernel_rfl)
theorem OH:Fnc Tryz.prog 273:=cw 273 (by kernel_rfl)
theorem XY:Fnc Tryz.prog 284:=cw 284 (by kernel_rfl)
theorem WZ:Fnc Tryz.prog 285:=cw 285 (by kernel_rfl)
theorem Jx:Fnc Tryz.prog 286:=cw 286 (by kernel_rfl)
theorem UZ:Fnc Tryz.prog 287:=cw 287 (by kernel_rfl)
theorem VM:Fnc Tryz.prog 299:=cw 299 (by kernel_rfl)
theorem V5:Fnc Tryz.prog 300:=cw 300 (by kernel_rfl)
theorem Vo:Fnc Tryz.prog 310:=cw 310 (by kernel_rfl)
theorem Xz:Fnc Tryz.prog 315:=cw 315 (by kernel_rfl)
theorem Ei:Fnc Tryz.prog 416:=cw 416 (by kernel_rfl)
def FT9:List (Nat × Nat × Nat):=[(24,0,0),(29,0,0),(29,1,1),(29,2,2),(31,0,0),(31,1,1),(31,2,2),(31,3,3),(45,0,0),(45,1,1),(45,2,2),(45,4,4),(45,5,36),(45,6,37),(47,0,0),(47,1,1),(47,2,33),(49,0,0),(49,1,32),(49,2,66),(54,0,0),(54,1,1),(54,2,2),(60,0,0),(60,1,1),(63,0,0),(63,1,33),(63,2,66),(63,3,67),(68,0,0),(68,1,1),(68,2,2),(68,3,3),(68,4,4),(84,0,0),(84,1,6),(91,0,0),(91,1,1),(125,0,0),(125,1,32),(128,0,0),(128,1,32),(128,2,33),(132,0,0),(132,1,1),(132,2,2),(132,3,3),(184,0,0),(184,1,1),(184,2,33),(184,3,67),(184,4,68),(184,5,69),(184,6,70),(186,0,0),(186,1,1),(202,0,0),(202,1,1),(202,2,2),(202,3,3),(202,4,4),(218,0,0),(218,1,32),(245,0,0),(247,1,32),(264,0,0),(264,1,1),(264,2,2),(264,3,3),(264,4,4),(264,5,5),(277,1,32),(277,2,33)]
theorem ac:FT Tryz.prog FT9:=⟨QC,Rv,QW,QJ,Ro,Si,R5,RF,PO,QR,Q7,P7,O0,Sg,GL,Fp,SD,Rx,SM,zg,Qr,QS,xC,jh,xO,f5,sd,nz,pm,sD,PM,yT,zr,zd,Pf,Q8,E6,Qz,Kc,MF,LR,Mj,Oh,Mt,Lm,I9,OE,Ki,Ng,M3,K8,No,KN,NA,M5,Mn,Li,L5,JY,KX,MU,I6,Nj,NM,Oo,KF,KU,LX,Kz,Ln,MZ,AR,uG,trivial⟩
end Go.Proofs.YthmlflaiidhoiaaGreatDoor
