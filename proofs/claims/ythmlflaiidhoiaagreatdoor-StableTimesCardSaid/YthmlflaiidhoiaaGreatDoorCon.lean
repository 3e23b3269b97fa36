/- What the walks want of the program: its types and functions by number; no condition. -/
import Derived.Test.YthmlflaiidhoiaaGreatDoorProg
import Derived.KernelRfl
import Derived.Test.YthmlflaiidhoiaaGreatDoorWd
namespace Go.Proofs.YthmlflaiidhoiaaGreatDoor
abbrev ax8:=@Tryz.underlying42
abbrev ax9:=@Tryz.underlying5
abbrev ay0:=@Tryz.underlying24
abbrev ay1:=@Tryz.underlying29
abbrev ay2:=@Tryz.underlying31
abbrev ay3:=@Tryz.underlying45
abbrev ay4:=@Tryz.underlying47
abbrev ay5:=@Tryz.underlying49
abbrev ay6:=@Tryz.underlying54
abbrev ay7:=@Tryz.underlying60
abbrev ay8:=@Tryz.underlying63
abbrev ay9:=@Tryz.underlying68
abbrev az0:=@Tryz.underlying84
abbrev az1:=@Tryz.underlying125
abbrev az2:=@Tryz.underlying128
abbrev az3:=@Tryz.underlying132
abbrev az4:=@Tryz.underlying202
abbrev az5:=@Tryz.underlying219
abbrev az6:=@Tryz.underlying247
abbrev az7:=@Tryz.underlying277
abbrev az8:=@Tryz.underlying3
abbrev az9:=@Tryz.underlying4
abbrev aA0:=@Tryz.underlying9
abbrev aA1:=@Tryz.underlying22
abbrev aA2:=@Tryz.underlying25
abbrev aA3:=@Tryz.underlying26
abbrev aA4:=@Tryz.underlying27
abbrev aA5:=@Tryz.underlying34
abbrev aA6:=@Tryz.underlying61
abbrev aA7:=@Tryz.underlying64
abbrev aA8:=@Tryz.underlying65
abbrev aA9:=@Tryz.underlying66
abbrev aB0:=@Tryz.underlying97
abbrev aB1:=@Tryz.underlying106
abbrev aB2:=@Tryz.underlying199
abbrev aB3:=@Tryz.underlying200
abbrev aB4:=@Tryz.underlying233
abbrev aB5:=@Tryz.underlying340
abbrev aB6:=@Tryz.underlying220
abbrev aB7:=@Tryz.underlying328
abbrev aB8:=@Tryz.underlying156
abbrev aB9:=@Tryz.underlying80
theorem jr:IdTy Tryz.prog 42 5:=⟨Tryz.underlying42,by kernel_rfl,Tryz.underlying5,by kernel_rfl,by rw [kL,fe];kernel_rfl⟩
theorem cH:Row Tryz.prog 24 1:=⟨⟨_,Tryz.underlying24,rfl⟩,by kernel_rfl⟩
theorem iN:Row Tryz.prog 29 3:=⟨⟨_,Tryz.underlying29,rfl⟩,by kernel_rfl⟩
theorem dC:Row Tryz.prog 31 6:=⟨⟨_,Tryz.underlying31,rfl⟩,by kernel_rfl⟩
theorem bO:Row Tryz.prog 42 32:=⟨⟨_,Tryz.underlying42,rfl⟩,by kernel_rfl⟩
theorem YU:Row Tryz.prog 45 38:=⟨⟨_,Tryz.underlying45,rfl⟩,by kernel_rfl⟩
theorem zS:Row Tryz.prog 47 34:=⟨⟨_,Tryz.underlying47,rfl⟩,by kernel_rfl⟩
theorem cO:Row Tryz.prog 49 67:=⟨⟨_,Tryz.underlying49,rfl⟩,by kernel_rfl⟩
theorem oV:Row Tryz.prog 54 3:=⟨⟨_,Tryz.underlying54,rfl⟩,by kernel_rfl⟩
theorem aI:Row Tryz.prog 60 33:=⟨⟨_,Tryz.underlying60,rfl⟩,by kernel_rfl⟩
theorem bI:Row Tryz.prog 63 68:=⟨⟨_,Tryz.underlying63,rfl⟩,by kernel_rfl⟩
theorem tH:Row Tryz.prog 68 5:=⟨⟨_,Tryz.underlying68,rfl⟩,by kernel_rfl⟩
theorem Wf:Row Tryz.prog 84 7:=⟨⟨_,Tryz.underlying84,rfl⟩,by kernel_rfl⟩
theorem Me:Row Tryz.prog 125 33:=⟨⟨_,Tryz.underlying125,rfl⟩,by kernel_rfl⟩
theorem Jz:Row Tryz.prog 128 34:=⟨⟨_,Tryz.underlying128,rfl⟩,by kernel_rfl⟩
theorem uk:Row Tryz.prog 132 4:=⟨⟨_,Tryz.underlying132,rfl⟩,by kernel_rfl⟩
theorem wR:Row Tryz.prog 202 5:=⟨⟨_,Tryz.underlying202,rfl⟩,by kernel_rfl⟩
theorem Kv:Row Tryz.prog 219 4:=⟨⟨_,Tryz.underlying219,rfl⟩,by kernel_rfl⟩
theorem km:Row Tryz.prog 247 33:=⟨⟨_,Tryz.underlying247,rfl⟩,by kernel_rfl⟩
theorem j5:Row Tryz.prog 277 34:=⟨⟨_,Tryz.underlying277,rfl⟩,by kernel_rfl⟩
theorem UM:Row Tryz.prog 291 0:=⟨⟨_,Tryz.underlying291,rfl⟩,by kernel_rfl⟩
theorem bQ:One Tryz.prog 3:=⟨⟨_,Tryz.underlying3,rfl⟩,by kernel_rfl⟩
theorem ez:One Tryz.prog 4:=⟨⟨_,Tryz.underlying4,rfl⟩,by kernel_rfl⟩
theorem x6:One Tryz.prog 5:=⟨⟨_,Tryz.underlying5,rfl⟩,by kernel_rfl⟩
theorem Nr:One Tryz.prog 9:=⟨⟨_,Tryz.underlying9,rfl⟩,by kernel_rfl⟩
theorem iW:One Tryz.prog 22:=⟨⟨_,Tryz.underlying22,rfl⟩,by kernel_rfl⟩
theorem mV:One Tryz.prog 25:=⟨⟨_,Tryz.underlying25,rfl⟩,by kernel_rfl⟩
theorem rV:One Tryz.prog 26:=⟨⟨_,Tryz.underlying26,rfl⟩,by kernel_rfl⟩
theorem mO:One Tryz.prog 27:=⟨⟨_,Tryz.underlying27,rfl⟩,by kernel_rfl⟩
theorem iu:One Tryz.prog 34:=⟨⟨_,Tryz.underlying34,rfl⟩,by kernel_rfl⟩
theorem qs:One Tryz.prog 35:=⟨⟨_,Tryz.underlying35,rfl⟩,by kernel_rfl⟩
theorem zi:One Tryz.prog 38:=⟨⟨_,Tryz.underlying38,rfl⟩,by kernel_rfl⟩
theorem ci:One Tryz.prog 61:=⟨⟨_,Tryz.underlying61,rfl⟩,by kernel_rfl⟩
theorem Eo:One Tryz.prog 64:=⟨⟨_,Tryz.underlying64,rfl⟩,by kernel_rfl⟩
theorem EL:One Tryz.prog 65:=⟨⟨_,Tryz.underlying65,rfl⟩,by kernel_rfl⟩
theorem uQ:One Tryz.prog 66:=⟨⟨_,Tryz.underlying66,rfl⟩,by kernel_rfl⟩
theorem DL:One Tryz.prog 97:=⟨⟨_,Tryz.underlying97,rfl⟩,by kernel_rfl⟩
theorem nc:One Tryz.prog 106:=⟨⟨_,Tryz.underlying106,rfl⟩,by kernel_rfl⟩
theorem BN:One Tryz.prog 199:=⟨⟨_,Tryz.underlying199,rfl⟩,by kernel_rfl⟩
theorem Bo:One Tryz.prog 200:=⟨⟨_,Tryz.underlying200,rfl⟩,by kernel_rfl⟩
theorem yb:One Tryz.prog 233:=⟨⟨_,Tryz.underlying233,rfl⟩,by kernel_rfl⟩
theorem W8:(Tryz.prog.info? 3).map (·.size)=some 1:=by kernel_rfl
theorem ad3:(Tryz.prog.info? 5).map (·.size)=some 1:=by kernel_rfl
theorem ah4:(Tryz.prog.info? 9).map (·.size)=some 1:=by kernel_rfl
theorem Q0:(Tryz.prog.info? 34).map (·.size)=some 1:=by kernel_rfl
theorem ir:(Tryz.prog.info? 49).map (·.size)=some 67:=by kernel_rfl
theorem zu:(Tryz.prog.info? 54).map (·.size)=some 3:=by kernel_rfl
theorem dd:(Tryz.prog.info? 60).map (·.size)=some 33:=by kernel_rfl
theorem RR:(Tryz.prog.info? 61).map (·.size)=some 1:=by kernel_rfl
theorem uO:(Tryz.prog.info? 63).map (·.size)=some 68:=by kernel_rfl
theorem DS:(Tryz.prog.info? 68).map (·.size)=some 5:=by kernel_rfl
theorem Sc:(Tryz.prog.info? 125).map (·.size)=some 33:=by kernel_rfl
theorem TQ:(Tryz.prog.info? 128).map (·.size)=some 34:=by kernel_rfl
theorem TV:(Tryz.prog.info? 132).map (·.size)=some 4:=by kernel_rfl
theorem wx:(Tryz.prog.info? 247).map (·.size)=some 33:=by kernel_rfl
theorem wN:(Tryz.prog.info? 277).map (·.size)=some 34:=by kernel_rfl
theorem Nv:Fld Tryz.prog 24 0 0:=⟨⟨_,_,0,Tryz.underlying24,rfl,by kernel_rfl,rfl⟩⟩
theorem Pp:Fld Tryz.prog 29 0 0:=⟨⟨_,_,0,Tryz.underlying29,rfl,by kernel_rfl,rfl⟩⟩
theorem OF:Fld Tryz.prog 29 1 1:=⟨⟨_,_,0,Tryz.underlying29,rfl,by kernel_rfl,rfl⟩⟩
theorem NP:Fld Tryz.prog 29 2 2:=⟨⟨_,_,0,Tryz.underlying29,rfl,by kernel_rfl,rfl⟩⟩
theorem Ql:Fld Tryz.prog 31 0 0:=⟨⟨_,_,0,Tryz.underlying31,rfl,by kernel_rfl,rfl⟩⟩
theorem NI:Fld Tryz.prog 31 1 1:=⟨⟨_,_,0,Tryz.underlying31,rfl,by kernel_rfl,rfl⟩⟩
theorem MD:Fld Tryz.prog 31 2 2:=⟨⟨_,_,0,Tryz.underlying31,rfl,by kernel_rfl,rfl⟩⟩
theorem Qj:Fld Tryz.prog 31 3 3:=⟨⟨_,_,2,Tryz.underlying31,rfl,by kernel_rfl,rfl⟩⟩
theorem Pd:Fld Tryz.prog 45 0 0:=⟨⟨_,_,0,Tryz.underlying45,rfl,by kernel_rfl,rfl⟩⟩
theorem Qb:Fld Tryz.prog 45 3 3:=⟨⟨_,_,0,Tryz.underlying45,rfl,by kernel_rfl,rfl⟩⟩
theorem M0:Fld Tryz.prog 47 0 0:=⟨⟨_,_,0,Tryz.underlying47,rfl,by kernel_rfl,rfl⟩⟩
theorem ME:Fld Tryz.prog 47 1 1:=⟨⟨_,_,31,Tryz.underlying47,rfl,by kernel_rfl,rfl⟩⟩
theorem Nf:Fld Tryz.prog 47 2 33:=⟨⟨_,_,0,Tryz.underlying47,rfl,by kernel_rfl,rfl⟩⟩
theorem OR:Fld Tryz.prog 49 0 0:=⟨⟨_,_,31,Tryz.underlying49,rfl,by kernel_rfl,rfl⟩⟩
theorem M7:Fld Tryz.prog 49 1 32:=⟨⟨_,_,33,Tryz.underlying49,rfl,by kernel_rfl,rfl⟩⟩
theorem wT:Fld Tryz.prog 49 2 66:=⟨⟨_,_,0,Tryz.underlying49,rfl,by kernel_rfl,rfl⟩⟩
theorem NA:Fld Tryz.prog 54 0 0:=⟨⟨_,_,0,Tryz.underlying54,rfl,by kernel_rfl,rfl⟩⟩
theorem NT:Fld Tryz.prog 54 1 1:=⟨⟨_,_,0,Tryz.underlying54,rfl,by kernel_rfl,rfl⟩⟩
theorem xQ:Fld Tryz.prog 54 2 2:=⟨⟨_,_,0,Tryz.underlying54,rfl,by kernel_rfl,rfl⟩⟩
theorem gS:Fld Tryz.prog 60 0 0:=⟨⟨_,_,0,Tryz.underlying60,rfl,by kernel_rfl,rfl⟩⟩
theorem NW:Fld Tryz.prog 60 1 1:=⟨⟨_,_,31,Tryz.underlying60,rfl,by kernel_rfl,rfl⟩⟩
theorem gn:Fld Tryz.prog 63 0 0:=⟨⟨_,_,32,Tryz.underlying63,rfl,by kernel_rfl,rfl⟩⟩
theorem rk:Fld Tryz.prog 63 1 33:=⟨⟨_,_,32,Tryz.underlying63,rfl,by kernel_rfl,rfl⟩⟩
theorem fU:Fld Tryz.prog 63 2 66:=⟨⟨_,_,0,Tryz.underlying63,rfl,by kernel_rfl,rfl⟩⟩
theorem oA:Fld Tryz.prog 63 3 67:=⟨⟨_,_,0,Tryz.underlying63,rfl,by kernel_rfl,rfl⟩⟩
theorem C8:Fld Tryz.prog 68 0 0:=⟨⟨_,_,0,Tryz.underlying68,rfl,by kernel_rfl,rfl⟩⟩
theorem O7:Fld Tryz.prog 68 1 1:=⟨⟨_,_,0,Tryz.underlying68,rfl,by kernel_rfl,rfl⟩⟩
theorem xd:Fld Tryz.prog 68 2 2:=⟨⟨_,_,0,Tryz.underlying68,rfl,by kernel_rfl,rfl⟩⟩
theorem wX:Fld Tryz.prog 68 3 3:=⟨⟨_,_,0,Tryz.underlying68,rfl,by kernel_rfl,rfl⟩⟩
theorem yx:Fld Tryz.prog 68 4 4:=⟨⟨_,_,0,Tryz.underlying68,rfl,by kernel_rfl,rfl⟩⟩
theorem Nm:Fld Tryz.prog 84 0 0:=⟨⟨_,_,5,Tryz.underlying84,rfl,by kernel_rfl,rfl⟩⟩
theorem Oo:Fld Tryz.prog 84 1 6:=⟨⟨_,_,0,Tryz.underlying84,rfl,by kernel_rfl,rfl⟩⟩
theorem Hm:Fld Tryz.prog 125 0 0:=⟨⟨_,_,31,Tryz.underlying125,rfl,by kernel_rfl,rfl⟩⟩
theorem Mc:Fld Tryz.prog 125 1 32:=⟨⟨_,_,0,Tryz.underlying125,rfl,by kernel_rfl,rfl⟩⟩
theorem Il:Fld Tryz.prog 128 0 0:=⟨⟨_,_,31,Tryz.underlying128,rfl,by kernel_rfl,rfl⟩⟩
theorem Ku:Fld Tryz.prog 128 1 32:=⟨⟨_,_,0,Tryz.underlying128,rfl,by kernel_rfl,rfl⟩⟩
theorem JX:Fld Tryz.prog 128 2 33:=⟨⟨_,_,0,Tryz.underlying128,rfl,by kernel_rfl,rfl⟩⟩
theorem LW:Fld Tryz.prog 132 0 0:=⟨⟨_,_,0,Tryz.underlying132,rfl,by kernel_rfl,rfl⟩⟩
theorem Lj:Fld Tryz.prog 132 1 1:=⟨⟨_,_,0,Tryz.underlying132,rfl,by kernel_rfl,rfl⟩⟩
theorem H5:Fld Tryz.prog 132 2 2:=⟨⟨_,_,0,Tryz.underlying132,rfl,by kernel_rfl,rfl⟩⟩
theorem HJ:Fld Tryz.prog 132 3 3:=⟨⟨_,_,0,Tryz.underlying132,rfl,by kernel_rfl,rfl⟩⟩
theorem J9:Fld Tryz.prog 202 0 0:=⟨⟨_,_,0,Tryz.underlying202,rfl,by kernel_rfl,rfl⟩⟩
theorem KK:Fld Tryz.prog 202 1 1:=⟨⟨_,_,0,Tryz.underlying202,rfl,by kernel_rfl,rfl⟩⟩
theorem Lo:Fld Tryz.prog 202 2 2:=⟨⟨_,_,0,Tryz.underlying202,rfl,by kernel_rfl,rfl⟩⟩
theorem KJ:Fld Tryz.prog 202 3 3:=⟨⟨_,_,0,Tryz.underlying202,rfl,by kernel_rfl,rfl⟩⟩
theorem Iz:Fld Tryz.prog 202 4 4:=⟨⟨_,_,0,Tryz.underlying202,rfl,by kernel_rfl,rfl⟩⟩
theorem IM:Fld Tryz.prog 218 0 0:=⟨⟨_,_,31,Tryz.underlying218,rfl,by kernel_rfl,rfl⟩⟩
theorem L7:Fld Tryz.prog 218 1 32:=⟨⟨_,_,33,Tryz.underlying218,rfl,by kernel_rfl,rfl⟩⟩
theorem HV:Fld Tryz.prog 245 0 0:=⟨⟨_,_,31,Tryz.underlying245,rfl,by kernel_rfl,rfl⟩⟩
theorem Le:Fld Tryz.prog 247 1 32:=⟨⟨_,_,0,Tryz.underlying247,rfl,by kernel_rfl,rfl⟩⟩
theorem Hk:Fld Tryz.prog 277 1 32:=⟨⟨_,_,0,Tryz.underlying277,rfl,by kernel_rfl,rfl⟩⟩
theorem JT:Fld Tryz.prog 277 2 33:=⟨⟨_,_,0,Tryz.underlying277,rfl,by kernel_rfl,rfl⟩⟩
theorem XY:EqV Tryz.prog 2 42 (32*1) (λxs=>xs.length=32*1/\∀ i,i<32->∃ n,(xs.drop (i*1)).take 1=[Value.int .u8 n]) Be:=EqV.arr (n:=32) (EqV.int .u8 Tryz.underlying5 (by kernel_rfl)) Tryz.underlying42 (by kernel_rfl)
theorem eqE (x y:eA):Zm Tryz.prog 3 47 34 (eR x) (eR y):=⟨_,EqV.struct' [(1,(λxs=>∃ n,xs=[Value.int .i64 n])),(32*1,(λxs=>xs.length=32*1/\∀ i,i<32->∃ n,(xs.drop (i*1)).take 1=[Value.int .u8 n])),(1,(λxs=>∃ n,xs=[Value.int .i64 n]))] Tryz.underlying47 (by kernel_rfl) (by kernel_rfl) ⟨by decide,⟨Ex,(EqV.int .i64 Tryz.underlying3 (by kernel_rfl)).up⟩,by decide,⟨Be,XY⟩,by decide,⟨Ex,(EqV.int .i64 Tryz.underlying3 (by kernel_rfl)).up⟩,trivial⟩ ⟨rfl,rfl,rfl,rfl⟩,⟨by rw [ar2,eU],⟨_,D5 _⟩,(by show _/\_;unfold lP;dsimp only;rw [Dr];exact pw _ _),⟨_,ER _⟩,trivial⟩,⟨by rw [ar2,eU],⟨_,D5 _⟩,(by show _/\_;unfold lP;dsimp only;rw [Dr];exact pw _ _),⟨_,ER _⟩,trivial⟩⟩
theorem ae9:Stt Tryz.prog 49 tgZ:=⟨⟨_,Tryz.underlying49,rfl,λi f hf=>by
 match i,hf with
 |0,hf=>cases hf;exact ⟨_,rfl,by kernel_rfl,rfl⟩
 |1,hf=>cases hf;exact ⟨_,rfl,by kernel_rfl,rfl⟩
 |2,hf=>cases hf;exact ⟨_,rfl,by kernel_rfl,rfl⟩
 |i+3,hf=>simp at hf⟩,by kernel_rfl⟩
theorem eqG (x y:Tg):Zm Tryz.prog 4 49 67 (aV x) (aV y):=by
 obtain ⟨V,E9,h1,h2⟩:=eqE x.2.1 y.2.1
 exact ⟨_,EqV.struct' [(32*1,(λxs=>xs.length=32*1/\∀ i,i<32->∃ n,(xs.drop (i*1)).take 1=[Value.int .u8 n])),(34,V),(1,(λxs=>∃ n,xs=[Value.int .i64 n]))] Tryz.underlying49 (by kernel_rfl) (by kernel_rfl) ⟨by decide,⟨Be,XY.up⟩,by decide,⟨Be,E9⟩,by decide,⟨Ex,(EqV.int .i64 Tryz.underlying3 (by kernel_rfl)).up.up⟩,trivial⟩ ⟨rfl,rfl,rfl,rfl⟩,⟨by rw [ar2,aN],(by show _/\_;unfold lP;dsimp only;rw [An];exact pw _ _),(by show V (lP _ _ _);unfold lP;dsimp only;rw [yJ];exact h1),⟨_,Dm _⟩,trivial⟩,⟨by rw [ar2,aN],(by show _/\_;unfold lP;dsimp only;rw [An];exact pw _ _),(by show V (lP _ _ _);unfold lP;dsimp only;rw [yJ];exact h2),⟨_,Dm _⟩,trivial⟩⟩
theorem Wo:Stt Tryz.prog 202 hoZ:=⟨⟨_,Tryz.underlying202,rfl,λi f hf=>by
 match i,hf with
 |0,hf=>cases hf;exact ⟨_,rfl,by kernel_rfl,rfl⟩
 |1,hf=>cases hf;exact ⟨_,rfl,by kernel_rfl,rfl⟩
 |2,hf=>cases hf;exact ⟨_,rfl,by kernel_rfl,rfl⟩
 |3,hf=>cases hf;exact ⟨_,rfl,by kernel_rfl,rfl⟩
 |4,hf=>cases hf;exact ⟨_,rfl,by kernel_rfl,rfl⟩
 |i+5,hf=>simp at hf⟩,by kernel_rfl⟩
theorem YE:Stt Tryz.prog 247 ZD:=⟨⟨_,Tryz.underlying247,rfl,λi f hf=>by
 match i,hf with
 |0,hf=>cases hf;exact ⟨_,rfl,by kernel_rfl,rfl⟩
 |1,hf=>cases hf;exact ⟨_,rfl,by kernel_rfl,rfl⟩
 |i+2,hf=>simp at hf⟩,by kernel_rfl⟩
theorem YC:Stt Tryz.prog 277 ZS:=⟨⟨_,Tryz.underlying277,rfl,λi f hf=>by
 match i,hf with
 |0,hf=>cases hf;exact ⟨_,rfl,by kernel_rfl,rfl⟩
 |1,hf=>cases hf;exact ⟨_,rfl,by kernel_rfl,rfl⟩
 |2,hf=>cases hf;exact ⟨_,rfl,by kernel_rfl,rfl⟩
 |i+3,hf=>simp at hf⟩,by kernel_rfl⟩
theorem QH:Stt Tryz.prog 245 nmZ:=⟨⟨_,Tryz.underlying245,rfl,λi f hf=>by
 match i,hf with
 |0,hf=>cases hf;exact ⟨_,rfl,by kernel_rfl,rfl⟩
 |i+1,hf=>simp at hf⟩,by kernel_rfl⟩
theorem QS:Stt Tryz.prog 29 mlZ:=⟨⟨_,Tryz.underlying29,rfl,λi f hf=>by
 match i,hf with
 |0,hf=>cases hf;exact ⟨_,rfl,by kernel_rfl,rfl⟩
 |1,hf=>cases hf;exact ⟨_,rfl,by kernel_rfl,rfl⟩
 |2,hf=>cases hf;exact ⟨_,rfl,by kernel_rfl,rfl⟩
 |i+3,hf=>simp at hf⟩,by kernel_rfl⟩
theorem ag8:EqV Tryz.prog 2 42 (32*1) (λxs=>xs.length=32*1/\∀ i,i<32->∃ n,(xs.drop (i*1)).take 1=[Value.int .u8 n]) Be:=EqV.arr (n:=32) (EqV.int .u8 Tryz.underlying5 (by kernel_rfl)) Tryz.underlying42 (by kernel_rfl)
theorem Bb (x y:Mb):Zm Tryz.prog 3 60 33 (ar x) (ar y):=⟨_,EqV.struct' [(1,(λxs=>∃ n,xs=[Value.int .i64 n])),(32*1,(λxs=>xs.length=32*1/\∀ i,i<32->∃ n,(xs.drop (i*1)).take 1=[Value.int .u8 n]))] Tryz.underlying60 (by kernel_rfl) (by kernel_rfl) ⟨by decide,⟨Ex,(EqV.int .i64 Tryz.underlying3 (by kernel_rfl)).up⟩,by decide,⟨Be,ag8⟩,trivial⟩ ⟨rfl,rfl,rfl⟩,⟨by rw [ar2,ae],⟨_,zK _⟩,(by show _/\_;unfold lP;dsimp only;rw [yI];exact pw _ _),trivial⟩,⟨by rw [ar2,ae],⟨_,zK _⟩,(by show _/\_;unfold lP;dsimp only;rw [yI];exact pw _ _),trivial⟩⟩
theorem sO:Stt Tryz.prog 60 mbZ:=⟨⟨_,Tryz.underlying60,rfl,λi f hf=>by
 match i,hf with
 |0,hf=>cases hf;exact ⟨_,rfl,by kernel_rfl,rfl⟩
 |1,hf=>cases hf;exact ⟨_,rfl,by kernel_rfl,rfl⟩
 |i+2,hf=>simp at hf⟩,by kernel_rfl⟩
theorem JD:Stt Tryz.prog 63 ndZ:=⟨⟨_,Tryz.underlying63,rfl,λi f hf=>by
 match i,hf with
 |0,hf=>cases hf;exact ⟨_,rfl,by kernel_rfl,rfl⟩
 |1,hf=>cases hf;exact ⟨_,rfl,by kernel_rfl,rfl⟩
 |2,hf=>cases hf;exact ⟨_,rfl,by kernel_rfl,rfl⟩
 |3,hf=>cases hf;exact ⟨_,rfl,by kernel_rfl,rfl⟩
 |i+4,hf=>simp at hf⟩,by kernel_rfl⟩
theorem Xt:Stt Tryz.prog 24 ovZ:=⟨⟨_,Tryz.underlying24,rfl,λi f hf=>by
 match i,hf with
 |0,hf=>cases hf;exact ⟨_,rfl,by kernel_rfl,rfl⟩
 |i+1,hf=>simp at hf⟩,by kernel_rfl⟩
theorem YV:Stt Tryz.prog 291 []:=⟨⟨_,Tryz.underlying291,rfl,λi f hf=>by
 match i,hf with
 |i+0,hf=>simp at hf⟩,by kernel_rfl⟩
theorem JN:Stt Tryz.prog 45 acZ:=⟨⟨_,Tryz.underlying45,rfl,λi f hf=>by
 match i,hf with
 |0,hf=>cases hf;exact ⟨_,rfl,by kernel_rfl,rfl⟩
 |1,hf=>cases hf;exact ⟨_,rfl,by kernel_rfl,rfl⟩
 |2,hf=>cases hf;exact ⟨_,rfl,by kernel_rfl,rfl⟩
 |3,hf=>cases hf;exact ⟨_,rfl,by kernel_rfl,rfl⟩
 |4,hf=>cases hf;exact ⟨_,rfl,by kernel_rfl,rfl⟩
 |5,hf=>cases hf;exact ⟨_,rfl,by kernel_rfl,rfl⟩
 |6,hf=>cases hf;exact ⟨_,rfl,by kernel_rfl,rfl⟩
 |i+7,hf=>simp at hf⟩,by kernel_rfl⟩
theorem RF:Stt Tryz.prog 31 wdZ:=⟨⟨_,Tryz.underlying31,rfl,λi f hf=>by
 match i,hf with
 |0,hf=>cases hf;exact ⟨_,rfl,by kernel_rfl,rfl⟩
 |1,hf=>cases hf;exact ⟨_,rfl,by kernel_rfl,rfl⟩
 |2,hf=>cases hf;exact ⟨_,rfl,by kernel_rfl,rfl⟩
 |3,hf=>cases hf;exact ⟨_,rfl,by kernel_rfl,rfl⟩
 |i+4,hf=>simp at hf⟩,by kernel_rfl⟩
theorem XI:Stt Tryz.prog 84 crZ:=⟨⟨_,Tryz.underlying84,rfl,λi f hf=>by
 match i,hf with
 |0,hf=>cases hf;exact ⟨_,rfl,by kernel_rfl,rfl⟩
 |1,hf=>cases hf;exact ⟨_,rfl,by kernel_rfl,rfl⟩
 |i+2,hf=>simp at hf⟩,by kernel_rfl⟩
theorem pc:(Tryz.prog.info? 5).map (·.size)=some 1:=by kernel_rfl
theorem D0:(Tryz.prog.info? 216).map (·.size)=some 1:=by kernel_rfl
theorem Y4:(Tryz.prog.info? 3).bind (·.zero)=some (.int .i64 0):=by kernel_rfl
theorem zD:(Tryz.prog.info? 4).bind (·.zero)=some (.bool false):=by kernel_rfl
theorem CV:(Tryz.prog.info? 24).bind (·.zero)=some (.agg #[aq]):=by kernel_rfl
theorem U5:(Tryz.prog.info? 29).bind (·.zero)=some (.agg (#[aq,.int .i64 0,.int .i64 0])):=by kernel_rfl
theorem py:(Tryz.prog.info? 31).bind (·.zero)=some (.agg (cY aq aq aq aq 0 0)):=by kernel_rfl
theorem Im:(Tryz.prog.info? 34).bind (·.zero)=some (.slice none 0 0):=by kernel_rfl
theorem IP:(Tryz.prog.info? 35).bind (·.zero)=some (.int .i64 0):=by kernel_rfl
theorem I5:(Tryz.prog.info? 38).bind (·.zero)=some (.slice none 0 0):=by kernel_rfl
theorem Cy:(Tryz.prog.info? 42).bind (·.zero)=some (kL 0#256):=jr.zero
theorem nz:(Tryz.prog.info? 49).bind (·.zero)=some (.agg (aV cr)):=by rw [M3];kernel_rfl
theorem Cp:(Tryz.prog.info? 54).bind (·.zero)=some (.agg (gx 0 ByteArray.empty aq)):=by kernel_rfl
theorem cQ:(Tryz.prog.info? 60).bind (·.zero)=some (.agg (ar aS)):=by rw [xX];kernel_rfl
theorem xi:(Tryz.prog.info? 61).bind (·.zero)=some (.slice none 0 0):=by kernel_rfl
theorem pK:(Tryz.prog.info? 63).bind (·.zero)=some (.agg (aR aS aS aq aq)):=by rw [O5];kernel_rfl
theorem HA:(Tryz.prog.info? 68).bind (·.zero)=some (.agg (cB 0 0 aq aq aq)):=by kernel_rfl
theorem U9:(Tryz.prog.info? 78).bind (·.zero)=some (.nilFunc):=by kernel_rfl
theorem VB:(Tryz.prog.info? 84).bind (·.zero)=some (.agg (qP aq aq aq aq 0 0 aq)):=by kernel_rfl
theorem Vp:(Tryz.prog.info? 97).bind (·.zero)=some (.pointer none):=by kernel_rfl
theorem Pm:(Tryz.prog.info? 106).bind (·.zero)=some (.slice none 0 0):=by kernel_rfl
theorem Of:(Tryz.prog.info? 125).bind (·.zero)=some (.agg (dq iI)):=by rw [DI];kernel_rfl
theorem OH:(Tryz.prog.info? 128).bind (·.zero)=some (.agg (dh ij)):=by rw [Dp];kernel_rfl
theorem Dj:(Tryz.prog.info? 132).bind (·.zero)=some (.agg (gl Ba)):=by kernel_rfl
theorem Ei:(Tryz.prog.info? 202).bind (·.zero)=some (.agg (cB 0 0 aq aq aq)):=by kernel_rfl
theorem Dx:(Tryz.prog.info? 219).bind (·.zero)=some (.agg #[.nilFunc,.nilFunc,.nilFunc,.nilFunc]):=by kernel_rfl
theorem Qq:(Tryz.prog.info? 233).bind (·.zero)=some (.map none):=by kernel_rfl
theorem NQ:(Tryz.prog.info? 247).bind (·.zero)=some (.agg (dq iI)):=by rw [DI];kernel_rfl
theorem OA:(Tryz.prog.info? 277).bind (·.zero)=some (.agg (dh ij)):=by rw [Dp];kernel_rfl
theorem Dv:(Tryz.prog.info? 291).bind (·.zero)=some (.agg #[]):=by kernel_rfl
theorem cA (n:Nat) (h:(match Tryz.prog.funcs[n]? with|some fn => !fn.body.isNone && !(fn.name == "runtime.NumGoroutine")|none=>false)=true):Fnc Tryz.prog n:=by
 cases hf:Tryz.prog.funcs[n]? with
 |none=>rw [hf] at h;simp at h
 |some fn=>rw [hf] at h;simp only [aq5,Bool.not_eq_true'] at h;exact ⟨⟨fn,hf,h.1,h.2⟩⟩
theorem Vu:Elm Tryz.prog 3 1 8:=gq (by kernel_rfl) (by decide)
theorem YP:Elm Tryz.prog 9 1 16:=gq (by kernel_rfl) (by decide)
theorem WU:Elm Tryz.prog 34 1 24:=gq (by kernel_rfl) (by decide)
theorem yC:Elm Tryz.prog 49 67 88:=gq (by kernel_rfl) (by decide)
theorem Q9:Elm Tryz.prog 54 3 48:=gq (by kernel_rfl) (by decide)
theorem im:Elm Tryz.prog 60 33 40:=gq (by kernel_rfl) (by decide)
theorem Zi:Elm Tryz.prog 61 1 24:=gq (by kernel_rfl) (by decide)
theorem Rq:Elm Tryz.prog 63 68 128:=gq (by kernel_rfl) (by decide)
theorem QD:Elm Tryz.prog 68 5 88:=gq (by kernel_rfl) (by decide)
theorem HT:Elm Tryz.prog 125 33 40:=gq (by kernel_rfl) (by decide)
theorem Hg:Elm Tryz.prog 128 34 48:=gq (by kernel_rfl) (by decide)
theorem Lp:Elm Tryz.prog 132 4 40:=gq (by kernel_rfl) (by decide)
theorem IS:Elm Tryz.prog 247 33 40:=gq (by kernel_rfl) (by decide)
theorem JV:Elm Tryz.prog 277 34 48:=gq (by kernel_rfl) (by decide)
theorem U6:Fnc Tryz.prog 5:=cA 5 (by kernel_rfl)
theorem IW:Fnc Tryz.prog 6:=cA 6 (by kernel_rfl)
theorem S8:Fnc Tryz.prog 7:=cA 7 (by kernel_rfl)
theorem XS:Fnc Tryz.prog 8:=cA 8 (by kernel_rfl)
theorem TK:Fnc Tryz.prog 9:=cA 9 (by kernel_rfl)
theorem Xd:Fnc Tryz.prog 10:=cA 10 (by kernel_rfl)
theorem Kz:Fnc Tryz.prog 12:=cA 12 (by kernel_rfl)
theorem QI:Fnc Tryz.prog 17:=cA 17 (by kernel_rfl)
theorem Dq:Fnc Tryz.prog 18:=cA 18 (by kernel_rfl)
theorem RM:Fnc Tryz.prog 19:=cA 19 (by kernel_rfl)
theorem Y5:Fnc Tryz.prog 20:=cA 20 (by kernel_rfl)
theorem YO:Fnc Tryz.prog 21:=cA 21 (by kernel_rfl)
theorem XN:Fnc Tryz.prog 22:=cA 22 (by kernel_rfl)
theorem YN:Fnc Tryz.prog 23:=cA 23 (by kernel_rfl)
theorem Zg:Fnc Tryz.prog 24:=cA 24 (by kernel_rfl)
theorem Yk:Fnc Tryz.prog 25:=cA 25 (by kernel_rfl)
theorem XP:Fnc Tryz.prog 26:=cA 26 (by kernel_rfl)
theorem Xr:Fnc Tryz.prog 27:=cA 27 (by kernel_rfl)
theorem YM:Fnc Tryz.prog 28:=cA 28 (by kernel_rfl)
theorem Da:Fnc Tryz.prog 29:=cA 29 (by kernel_rfl)
theorem zz:Fnc Tryz.prog 32:=cA 32 (by kernel_rfl)
theorem rZ:Fnc Tryz.prog 33:=cA 33 (by kernel_rfl)
theorem YT:Fnc Tryz.prog 34:=cA 34 (by kernel_rfl)
theorem Q2:Fnc Tryz.prog 35:=cA 35 (by kernel_rfl)
theorem RE:Fnc Tryz.prog 36:=cA 36 (by kernel_rfl)
theorem L0:Fnc Tryz.prog 37:=cA 37 (by kernel_rfl)
theorem XZ:Fnc Tryz.prog 38:=cA 38 (by kernel_rfl)
theorem La:Fnc Tryz.prog 39:=cA 39 (by kernel_rfl)
theorem Wu:Fnc Tryz.prog 40:=cA 40 (by kernel_rfl)
theorem R2:Fnc Tryz.prog 42:=cA 42 (by kernel_rfl)
theorem Ab:Fnc Tryz.prog 43:=cA 43 (by kernel_rfl)
theorem X9:Fnc Tryz.prog 44:=cA 44 (by kernel_rfl)
theorem RC:Fnc Tryz.prog 45:=cA 45 (by kernel_rfl)
theorem Yw:Fnc Tryz.prog 46:=cA 46 (by kernel_rfl)
theorem Yy:Fnc Tryz.prog 50:=cA 50 (by kernel_rfl)
theorem Xa:Fnc Tryz.prog 51:=cA 51 (by kernel_rfl)
theorem RP:Fnc Tryz.prog 62:=cA 62 (by kernel_rfl)
theorem vj:Fnc Tryz.prog 63:=cA 63 (by kernel_rfl)
theorem WZ:Fnc Tryz.prog 64:=cA 64 (by kernel_rfl)
theorem Yz:Fnc Tryz.prog 65:=cA 65 (by kernel_rfl)
theorem YA:Fnc Tryz.prog 66:=cA 66 (by kernel_rfl)
theorem Zc:Fnc Tryz.prog 67:=cA 67 (by kernel_rfl)
theorem Ra:Fnc Tryz.prog 68:=cA 68 (by kernel_rfl)
theorem QU:Fnc Tryz.prog 69:=cA 69 (by kernel_rfl)
theorem WH:Fnc Tryz.prog 70:=cA 70 (by kernel_rfl)
theorem Jj:Fnc Tryz.prog 71:=cA 71 (by kernel_rfl)
theorem QM:Fnc Tryz.prog 72:=cA 72 (by kernel_rfl)
theorem Rw:Fnc Tryz.prog 73:=cA 73 (by kernel_rfl)
theorem Zd:Fnc Tryz.prog 74:=cA 74 (by kernel_rfl)
theorem QX:Fnc Tryz.prog 75:=cA 75 (by kernel_rfl)
theorem Xk:Fnc Tryz.prog 77:=cA 77 (by kernel_rfl)
theorem QL:Fnc Tryz.prog 78:=cA 78 (by kernel_rfl)
theorem sM:Fnc Tryz.prog 79:=cA 79 (by kernel_rfl)
theorem Ro:Fnc Tryz.prog 80:=cA 80 (by kernel_rfl)
theorem sA:Fnc Tryz.prog 81:=cA 81 (by kernel_rfl)
theorem Q7:Fnc Tryz.prog 82:=cA 82 (by kernel_rfl)
theorem XQ:Fnc Tryz.prog 83:=cA 83 (by kernel_rfl)
theorem Wl:Fnc Tryz.prog 84:=cA 84 (by kernel_rfl)
theorem Ru:Fnc Tryz.prog 85:=cA 85 (by kernel_rfl)
theorem Zb:Fnc Tryz.prog 86:=cA 86 (by kernel_rfl)
theorem QK:Fnc Tryz.prog 87:=cA 87 (by kernel_rfl)
theorem Do:Fnc Tryz.prog 88:=cA 88 (by kernel_rfl)
theorem D1:Fnc Tryz.prog 89:=cA 89 (by kernel_rfl)
theorem XT:Fnc Tryz.prog 90:=cA 90 (by kernel_rfl)
theorem vd:Fnc Tryz.prog 91:=cA 91 (by kernel_rfl)
theorem Wh:Fnc Tryz.prog 92:=cA 92 (by kernel_rfl)
theorem WP:Fnc Tryz.prog 93:=cA 93 (by kernel_rfl)
theorem Zv:Fnc Tryz.prog 94:=cA 94 (by kernel_rfl)
theorem Vg:Fnc Tryz.prog 104:=cA 104 (by kernel_rfl)
theorem VI:Fnc Tryz.prog 105:=cA 105 (by kernel_rfl)
theorem UU:Fnc Tryz.prog 106:=cA 106 (by kernel_rfl)
theorem Tb:Fnc Tryz.prog 125:=cA 125 (by kernel_rfl)
theorem TB:Fnc Tryz.prog 126:=cA 126 (by kernel_rfl)
theorem UO:Fnc Tryz.prog 127:=cA 127 (by kernel_rfl)
theorem B8:Fnc Tryz.prog 129:=cA 129 (by kernel_rfl)
theorem pW:Fnc Tryz.prog 130:=cA 130 (by kernel_rfl)
theorem Sq:Fnc Tryz.prog 131:=cA 131 (by kernel_rfl)
theorem SU:Fnc Tryz.prog 132:=cA 132 (by kernel_rfl)
theorem T6:Fnc Tryz.prog 133:=cA 133 (by kernel_rfl)
theorem IK:Fnc Tryz.prog 134:=cA 134 (by kernel_rfl)
theorem ny:Fnc Tryz.prog 135:=cA 135 (by kernel_rfl)
theorem IB:Fnc Tryz.prog 136:=cA 136 (by kernel_rfl)
theorem Ur:Fnc Tryz.prog 137:=cA 137 (by kernel_rfl)
theorem VA:Fnc Tryz.prog 138:=cA 138 (by kernel_rfl)
theorem Jf:Fnc Tryz.prog 139:=cA 139 (by kernel_rfl)
theorem Ud:Fnc Tryz.prog 140:=cA 140 (by kernel_rfl)
theorem Sz:Fnc Tryz.prog 141:=cA 141 (by kernel_rfl)
theorem Sn:Fnc Tryz.prog 142:=cA 142 (by kernel_rfl)
theorem UA:Fnc Tryz.prog 143:=cA 143 (by kernel_rfl)
theorem VP:Fnc Tryz.prog 144:=cA 144 (by kernel_rfl)
theorem Sf:Fnc Tryz.prog 145:=cA 145 (by kernel_rfl)
theorem R7:Fnc Tryz.prog 148:=cA 148 (by kernel_rfl)
theorem SN:Fnc Tryz.prog 155:=cA 155 (by kernel_rfl)
theorem T8:Fnc Tryz.prog 162:=cA 162 (by kernel_rfl)
theorem CF:Fnc Tryz.prog 166:=cA 166 (by kernel_rfl)
theorem KA:Fnc Tryz.prog 167:=cA 167 (by kernel_rfl)
theorem Te:Fnc Tryz.prog 170:=cA 170 (by kernel_rfl)
theorem pF:Fnc Tryz.prog 171:=cA 171 (by kernel_rfl)
theorem Sj:Fnc Tryz.prog 197:=cA 197 (by kernel_rfl)
theorem UI:Fnc Tryz.prog 198:=cA 198 (by kernel_rfl)
theorem HZ:Fnc Tryz.prog 199:=cA 199 (by kernel_rfl)
theorem S9:Fnc Tryz.prog 200:=cA 200 (by kernel_rfl)
theorem Tr:Fnc Tryz.prog 201:=cA 201 (by kernel_rfl)
theorem Uo:Fnc Tryz.prog 202:=cA 202 (by kernel_rfl)
theorem KH:Fnc Tryz.prog 203:=cA 203 (by kernel_rfl)
theorem ki:Fnc Tryz.prog 204:=cA 204 (by kernel_rfl)
theorem CI:Fnc Tryz.prog 205:=cA 205 (by kernel_rfl)
theorem Io:Fnc Tryz.prog 206:=cA 206 (by kernel_rfl)
theorem Tf:Fnc Tryz.prog 207:=cA 207 (by kernel_rfl)
theorem TA:Fnc Tryz.prog 208:=cA 208 (by kernel_rfl)
theorem JM:Fnc Tryz.prog 209:=cA 209 (by kernel_rfl)
theorem TZ:Fnc Tryz.prog 214:=cA 214 (by kernel_rfl)
theorem Lm:Fnc Tryz.prog 216:=cA 216 (by kernel_rfl)
theorem Sp:Fnc Tryz.prog 220:=cA 220 (by kernel_rfl)
theorem Js:Fnc Tryz.prog 221:=cA 221 (by kernel_rfl)
theorem JR:Fnc Tryz.prog 222:=cA 222 (by kernel_rfl)
theorem SZ:Fnc Tryz.prog 224:=cA 224 (by kernel_rfl)
theorem Vk:Fnc Tryz.prog 225:=cA 225 (by kernel_rfl)
theorem Lc:Fnc Tryz.prog 228:=cA 228 (by kernel_rfl)
theorem S0:Fnc Tryz.prog 241:=cA 241 (by kernel_rfl)
theorem LS:Fnc Tryz.prog 242:=cA 242 (by kernel_rfl)
theorem Bk:Fnc Tryz.prog 243:=cA 243 (by kernel_rfl)
theorem VK:Fnc Tryz.prog 244:=cA 244 (by kernel_rfl)
theorem UH:Fnc Tryz.prog 245:=cA 245 (by kernel_rfl)
theorem SM:Fnc Tryz.prog 246:=cA 246 (by kernel_rfl)
theorem Bi:Fnc Tryz.prog 258:=cA 258 (by kernel_rfl)
theorem xh:Fnc Tryz.prog 269:=cA 269 (by kernel_rfl)
theorem S4:Fnc Tryz.prog 270:=cA 270 (by kernel_rfl)
theorem Bx:Fnc Tryz.prog 271:=cA 271 (by kernel_rfl)
theorem JW:Fnc Tryz.prog 272:=cA 272 (by kernel_rfl)
theorem H6:Fnc Tryz.prog 273:=cA 273 (by kernel_rfl)
theorem Vt:Fnc Tryz.prog 274:=cA 274 (by kernel_rfl)
theorem Vc:Fnc Tryz.prog 275:=cA 275 (by kernel_rfl)
theorem Sa:Fnc Tryz.prog 284:=cA 284 (by kernel_rfl)
theorem TW:Fnc Tryz.prog 285:=cA 285 (by kernel_rfl)
theorem S7:Fnc Tryz.prog 299:=cA 299 (by kernel_rfl)
theorem VJ:Fnc Tryz.prog 300:=cA 300 (by kernel_rfl)
theorem Vr:Fnc Tryz.prog 310:=cA 310 (by kernel_rfl)
theorem UD:Fnc Tryz.prog 311:=cA 311 (by kernel_rfl)
theorem CE:Fnc Tryz.prog 416:=cA 416 (by kernel_rfl)
def FT9:List (Nat × Nat × Nat):=[(24,0,0),(29,0,0),(29,1,1),(29,2,2),(31,0,0),(31,1,1),(31,2,2),(31,3,3),(45,0,0),(45,3,3),(47,0,0),(47,1,1),(47,2,33),(49,0,0),(49,1,32),(49,2,66),(54,0,0),(54,1,1),(54,2,2),(60,0,0),(60,1,1),(63,0,0),(63,1,33),(63,2,66),(63,3,67),(68,0,0),(68,1,1),(68,2,2),(68,3,3),(68,4,4),(84,0,0),(84,1,6),(125,0,0),(125,1,32),(128,0,0),(128,1,32),(128,2,33),(132,0,0),(132,1,1),(132,2,2),(132,3,3),(202,0,0),(202,1,1),(202,2,2),(202,3,3),(202,4,4),(218,0,0),(218,1,32),(245,0,0),(247,1,32),(277,1,32),(277,2,33)]
theorem ac:FT Tryz.prog FT9:=⟨Nv,Pp,OF,NP,Ql,NI,MD,Qj,Pd,Qb,M0,ME,Nf,OR,M7,wT,NA,NT,xQ,gS,NW,gn,rk,fU,oA,C8,O7,xd,wX,yx,Nm,Oo,Hm,Mc,Il,Ku,JX,LW,Lj,H5,HJ,J9,KK,Lo,KJ,Iz,IM,L7,HV,Le,Hk,JT,trivial⟩
end Go.Proofs.YthmlflaiidhoiaaGreatDoor
