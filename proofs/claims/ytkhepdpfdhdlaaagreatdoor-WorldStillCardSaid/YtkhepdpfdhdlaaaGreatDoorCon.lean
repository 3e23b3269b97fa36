/- What the walks want of the program: its types and functions by number; no condition. -/
import Derived.Test.YtkhepdpfdhdlaaaGreatDoorProg
import Derived.KernelRfl
import Derived.Test.YtkhepdpfdhdlaaaGreatDoorWd
namespace Go.Proofs.YtkhepdpfdhdlaaaGreatDoor
abbrev az3:=@Tryz.underlying33
abbrev az4:=@Tryz.underlying5
abbrev az5:=@Tryz.underlying24
abbrev az6:=@Tryz.underlying29
abbrev az7:=@Tryz.underlying31
abbrev az8:=@Tryz.underlying36
abbrev az9:=@Tryz.underlying46
abbrev aA0:=@Tryz.underlying48
abbrev aA1:=@Tryz.underlying50
abbrev aA2:=@Tryz.underlying59
abbrev aA3:=@Tryz.underlying61
abbrev aA4:=@Tryz.underlying66
abbrev aA5:=@Tryz.underlying69
abbrev aA6:=@Tryz.underlying72
abbrev aA7:=@Tryz.underlying83
abbrev aA8:=@Tryz.underlying109
abbrev aA9:=@Tryz.underlying112
abbrev aB0:=@Tryz.underlying131
abbrev aB1:=@Tryz.underlying164
abbrev aB2:=@Tryz.underlying166
abbrev aB3:=@Tryz.underlying197
abbrev aB4:=@Tryz.underlying199
abbrev aB5:=@Tryz.underlying249
abbrev aB6:=@Tryz.underlying269
abbrev aB7:=@Tryz.underlying3
abbrev aB8:=@Tryz.underlying4
abbrev aB9:=@Tryz.underlying9
abbrev aC0:=@Tryz.underlying22
abbrev aC1:=@Tryz.underlying25
abbrev aC2:=@Tryz.underlying26
abbrev aC3:=@Tryz.underlying27
abbrev aC4:=@Tryz.underlying34
abbrev aC5:=@Tryz.underlying40
abbrev aC6:=@Tryz.underlying44
abbrev aC7:=@Tryz.underlying55
abbrev aC8:=@Tryz.underlying62
abbrev aC9:=@Tryz.underlying63
abbrev aD0:=@Tryz.underlying64
abbrev aD1:=@Tryz.underlying70
abbrev aD2:=@Tryz.underlying101
abbrev aD3:=@Tryz.underlying128
abbrev aD4:=@Tryz.underlying129
abbrev aD5:=@Tryz.underlying220
abbrev aD6:=@Tryz.underlying331
abbrev aD7:=@Tryz.underlying0
abbrev aD8:=@Tryz.underlying275
abbrev aD9:=@Tryz.underlying324
abbrev aE0:=@Tryz.underlying325
abbrev aE1:=@Tryz.underlying284
abbrev aE2:=@Tryz.underlying303
abbrev aE3:=@Tryz.underlying374
abbrev aE4:=@Tryz.underlying378
abbrev aE5:=@Tryz.underlying406
abbrev aE6:=@Tryz.underlying407
abbrev aE7:=@Tryz.underlying318
abbrev aE8:=@Tryz.underlying126
abbrev aE9:=@Tryz.underlying300
abbrev aF0:=@Tryz.underlying79
abbrev aF1:=@Tryz.underlying106
theorem fE:IdTy Tryz.prog 33 5:=⟨Tryz.underlying33,by kernel_rfl,Tryz.underlying5,by kernel_rfl,by rw [kF,ei];kernel_rfl⟩
theorem cc:Row Tryz.prog 24 1:=⟨⟨_,Tryz.underlying24,rfl⟩,by kernel_rfl⟩
theorem bV:Row Tryz.prog 29 3:=⟨⟨_,Tryz.underlying29,rfl⟩,by kernel_rfl⟩
theorem fj:Row Tryz.prog 31 6:=⟨⟨_,Tryz.underlying31,rfl⟩,by kernel_rfl⟩
theorem ca:Row Tryz.prog 33 32:=⟨⟨_,Tryz.underlying33,rfl⟩,by kernel_rfl⟩
theorem Yn:Row Tryz.prog 36 38:=⟨⟨_,Tryz.underlying36,rfl⟩,by kernel_rfl⟩
theorem ip:Row Tryz.prog 46 3:=⟨⟨_,Tryz.underlying46,rfl⟩,by kernel_rfl⟩
theorem gG:Row Tryz.prog 48 34:=⟨⟨_,Tryz.underlying48,rfl⟩,by kernel_rfl⟩
theorem i6:Row Tryz.prog 50 67:=⟨⟨_,Tryz.underlying50,rfl⟩,by kernel_rfl⟩
theorem Y5:Row Tryz.prog 59 74:=⟨⟨_,Tryz.underlying59,rfl⟩,by kernel_rfl⟩
theorem ej:Row Tryz.prog 61 4:=⟨⟨_,Tryz.underlying61,rfl⟩,by kernel_rfl⟩
theorem eM:Row Tryz.prog 66 5:=⟨⟨_,Tryz.underlying66,rfl⟩,by kernel_rfl⟩
theorem aY:Row Tryz.prog 69 33:=⟨⟨_,Tryz.underlying69,rfl⟩,by kernel_rfl⟩
theorem bS:Row Tryz.prog 72 68:=⟨⟨_,Tryz.underlying72,rfl⟩,by kernel_rfl⟩
theorem Ym:Row Tryz.prog 83 7:=⟨⟨_,Tryz.underlying83,rfl⟩,by kernel_rfl⟩
theorem oZ:Row Tryz.prog 109 33:=⟨⟨_,Tryz.underlying109,rfl⟩,by kernel_rfl⟩
theorem oN:Row Tryz.prog 112 34:=⟨⟨_,Tryz.underlying112,rfl⟩,by kernel_rfl⟩
theorem nl:Row Tryz.prog 131 5:=⟨⟨_,Tryz.underlying131,rfl⟩,by kernel_rfl⟩
theorem oJ:Row Tryz.prog 164 71:=⟨⟨_,Tryz.underlying164,rfl⟩,by kernel_rfl⟩
theorem fV:Row Tryz.prog 166 139:=⟨⟨_,Tryz.underlying166,rfl⟩,by kernel_rfl⟩
theorem jO:Row Tryz.prog 197 33:=⟨⟨_,Tryz.underlying197,rfl⟩,by kernel_rfl⟩
theorem jQ:Row Tryz.prog 199 34:=⟨⟨_,Tryz.underlying199,rfl⟩,by kernel_rfl⟩
theorem pg:Row Tryz.prog 249 6:=⟨⟨_,Tryz.underlying249,rfl⟩,by kernel_rfl⟩
theorem Iz:Row Tryz.prog 269 4:=⟨⟨_,Tryz.underlying269,rfl⟩,by kernel_rfl⟩
theorem Ty:Row Tryz.prog 280 0:=⟨⟨_,Tryz.underlying280,rfl⟩,by kernel_rfl⟩
theorem bu:One Tryz.prog 3:=⟨⟨_,Tryz.underlying3,rfl⟩,by kernel_rfl⟩
theorem di:One Tryz.prog 4:=⟨⟨_,Tryz.underlying4,rfl⟩,by kernel_rfl⟩
theorem qV:One Tryz.prog 5:=⟨⟨_,Tryz.underlying5,rfl⟩,by kernel_rfl⟩
theorem gK:One Tryz.prog 9:=⟨⟨_,Tryz.underlying9,rfl⟩,by kernel_rfl⟩
theorem ew:One Tryz.prog 22:=⟨⟨_,Tryz.underlying22,rfl⟩,by kernel_rfl⟩
theorem fB:One Tryz.prog 25:=⟨⟨_,Tryz.underlying25,rfl⟩,by kernel_rfl⟩
theorem ga:One Tryz.prog 26:=⟨⟨_,Tryz.underlying26,rfl⟩,by kernel_rfl⟩
theorem fh:One Tryz.prog 27:=⟨⟨_,Tryz.underlying27,rfl⟩,by kernel_rfl⟩
theorem km:One Tryz.prog 34:=⟨⟨_,Tryz.underlying34,rfl⟩,by kernel_rfl⟩
theorem Kz:One Tryz.prog 40:=⟨⟨_,Tryz.underlying40,rfl⟩,by kernel_rfl⟩
theorem t8:One Tryz.prog 41:=⟨⟨_,Tryz.underlying41,rfl⟩,by kernel_rfl⟩
theorem tN:One Tryz.prog 44:=⟨⟨_,Tryz.underlying44,rfl⟩,by kernel_rfl⟩
theorem D5:One Tryz.prog 55:=⟨⟨_,Tryz.underlying55,rfl⟩,by kernel_rfl⟩
theorem ii:One Tryz.prog 62:=⟨⟨_,Tryz.underlying62,rfl⟩,by kernel_rfl⟩
theorem iO:One Tryz.prog 63:=⟨⟨_,Tryz.underlying63,rfl⟩,by kernel_rfl⟩
theorem iQ:One Tryz.prog 64:=⟨⟨_,Tryz.underlying64,rfl⟩,by kernel_rfl⟩
theorem c7:One Tryz.prog 70:=⟨⟨_,Tryz.underlying70,rfl⟩,by kernel_rfl⟩
theorem we:One Tryz.prog 101:=⟨⟨_,Tryz.underlying101,rfl⟩,by kernel_rfl⟩
theorem CN:One Tryz.prog 128:=⟨⟨_,Tryz.underlying128,rfl⟩,by kernel_rfl⟩
theorem my:One Tryz.prog 129:=⟨⟨_,Tryz.underlying129,rfl⟩,by kernel_rfl⟩
theorem Hc:One Tryz.prog 142:=⟨⟨_,Tryz.underlying142,rfl⟩,by kernel_rfl⟩
theorem KA:One Tryz.prog 157:=⟨⟨_,Tryz.underlying157,rfl⟩,by kernel_rfl⟩
theorem vA:One Tryz.prog 220:=⟨⟨_,Tryz.underlying220,rfl⟩,by kernel_rfl⟩
theorem Xt:(Tryz.prog.info? 3).map (·.size)=some 1:=by kernel_rfl
theorem ai3:(Tryz.prog.info? 5).map (·.size)=some 1:=by kernel_rfl
theorem J7:(Tryz.prog.info? 9).map (·.size)=some 1:=by kernel_rfl
theorem pA:(Tryz.prog.info? 46).map (·.size)=some 3:=by kernel_rfl
theorem Dm:(Tryz.prog.info? 48).map (·.size)=some 34:=by kernel_rfl
theorem AI:(Tryz.prog.info? 50).map (·.size)=some 67:=by kernel_rfl
theorem Xc:(Tryz.prog.info? 59).map (·.size)=some 74:=by kernel_rfl
theorem yP:(Tryz.prog.info? 61).map (·.size)=some 4:=by kernel_rfl
theorem mg:(Tryz.prog.info? 66).map (·.size)=some 5:=by kernel_rfl
theorem ed:(Tryz.prog.info? 69).map (·.size)=some 33:=by kernel_rfl
theorem RQ:(Tryz.prog.info? 70).map (·.size)=some 1:=by kernel_rfl
theorem mt:(Tryz.prog.info? 72).map (·.size)=some 68:=by kernel_rfl
theorem qS:(Tryz.prog.info? 109).map (·.size)=some 33:=by kernel_rfl
theorem sG:(Tryz.prog.info? 112).map (·.size)=some 34:=by kernel_rfl
theorem wH:(Tryz.prog.info? 197).map (·.size)=some 33:=by kernel_rfl
theorem ng:(Tryz.prog.info? 199).map (·.size)=some 34:=by kernel_rfl
theorem NH:Fld Tryz.prog 24 0 0:=⟨⟨_,_,0,Tryz.underlying24,rfl,by kernel_rfl,rfl⟩⟩
theorem No:Fld Tryz.prog 29 0 0:=⟨⟨_,_,0,Tryz.underlying29,rfl,by kernel_rfl,rfl⟩⟩
theorem On:Fld Tryz.prog 29 1 1:=⟨⟨_,_,0,Tryz.underlying29,rfl,by kernel_rfl,rfl⟩⟩
theorem Ns:Fld Tryz.prog 29 2 2:=⟨⟨_,_,0,Tryz.underlying29,rfl,by kernel_rfl,rfl⟩⟩
theorem NA:Fld Tryz.prog 31 0 0:=⟨⟨_,_,0,Tryz.underlying31,rfl,by kernel_rfl,rfl⟩⟩
theorem Nq:Fld Tryz.prog 31 1 1:=⟨⟨_,_,0,Tryz.underlying31,rfl,by kernel_rfl,rfl⟩⟩
theorem NS:Fld Tryz.prog 31 2 2:=⟨⟨_,_,0,Tryz.underlying31,rfl,by kernel_rfl,rfl⟩⟩
theorem OD:Fld Tryz.prog 31 3 3:=⟨⟨_,_,2,Tryz.underlying31,rfl,by kernel_rfl,rfl⟩⟩
theorem NM:Fld Tryz.prog 36 0 0:=⟨⟨_,_,0,Tryz.underlying36,rfl,by kernel_rfl,rfl⟩⟩
theorem Nh:Fld Tryz.prog 36 1 1:=⟨⟨_,_,0,Tryz.underlying36,rfl,by kernel_rfl,rfl⟩⟩
theorem Ng:Fld Tryz.prog 36 2 2:=⟨⟨_,_,0,Tryz.underlying36,rfl,by kernel_rfl,rfl⟩⟩
theorem Om:Fld Tryz.prog 36 3 3:=⟨⟨_,_,0,Tryz.underlying36,rfl,by kernel_rfl,rfl⟩⟩
theorem Oj:Fld Tryz.prog 36 4 4:=⟨⟨_,_,31,Tryz.underlying36,rfl,by kernel_rfl,rfl⟩⟩
theorem NW:Fld Tryz.prog 36 5 36:=⟨⟨_,_,0,Tryz.underlying36,rfl,by kernel_rfl,rfl⟩⟩
theorem NQ:Fld Tryz.prog 36 6 37:=⟨⟨_,_,0,Tryz.underlying36,rfl,by kernel_rfl,rfl⟩⟩
theorem Nk:Fld Tryz.prog 46 0 0:=⟨⟨_,_,0,Tryz.underlying46,rfl,by kernel_rfl,rfl⟩⟩
theorem PO:Fld Tryz.prog 46 1 1:=⟨⟨_,_,0,Tryz.underlying46,rfl,by kernel_rfl,rfl⟩⟩
theorem xB:Fld Tryz.prog 46 2 2:=⟨⟨_,_,0,Tryz.underlying46,rfl,by kernel_rfl,rfl⟩⟩
theorem Ep:Fld Tryz.prog 48 0 0:=⟨⟨_,_,0,Tryz.underlying48,rfl,by kernel_rfl,rfl⟩⟩
theorem Ev:Fld Tryz.prog 48 1 1:=⟨⟨_,_,31,Tryz.underlying48,rfl,by kernel_rfl,rfl⟩⟩
theorem O3:Fld Tryz.prog 48 2 33:=⟨⟨_,_,0,Tryz.underlying48,rfl,by kernel_rfl,rfl⟩⟩
theorem MC:Fld Tryz.prog 50 1 32:=⟨⟨_,_,33,Tryz.underlying50,rfl,by kernel_rfl,rfl⟩⟩
theorem P1:Fld Tryz.prog 50 2 66:=⟨⟨_,_,0,Tryz.underlying50,rfl,by kernel_rfl,rfl⟩⟩
theorem C6:Fld Tryz.prog 59 0 0:=⟨⟨_,_,0,Tryz.underlying59,rfl,by kernel_rfl,rfl⟩⟩
theorem M6:Fld Tryz.prog 59 1 1:=⟨⟨_,_,0,Tryz.underlying59,rfl,by kernel_rfl,rfl⟩⟩
theorem O5:Fld Tryz.prog 61 0 0:=⟨⟨_,_,0,Tryz.underlying61,rfl,by kernel_rfl,rfl⟩⟩
theorem Mz:Fld Tryz.prog 61 1 1:=⟨⟨_,_,0,Tryz.underlying61,rfl,by kernel_rfl,rfl⟩⟩
theorem MY:Fld Tryz.prog 61 2 2:=⟨⟨_,_,0,Tryz.underlying61,rfl,by kernel_rfl,rfl⟩⟩
theorem P3:Fld Tryz.prog 61 3 3:=⟨⟨_,_,0,Tryz.underlying61,rfl,by kernel_rfl,rfl⟩⟩
theorem qu:Fld Tryz.prog 66 0 0:=⟨⟨_,_,0,Tryz.underlying66,rfl,by kernel_rfl,rfl⟩⟩
theorem MU:Fld Tryz.prog 66 1 1:=⟨⟨_,_,0,Tryz.underlying66,rfl,by kernel_rfl,rfl⟩⟩
theorem wO:Fld Tryz.prog 66 2 2:=⟨⟨_,_,0,Tryz.underlying66,rfl,by kernel_rfl,rfl⟩⟩
theorem wI:Fld Tryz.prog 66 3 3:=⟨⟨_,_,0,Tryz.underlying66,rfl,by kernel_rfl,rfl⟩⟩
theorem vG:Fld Tryz.prog 66 4 4:=⟨⟨_,_,0,Tryz.underlying66,rfl,by kernel_rfl,rfl⟩⟩
theorem gD:Fld Tryz.prog 69 0 0:=⟨⟨_,_,0,Tryz.underlying69,rfl,by kernel_rfl,rfl⟩⟩
theorem xU:Fld Tryz.prog 69 1 1:=⟨⟨_,_,31,Tryz.underlying69,rfl,by kernel_rfl,rfl⟩⟩
theorem fw:Fld Tryz.prog 72 0 0:=⟨⟨_,_,32,Tryz.underlying72,rfl,by kernel_rfl,rfl⟩⟩
theorem Ol:Fld Tryz.prog 72 1 33:=⟨⟨_,_,32,Tryz.underlying72,rfl,by kernel_rfl,rfl⟩⟩
theorem g7:Fld Tryz.prog 72 2 66:=⟨⟨_,_,0,Tryz.underlying72,rfl,by kernel_rfl,rfl⟩⟩
theorem oq:Fld Tryz.prog 72 3 67:=⟨⟨_,_,0,Tryz.underlying72,rfl,by kernel_rfl,rfl⟩⟩
theorem Pi:Fld Tryz.prog 83 0 0:=⟨⟨_,_,5,Tryz.underlying83,rfl,by kernel_rfl,rfl⟩⟩
theorem Ny:Fld Tryz.prog 83 1 6:=⟨⟨_,_,0,Tryz.underlying83,rfl,by kernel_rfl,rfl⟩⟩
theorem HI:Fld Tryz.prog 109 0 0:=⟨⟨_,_,31,Tryz.underlying109,rfl,by kernel_rfl,rfl⟩⟩
theorem Hj:Fld Tryz.prog 109 1 32:=⟨⟨_,_,0,Tryz.underlying109,rfl,by kernel_rfl,rfl⟩⟩
theorem K8:Fld Tryz.prog 112 0 0:=⟨⟨_,_,31,Tryz.underlying112,rfl,by kernel_rfl,rfl⟩⟩
theorem LG:Fld Tryz.prog 112 1 32:=⟨⟨_,_,0,Tryz.underlying112,rfl,by kernel_rfl,rfl⟩⟩
theorem J8:Fld Tryz.prog 112 2 33:=⟨⟨_,_,0,Tryz.underlying112,rfl,by kernel_rfl,rfl⟩⟩
theorem IZ:Fld Tryz.prog 131 0 0:=⟨⟨_,_,0,Tryz.underlying131,rfl,by kernel_rfl,rfl⟩⟩
theorem IQ:Fld Tryz.prog 131 1 1:=⟨⟨_,_,0,Tryz.underlying131,rfl,by kernel_rfl,rfl⟩⟩
theorem JI:Fld Tryz.prog 131 2 2:=⟨⟨_,_,0,Tryz.underlying131,rfl,by kernel_rfl,rfl⟩⟩
theorem H6:Fld Tryz.prog 131 3 3:=⟨⟨_,_,0,Tryz.underlying131,rfl,by kernel_rfl,rfl⟩⟩
theorem JQ:Fld Tryz.prog 131 4 4:=⟨⟨_,_,0,Tryz.underlying131,rfl,by kernel_rfl,rfl⟩⟩
theorem Jf:Fld Tryz.prog 164 0 0:=⟨⟨_,_,0,Tryz.underlying164,rfl,by kernel_rfl,rfl⟩⟩
theorem Io:Fld Tryz.prog 164 1 1:=⟨⟨_,_,31,Tryz.underlying164,rfl,by kernel_rfl,rfl⟩⟩
theorem JW:Fld Tryz.prog 164 2 33:=⟨⟨_,_,33,Tryz.underlying164,rfl,by kernel_rfl,rfl⟩⟩
theorem JK:Fld Tryz.prog 164 3 67:=⟨⟨_,_,0,Tryz.underlying164,rfl,by kernel_rfl,rfl⟩⟩
theorem H1:Fld Tryz.prog 164 4 68:=⟨⟨_,_,0,Tryz.underlying164,rfl,by kernel_rfl,rfl⟩⟩
theorem Lv:Fld Tryz.prog 164 5 69:=⟨⟨_,_,0,Tryz.underlying164,rfl,by kernel_rfl,rfl⟩⟩
theorem KK:Fld Tryz.prog 164 6 70:=⟨⟨_,_,0,Tryz.underlying164,rfl,by kernel_rfl,rfl⟩⟩
theorem KG:Fld Tryz.prog 166 0 0:=⟨⟨_,_,0,Tryz.underlying166,rfl,by kernel_rfl,rfl⟩⟩
theorem Iw:Fld Tryz.prog 166 1 1:=⟨⟨_,_,70,Tryz.underlying166,rfl,by kernel_rfl,rfl⟩⟩
theorem Ht:Fld Tryz.prog 195 0 0:=⟨⟨_,_,31,Tryz.underlying195,rfl,by kernel_rfl,rfl⟩⟩
theorem HG:Fld Tryz.prog 197 1 32:=⟨⟨_,_,0,Tryz.underlying197,rfl,by kernel_rfl,rfl⟩⟩
theorem AG:Fld Tryz.prog 199 1 32:=⟨⟨_,_,0,Tryz.underlying199,rfl,by kernel_rfl,rfl⟩⟩
theorem rF:Fld Tryz.prog 199 2 33:=⟨⟨_,_,0,Tryz.underlying199,rfl,by kernel_rfl,rfl⟩⟩
theorem H9:Fld Tryz.prog 249 0 0:=⟨⟨_,_,0,Tryz.underlying249,rfl,by kernel_rfl,rfl⟩⟩
theorem Hg:Fld Tryz.prog 249 1 1:=⟨⟨_,_,0,Tryz.underlying249,rfl,by kernel_rfl,rfl⟩⟩
theorem G7:Fld Tryz.prog 249 2 2:=⟨⟨_,_,0,Tryz.underlying249,rfl,by kernel_rfl,rfl⟩⟩
theorem H3:Fld Tryz.prog 249 3 3:=⟨⟨_,_,0,Tryz.underlying249,rfl,by kernel_rfl,rfl⟩⟩
theorem JG:Fld Tryz.prog 249 4 4:=⟨⟨_,_,0,Tryz.underlying249,rfl,by kernel_rfl,rfl⟩⟩
theorem JP:Fld Tryz.prog 249 5 5:=⟨⟨_,_,0,Tryz.underlying249,rfl,by kernel_rfl,rfl⟩⟩
theorem LI:Fld Tryz.prog 268 0 0:=⟨⟨_,_,31,Tryz.underlying268,rfl,by kernel_rfl,rfl⟩⟩
theorem G9:Fld Tryz.prog 268 1 32:=⟨⟨_,_,33,Tryz.underlying268,rfl,by kernel_rfl,rfl⟩⟩
theorem ND:EqV Tryz.prog 2 33 (32*1) (λxs=>xs.length=32*1/\∀ i,i<32->∃ n,(xs.drop (i*1)).take 1=[Value.int .u8 n]) ya:=EqV.arr (n:=32) (EqV.int .u8 Tryz.underlying5 (by kernel_rfl)) Tryz.underlying33 (by kernel_rfl)
theorem Tj (x y:dN):Ri Tryz.prog 3 48 34 (df x) (df y):=⟨_,EqV.struct' [(1,(λxs=>∃ n,xs=[Value.int .i64 n])),(32*1,(λxs=>xs.length=32*1/\∀ i,i<32->∃ n,(xs.drop (i*1)).take 1=[Value.int .u8 n])),(1,(λxs=>∃ n,xs=[Value.int .i64 n]))] Tryz.underlying48 (by kernel_rfl) (by kernel_rfl) ⟨by decide,⟨sQ,(EqV.int .i64 Tryz.underlying3 (by kernel_rfl)).up⟩,by decide,⟨ya,ND⟩,by decide,⟨sQ,(EqV.int .i64 Tryz.underlying3 (by kernel_rfl)).up⟩,trivial⟩ ⟨rfl,rfl,rfl,rfl⟩,⟨by rw [as7,ce],⟨_,EU _⟩,(by show _/\_;unfold ji;dsimp only;rw [Er];exact jl _ _),⟨_,D6 _⟩,trivial⟩,⟨by rw [as7,ce],⟨_,EU _⟩,(by show _/\_;unfold ji;dsimp only;rw [Er];exact jl _ _),⟨_,D6 _⟩,trivial⟩⟩
theorem Cy:Stt Tryz.prog 48 eZ:=⟨⟨_,Tryz.underlying48,rfl,λi f hf=>by
 match i,hf with
 |0,hf=>cases hf;exact ⟨_,rfl,by kernel_rfl,rfl⟩
 |1,hf=>cases hf;exact ⟨_,rfl,by kernel_rfl,rfl⟩
 |2,hf=>cases hf;exact ⟨_,rfl,by kernel_rfl,rfl⟩
 |i+3,hf=>simp at hf⟩,by kernel_rfl⟩
theorem eqG (x y:Tg):Ri Tryz.prog 4 50 67 (co x) (co y):=by
 obtain ⟨V,E9,h1,h2⟩:=Tj x.2.1 y.2.1
 exact ⟨_,EqV.struct' [(32*1,(λxs=>xs.length=32*1/\∀ i,i<32->∃ n,(xs.drop (i*1)).take 1=[Value.int .u8 n])),(34,V),(1,(λxs=>∃ n,xs=[Value.int .i64 n]))] Tryz.underlying50 (by kernel_rfl) (by kernel_rfl) ⟨by decide,⟨ya,ND.up⟩,by decide,⟨ya,E9⟩,by decide,⟨sQ,(EqV.int .i64 Tryz.underlying3 (by kernel_rfl)).up.up⟩,trivial⟩ ⟨rfl,rfl,rfl,rfl⟩,⟨by rw [as7,cR],(by show _/\_;unfold ji;dsimp only;rw [AE];exact jl _ _),(by show V (ji _ _ _);unfold ji;dsimp only;rw [yu];exact h1),⟨_,Dy _⟩,trivial⟩,⟨by rw [as7,cR],(by show _/\_;unfold ji;dsimp only;rw [AE];exact jl _ _),(by show V (ji _ _ _);unfold ji;dsimp only;rw [yu];exact h2),⟨_,Dy _⟩,trivial⟩⟩
theorem Ze:Stt Tryz.prog 164 VC:=⟨⟨_,Tryz.underlying164,rfl,λi f hf=>by
 match i,hf with
 |0,hf=>cases hf;exact ⟨_,rfl,by kernel_rfl,rfl⟩
 |1,hf=>cases hf;exact ⟨_,rfl,by kernel_rfl,rfl⟩
 |2,hf=>cases hf;exact ⟨_,rfl,by kernel_rfl,rfl⟩
 |3,hf=>cases hf;exact ⟨_,rfl,by kernel_rfl,rfl⟩
 |4,hf=>cases hf;exact ⟨_,rfl,by kernel_rfl,rfl⟩
 |5,hf=>cases hf;exact ⟨_,rfl,by kernel_rfl,rfl⟩
 |6,hf=>cases hf;exact ⟨_,rfl,by kernel_rfl,rfl⟩
 |i+7,hf=>simp at hf⟩,by kernel_rfl⟩
theorem ta:Stt Tryz.prog 249 fZ:=⟨⟨_,Tryz.underlying249,rfl,λi f hf=>by
 match i,hf with
 |0,hf=>cases hf;exact ⟨_,rfl,by kernel_rfl,rfl⟩
 |1,hf=>cases hf;exact ⟨_,rfl,by kernel_rfl,rfl⟩
 |2,hf=>cases hf;exact ⟨_,rfl,by kernel_rfl,rfl⟩
 |3,hf=>cases hf;exact ⟨_,rfl,by kernel_rfl,rfl⟩
 |4,hf=>cases hf;exact ⟨_,rfl,by kernel_rfl,rfl⟩
 |5,hf=>cases hf;exact ⟨_,rfl,by kernel_rfl,rfl⟩
 |i+6,hf=>simp at hf⟩,by kernel_rfl⟩
theorem W5:Stt Tryz.prog 46 svZ:=⟨⟨_,Tryz.underlying46,rfl,λi f hf=>by
 match i,hf with
 |0,hf=>cases hf;exact ⟨_,rfl,by kernel_rfl,rfl⟩
 |1,hf=>cases hf;exact ⟨_,rfl,by kernel_rfl,rfl⟩
 |2,hf=>cases hf;exact ⟨_,rfl,by kernel_rfl,rfl⟩
 |i+3,hf=>simp at hf⟩,by kernel_rfl⟩
theorem ub:Stt Tryz.prog 166 ZA:=⟨⟨_,Tryz.underlying166,rfl,λi f hf=>by
 match i,hf with
 |0,hf=>cases hf;exact ⟨_,rfl,by kernel_rfl,rfl⟩
 |1,hf=>cases hf;exact ⟨_,rfl,by kernel_rfl,rfl⟩
 |2,hf=>cases hf;exact ⟨_,rfl,by kernel_rfl,rfl⟩
 |i+3,hf=>simp at hf⟩,by kernel_rfl⟩
theorem Rp:Stt Tryz.prog 66 Xr:=⟨⟨_,Tryz.underlying66,rfl,λi f hf=>by
 match i,hf with
 |0,hf=>cases hf;exact ⟨_,rfl,by kernel_rfl,rfl⟩
 |1,hf=>cases hf;exact ⟨_,rfl,by kernel_rfl,rfl⟩
 |2,hf=>cases hf;exact ⟨_,rfl,by kernel_rfl,rfl⟩
 |3,hf=>cases hf;exact ⟨_,rfl,by kernel_rfl,rfl⟩
 |4,hf=>cases hf;exact ⟨_,rfl,by kernel_rfl,rfl⟩
 |i+5,hf=>simp at hf⟩,by kernel_rfl⟩
theorem XV (x y:Wn):Ri Tryz.prog 3 109 33 (dc x) (dc y):=⟨_,EqV.struct' [(32*1,(λxs=>xs.length=32*1/\∀ i,i<32->∃ n,(xs.drop (i*1)).take 1=[Value.int .u8 n])),(1,(λxs=>∃ n,xs=[Value.int .i64 n]))] Tryz.underlying109 (by kernel_rfl) (by kernel_rfl) ⟨by decide,⟨ya,ND⟩,by decide,⟨sQ,(EqV.int .i64 Tryz.underlying3 (by kernel_rfl)).up⟩,trivial⟩ ⟨rfl,rfl,rfl⟩,⟨by rw [as7,cA],(by show _/\_;unfold ji;dsimp only;rw [Aa];exact jl _ _),⟨_,DK _⟩,trivial⟩,⟨by rw [as7,cA],(by show _/\_;unfold ji;dsimp only;rw [Aa];exact jl _ _),⟨_,DK _⟩,trivial⟩⟩
theorem YO (x y:Hn):Ri Tryz.prog 3 112 34 (cW x) (cW y):=⟨_,EqV.struct' [(32*1,(λxs=>xs.length=32*1/\∀ i,i<32->∃ n,(xs.drop (i*1)).take 1=[Value.int .u8 n])),(1,(λxs=>∃ n,xs=[Value.int .i64 n])),(1,(λxs=>∃ n,xs=[Value.int .i64 n]))] Tryz.underlying112 (by kernel_rfl) (by kernel_rfl) ⟨by decide,⟨ya,ND⟩,by decide,⟨sQ,(EqV.int .i64 Tryz.underlying3 (by kernel_rfl)).up⟩,by decide,⟨sQ,(EqV.int .i64 Tryz.underlying3 (by kernel_rfl)).up⟩,trivial⟩ ⟨rfl,rfl,rfl,rfl⟩,⟨by rw [as7,cy],(by show _/\_;unfold ji;dsimp only;rw [yy];exact jl _ _),⟨_,EF _⟩,⟨_,Ed _⟩,trivial⟩,⟨by rw [as7,cy],(by show _/\_;unfold ji;dsimp only;rw [yy];exact jl _ _),⟨_,EF _⟩,⟨_,Ed _⟩,trivial⟩⟩
theorem W8:Stt Tryz.prog 131 Xr:=⟨⟨_,Tryz.underlying131,rfl,λi f hf=>by
 match i,hf with
 |0,hf=>cases hf;exact ⟨_,rfl,by kernel_rfl,rfl⟩
 |1,hf=>cases hf;exact ⟨_,rfl,by kernel_rfl,rfl⟩
 |2,hf=>cases hf;exact ⟨_,rfl,by kernel_rfl,rfl⟩
 |3,hf=>cases hf;exact ⟨_,rfl,by kernel_rfl,rfl⟩
 |4,hf=>cases hf;exact ⟨_,rfl,by kernel_rfl,rfl⟩
 |i+5,hf=>simp at hf⟩,by kernel_rfl⟩
theorem YS:Stt Tryz.prog 197 Zx:=⟨⟨_,Tryz.underlying197,rfl,λi f hf=>by
 match i,hf with
 |0,hf=>cases hf;exact ⟨_,rfl,by kernel_rfl,rfl⟩
 |1,hf=>cases hf;exact ⟨_,rfl,by kernel_rfl,rfl⟩
 |i+2,hf=>simp at hf⟩,by kernel_rfl⟩
theorem XT:Stt Tryz.prog 199 Zs:=⟨⟨_,Tryz.underlying199,rfl,λi f hf=>by
 match i,hf with
 |0,hf=>cases hf;exact ⟨_,rfl,by kernel_rfl,rfl⟩
 |1,hf=>cases hf;exact ⟨_,rfl,by kernel_rfl,rfl⟩
 |2,hf=>cases hf;exact ⟨_,rfl,by kernel_rfl,rfl⟩
 |i+3,hf=>simp at hf⟩,by kernel_rfl⟩
theorem QX:Stt Tryz.prog 195 nmZ:=⟨⟨_,Tryz.underlying195,rfl,λi f hf=>by
 match i,hf with
 |0,hf=>cases hf;exact ⟨_,rfl,by kernel_rfl,rfl⟩
 |i+1,hf=>simp at hf⟩,by kernel_rfl⟩
theorem QW:Stt Tryz.prog 59 ntZ:=⟨⟨_,Tryz.underlying59,rfl,λi f hf=>by
 match i,hf with
 |0,hf=>cases hf;exact ⟨_,rfl,by kernel_rfl,rfl⟩
 |1,hf=>cases hf;exact ⟨_,rfl,by kernel_rfl,rfl⟩
 |2,hf=>cases hf;exact ⟨_,rfl,by kernel_rfl,rfl⟩
 |3,hf=>cases hf;exact ⟨_,rfl,by kernel_rfl,rfl⟩
 |4,hf=>cases hf;exact ⟨_,rfl,by kernel_rfl,rfl⟩
 |5,hf=>cases hf;exact ⟨_,rfl,by kernel_rfl,rfl⟩
 |6,hf=>cases hf;exact ⟨_,rfl,by kernel_rfl,rfl⟩
 |7,hf=>cases hf;exact ⟨_,rfl,by kernel_rfl,rfl⟩
 |i+8,hf=>simp at hf⟩,by kernel_rfl⟩
theorem kq:Stt Tryz.prog 29 mlZ:=⟨⟨_,Tryz.underlying29,rfl,λi f hf=>by
 match i,hf with
 |0,hf=>cases hf;exact ⟨_,rfl,by kernel_rfl,rfl⟩
 |1,hf=>cases hf;exact ⟨_,rfl,by kernel_rfl,rfl⟩
 |2,hf=>cases hf;exact ⟨_,rfl,by kernel_rfl,rfl⟩
 |i+3,hf=>simp at hf⟩,by kernel_rfl⟩
theorem Dp:Stt Tryz.prog 61 ltZ:=⟨⟨_,Tryz.underlying61,rfl,λi f hf=>by
 match i,hf with
 |0,hf=>cases hf;exact ⟨_,rfl,by kernel_rfl,rfl⟩
 |1,hf=>cases hf;exact ⟨_,rfl,by kernel_rfl,rfl⟩
 |2,hf=>cases hf;exact ⟨_,rfl,by kernel_rfl,rfl⟩
 |3,hf=>cases hf;exact ⟨_,rfl,by kernel_rfl,rfl⟩
 |i+4,hf=>simp at hf⟩,by kernel_rfl⟩
theorem eqL (x y:Lt):Ri Tryz.prog 2 61 4 (bZ x) (bZ y):=⟨_,EqV.struct' [(1,(λxs=>∃ n,xs=[Value.int .i64 n])),(1,(λxs=>∃ n,xs=[Value.int .i64 n])),(1,(λxs=>∃ n,xs=[Value.int .i64 n])),(1,(λxs=>∃ n,xs=[Value.string n]))] Tryz.underlying61 (by kernel_rfl) (by kernel_rfl) ⟨by decide,⟨sQ,EqV.int .i64 Tryz.underlying3 (by kernel_rfl)⟩,by decide,⟨sQ,EqV.int .i64 Tryz.underlying3 (by kernel_rfl)⟩,by decide,⟨sQ,EqV.int .i64 Tryz.underlying3 (by kernel_rfl)⟩,by decide,⟨sQ,EqV.str Tryz.underlying9 (by kernel_rfl)⟩,trivial⟩ ⟨rfl,rfl,rfl,rfl,rfl⟩,⟨rfl,⟨_,rfl⟩,⟨_,rfl⟩,⟨_,rfl⟩,⟨_,rfl⟩,trivial⟩,⟨rfl,⟨_,rfl⟩,⟨_,rfl⟩,⟨_,rfl⟩,⟨_,rfl⟩,trivial⟩⟩
theorem ac0:EqV Tryz.prog 2 33 (32*1) (λxs=>xs.length=32*1/\∀ i,i<32->∃ n,(xs.drop (i*1)).take 1=[Value.int .u8 n]) ya:=EqV.arr (n:=32) (EqV.int .u8 Tryz.underlying5 (by kernel_rfl)) Tryz.underlying33 (by kernel_rfl)
theorem uW (x y:Mb):Ri Tryz.prog 3 69 33 (ay x) (ay y):=⟨_,EqV.struct' [(1,(λxs=>∃ n,xs=[Value.int .i64 n])),(32*1,(λxs=>xs.length=32*1/\∀ i,i<32->∃ n,(xs.drop (i*1)).take 1=[Value.int .u8 n]))] Tryz.underlying69 (by kernel_rfl) (by kernel_rfl) ⟨by decide,⟨sQ,(EqV.int .i64 Tryz.underlying3 (by kernel_rfl)).up⟩,by decide,⟨ya,ac0⟩,trivial⟩ ⟨rfl,rfl,rfl⟩,⟨by rw [as7,ai],⟨_,AR _⟩,(by show _/\_;unfold ji;dsimp only;rw [yd];exact jl _ _),trivial⟩,⟨by rw [as7,ai],⟨_,AR _⟩,(by show _/\_;unfold ji;dsimp only;rw [yd];exact jl _ _),trivial⟩⟩
theorem AK:Stt Tryz.prog 69 Zj:=⟨⟨_,Tryz.underlying69,rfl,λi f hf=>by
 match i,hf with
 |0,hf=>cases hf;exact ⟨_,rfl,by kernel_rfl,rfl⟩
 |1,hf=>cases hf;exact ⟨_,rfl,by kernel_rfl,rfl⟩
 |i+2,hf=>simp at hf⟩,by kernel_rfl⟩
theorem Cg:Stt Tryz.prog 72 Zz:=⟨⟨_,Tryz.underlying72,rfl,λi f hf=>by
 match i,hf with
 |0,hf=>cases hf;exact ⟨_,rfl,by kernel_rfl,rfl⟩
 |1,hf=>cases hf;exact ⟨_,rfl,by kernel_rfl,rfl⟩
 |2,hf=>cases hf;exact ⟨_,rfl,by kernel_rfl,rfl⟩
 |3,hf=>cases hf;exact ⟨_,rfl,by kernel_rfl,rfl⟩
 |i+4,hf=>simp at hf⟩,by kernel_rfl⟩
theorem yt:Stt Tryz.prog 24 ovZ:=⟨⟨_,Tryz.underlying24,rfl,λi f hf=>by
 match i,hf with
 |0,hf=>cases hf;exact ⟨_,rfl,by kernel_rfl,rfl⟩
 |i+1,hf=>simp at hf⟩,by kernel_rfl⟩
theorem Wl:Stt Tryz.prog 280 []:=⟨⟨_,Tryz.underlying280,rfl,λi f hf=>by
 match i,hf with
 |i+0,hf=>simp at hf⟩,by kernel_rfl⟩
theorem Ey:Stt Tryz.prog 36 Yy:=⟨⟨_,Tryz.underlying36,rfl,λi f hf=>by
 match i,hf with
 |0,hf=>cases hf;exact ⟨_,rfl,by kernel_rfl,rfl⟩
 |1,hf=>cases hf;exact ⟨_,rfl,by kernel_rfl,rfl⟩
 |2,hf=>cases hf;exact ⟨_,rfl,by kernel_rfl,rfl⟩
 |3,hf=>cases hf;exact ⟨_,rfl,by kernel_rfl,rfl⟩
 |4,hf=>cases hf;exact ⟨_,rfl,by kernel_rfl,rfl⟩
 |5,hf=>cases hf;exact ⟨_,rfl,by kernel_rfl,rfl⟩
 |6,hf=>cases hf;exact ⟨_,rfl,by kernel_rfl,rfl⟩
 |i+7,hf=>simp at hf⟩,by kernel_rfl⟩
theorem RI:Stt Tryz.prog 31 wdZ:=⟨⟨_,Tryz.underlying31,rfl,λi f hf=>by
 match i,hf with
 |0,hf=>cases hf;exact ⟨_,rfl,by kernel_rfl,rfl⟩
 |1,hf=>cases hf;exact ⟨_,rfl,by kernel_rfl,rfl⟩
 |2,hf=>cases hf;exact ⟨_,rfl,by kernel_rfl,rfl⟩
 |3,hf=>cases hf;exact ⟨_,rfl,by kernel_rfl,rfl⟩
 |i+4,hf=>simp at hf⟩,by kernel_rfl⟩
theorem WW:Stt Tryz.prog 83 crZ:=⟨⟨_,Tryz.underlying83,rfl,λi f hf=>by
 match i,hf with
 |0,hf=>cases hf;exact ⟨_,rfl,by kernel_rfl,rfl⟩
 |1,hf=>cases hf;exact ⟨_,rfl,by kernel_rfl,rfl⟩
 |i+2,hf=>simp at hf⟩,by kernel_rfl⟩
theorem i4:(Tryz.prog.info? 5).map (·.size)=some 1:=by kernel_rfl
theorem Dv:(Tryz.prog.info? 266).map (·.size)=some 1:=by kernel_rfl
theorem Ew:(Tryz.prog.info? 4).bind (·.zero)=some (.bool false):=by kernel_rfl
theorem qF:(Tryz.prog.info? 24).bind (·.zero)=some (.agg #[au]):=by kernel_rfl
theorem Su:(Tryz.prog.info? 27).bind (·.zero)=some (.slice none 0 0):=by kernel_rfl
theorem iN:(Tryz.prog.info? 29).bind (·.zero)=some (.agg (#[au,.int .i64 0,.int .i64 0])):=by kernel_rfl
theorem wE:(Tryz.prog.info? 31).bind (·.zero)=some (.agg (dV au au au au 0 0)):=by kernel_rfl
theorem xG:(Tryz.prog.info? 33).bind (·.zero)=some (kF 0#256):=fE.zero
theorem Tx:(Tryz.prog.info? 41).bind (·.zero)=some (.int .i64 0):=by kernel_rfl
theorem B7:(Tryz.prog.info? 46).bind (·.zero)=some (.agg (de 0 ByteArray.empty au)):=by kernel_rfl
theorem Jp:(Tryz.prog.info? 48).bind (·.zero)=some (.agg (df (0,0#256,0))):=by rw [iy];kernel_rfl
theorem Sq:(Tryz.prog.info? 50).bind (·.zero)=some (.agg (co eA)):=by rw [wN];kernel_rfl
theorem Uc:(Tryz.prog.info? 55).bind (·.zero)=some (.slice none 0 0):=by kernel_rfl
theorem jj:(Tryz.prog.info? 61).bind (·.zero)=some (.agg (bZ gq)):=by kernel_rfl
theorem qJ:(Tryz.prog.info? 66).bind (·.zero)=some (.agg (bE 0 0 au au au)):=by kernel_rfl
theorem eV:(Tryz.prog.info? 69).bind (·.zero)=some (.agg (ay bz)):=by rw [xV];kernel_rfl
theorem IR:(Tryz.prog.info? 70).bind (·.zero)=some (.slice none 0 0):=by kernel_rfl
theorem jJ:(Tryz.prog.info? 72).bind (·.zero)=some (.agg (aP bz bz au au)):=by rw [P4];kernel_rfl
theorem Sb:(Tryz.prog.info? 77).bind (·.zero)=some (.nilFunc):=by kernel_rfl
theorem UZ:(Tryz.prog.info? 83).bind (·.zero)=some (.agg (dZ au au au au 0 0 au)):=by kernel_rfl
theorem ML:(Tryz.prog.info? 101).bind (·.zero)=some (.pointer none):=by kernel_rfl
theorem Ps:(Tryz.prog.info? 109).bind (·.zero)=some (.agg (dc gm)):=by rw [Eg];kernel_rfl
theorem Px:(Tryz.prog.info? 112).bind (·.zero)=some (.agg (cW eO)):=by rw [EV];kernel_rfl
theorem wg:(Tryz.prog.info? 131).bind (·.zero)=some (.agg (bE 0 0 au au au)):=by kernel_rfl
theorem DM:(Tryz.prog.info? 164).bind (·.zero)=some (.agg (eh mZ au)):=by rw [show eh mZ au=eh mZ (.slice none 0 0) from rfl,tT];kernel_rfl
theorem Db:(Tryz.prog.info? 166).bind (·.zero)=some (.agg (cH 0 mZ au eA)):=by rw [O0];kernel_rfl
theorem MB:(Tryz.prog.info? 197).bind (·.zero)=some (.agg (dc gm)):=by rw [Eg];kernel_rfl
theorem OQ:(Tryz.prog.info? 199).bind (·.zero)=some (.agg (cW eO)):=by rw [EV];kernel_rfl
theorem PQ:(Tryz.prog.info? 220).bind (·.zero)=some (.map none):=by kernel_rfl
theorem nV:(Tryz.prog.info? 249).bind (·.zero)=some (.agg (eH 0)):=by kernel_rfl
theorem EJ:(Tryz.prog.info? 269).bind (·.zero)=some (.agg #[.nilFunc,.nilFunc,.nilFunc,.nilFunc]):=by kernel_rfl
theorem DW:(Tryz.prog.info? 280).bind (·.zero)=some (.agg #[]):=by kernel_rfl
theorem MV:(Tryz.prog.info? 388).bind (·.zero)=some (.agg (cG (λ_=>0) 8)):=by rw [show cG (λ_=>0) 8=(List.replicate 8 (Value.int .u8 0)).toArray from rfl];kernel_rfl
theorem cC (n:Nat) (h:(match Tryz.prog.funcs[n]? with|some fn => !fn.body.isNone && !(fn.name == "runtime.NumGoroutine")|none=>false)=true):Fnc Tryz.prog n:=by
 cases hf:Tryz.prog.funcs[n]? with
 |none=>rw [hf] at h;simp at h
 |some fn=>rw [hf] at h;simp only [as0,Bool.not_eq_true'] at h;exact ⟨⟨fn,hf,h.1,h.2⟩⟩
theorem SS:Elm Tryz.prog 3 1 8:=fX (by kernel_rfl) (by decide)
theorem rx:Elm Tryz.prog 5 1 1:=fX (by kernel_rfl) (by decide)
theorem Xk:Elm Tryz.prog 9 1 16:=fX (by kernel_rfl) (by decide)
theorem DO:Elm Tryz.prog 46 3 48:=fX (by kernel_rfl) (by decide)
theorem Ee:Elm Tryz.prog 48 34 48:=fX (by kernel_rfl) (by decide)
theorem QN:Elm Tryz.prog 50 67 88:=fX (by kernel_rfl) (by decide)
theorem QU:Elm Tryz.prog 59 74 152:=fX (by kernel_rfl) (by decide)
theorem t7:Elm Tryz.prog 61 4 40:=fX (by kernel_rfl) (by decide)
theorem EI:Elm Tryz.prog 66 5 88:=fX (by kernel_rfl) (by decide)
theorem js:Elm Tryz.prog 69 33 40:=fX (by kernel_rfl) (by decide)
theorem VZ:Elm Tryz.prog 70 1 24:=fX (by kernel_rfl) (by decide)
theorem uP:Elm Tryz.prog 72 68 128:=fX (by kernel_rfl) (by decide)
theorem Jb:Elm Tryz.prog 109 33 40:=fX (by kernel_rfl) (by decide)
theorem Kj:Elm Tryz.prog 112 34 48:=fX (by kernel_rfl) (by decide)
theorem Jc:Elm Tryz.prog 197 33 40:=fX (by kernel_rfl) (by decide)
theorem Jl:Elm Tryz.prog 199 34 48:=fX (by kernel_rfl) (by decide)
theorem BA:(Tryz.prog.info? 5).bind (·.zero)=some (.int .u8 0):=by kernel_rfl
theorem Z3:Fnc Tryz.prog 6:=cC 6 (by kernel_rfl)
theorem YZ:Fnc Tryz.prog 7:=cC 7 (by kernel_rfl)
theorem Fb:Fnc Tryz.prog 8:=cC 8 (by kernel_rfl)
theorem Dz:Fnc Tryz.prog 10:=cC 10 (by kernel_rfl)
theorem X7:Fnc Tryz.prog 12:=cC 12 (by kernel_rfl)
theorem LW:Fnc Tryz.prog 13:=cC 13 (by kernel_rfl)
theorem Xz:Fnc Tryz.prog 14:=cC 14 (by kernel_rfl)
theorem YY:Fnc Tryz.prog 15:=cC 15 (by kernel_rfl)
theorem Ye:Fnc Tryz.prog 16:=cC 16 (by kernel_rfl)
theorem tL:Fnc Tryz.prog 17:=cC 17 (by kernel_rfl)
theorem XK:Fnc Tryz.prog 18:=cC 18 (by kernel_rfl)
theorem WD:Fnc Tryz.prog 19:=cC 19 (by kernel_rfl)
theorem Rf:Fnc Tryz.prog 23:=cC 23 (by kernel_rfl)
theorem QL:Fnc Tryz.prog 24:=cC 24 (by kernel_rfl)
theorem Y3:Fnc Tryz.prog 25:=cC 25 (by kernel_rfl)
theorem El:Fnc Tryz.prog 26:=cC 26 (by kernel_rfl)
theorem KE:Fnc Tryz.prog 27:=cC 27 (by kernel_rfl)
theorem Jo:Fnc Tryz.prog 28:=cC 28 (by kernel_rfl)
theorem Lx:Fnc Tryz.prog 29:=cC 29 (by kernel_rfl)
theorem K3:Fnc Tryz.prog 30:=cC 30 (by kernel_rfl)
theorem Q1:Fnc Tryz.prog 31:=cC 31 (by kernel_rfl)
theorem HF:Fnc Tryz.prog 32:=cC 32 (by kernel_rfl)
theorem EM:Fnc Tryz.prog 33:=cC 33 (by kernel_rfl)
theorem VX:Fnc Tryz.prog 34:=cC 34 (by kernel_rfl)
theorem Xm:Fnc Tryz.prog 37:=cC 37 (by kernel_rfl)
theorem WO:Fnc Tryz.prog 38:=cC 38 (by kernel_rfl)
theorem XF:Fnc Tryz.prog 39:=cC 39 (by kernel_rfl)
theorem XR:Fnc Tryz.prog 43:=cC 43 (by kernel_rfl)
theorem Xo:Fnc Tryz.prog 45:=cC 45 (by kernel_rfl)
theorem XB:Fnc Tryz.prog 46:=cC 46 (by kernel_rfl)
theorem YE:Fnc Tryz.prog 47:=cC 47 (by kernel_rfl)
theorem RB:Fnc Tryz.prog 49:=cC 49 (by kernel_rfl)
theorem uO:Fnc Tryz.prog 50:=cC 50 (by kernel_rfl)
theorem Zg:Fnc Tryz.prog 51:=cC 51 (by kernel_rfl)
theorem XE:Fnc Tryz.prog 52:=cC 52 (by kernel_rfl)
theorem Xf:Fnc Tryz.prog 53:=cC 53 (by kernel_rfl)
theorem Xw:Fnc Tryz.prog 54:=cC 54 (by kernel_rfl)
theorem XG:Fnc Tryz.prog 55:=cC 55 (by kernel_rfl)
theorem Rc:Fnc Tryz.prog 56:=cC 56 (by kernel_rfl)
theorem IT:Fnc Tryz.prog 57:=cC 57 (by kernel_rfl)
theorem RP:Fnc Tryz.prog 60:=cC 60 (by kernel_rfl)
theorem Re:Fnc Tryz.prog 61:=cC 61 (by kernel_rfl)
theorem WY:Fnc Tryz.prog 62:=cC 62 (by kernel_rfl)
theorem JF:Fnc Tryz.prog 63:=cC 63 (by kernel_rfl)
theorem qP:Fnc Tryz.prog 64:=cC 64 (by kernel_rfl)
theorem rL:Fnc Tryz.prog 65:=cC 65 (by kernel_rfl)
theorem QY:Fnc Tryz.prog 66:=cC 66 (by kernel_rfl)
theorem Wo:Fnc Tryz.prog 67:=cC 67 (by kernel_rfl)
theorem Qn:Fnc Tryz.prog 68:=cC 68 (by kernel_rfl)
theorem QT:Fnc Tryz.prog 69:=cC 69 (by kernel_rfl)
theorem Kl:Fnc Tryz.prog 70:=cC 70 (by kernel_rfl)
theorem V6:Fnc Tryz.prog 71:=cC 71 (by kernel_rfl)
theorem Xh:Fnc Tryz.prog 72:=cC 72 (by kernel_rfl)
theorem YB:Fnc Tryz.prog 75:=cC 75 (by kernel_rfl)
theorem QF:Fnc Tryz.prog 76:=cC 76 (by kernel_rfl)
theorem WJ:Fnc Tryz.prog 82:=cC 82 (by kernel_rfl)
theorem CX:Fnc Tryz.prog 83:=cC 83 (by kernel_rfl)
theorem V5:Fnc Tryz.prog 84:=cC 84 (by kernel_rfl)
theorem YQ:Fnc Tryz.prog 85:=cC 85 (by kernel_rfl)
theorem L6:Fnc Tryz.prog 86:=cC 86 (by kernel_rfl)
theorem W4:Fnc Tryz.prog 87:=cC 87 (by kernel_rfl)
theorem HL:Fnc Tryz.prog 88:=cC 88 (by kernel_rfl)
theorem WF:Fnc Tryz.prog 92:=cC 92 (by kernel_rfl)
theorem Yv:Fnc Tryz.prog 93:=cC 93 (by kernel_rfl)
theorem X4:Fnc Tryz.prog 94:=cC 94 (by kernel_rfl)
theorem QC:Fnc Tryz.prog 95:=cC 95 (by kernel_rfl)
theorem Q5:Fnc Tryz.prog 96:=cC 96 (by kernel_rfl)
theorem Y2:Fnc Tryz.prog 99:=cC 99 (by kernel_rfl)
theorem SZ:Fnc Tryz.prog 100:=cC 100 (by kernel_rfl)
theorem TI:Fnc Tryz.prog 101:=cC 101 (by kernel_rfl)
theorem Uo:Fnc Tryz.prog 102:=cC 102 (by kernel_rfl)
theorem J6:Fnc Tryz.prog 104:=cC 104 (by kernel_rfl)
theorem LH:Fnc Tryz.prog 105:=cC 105 (by kernel_rfl)
theorem S8:Fnc Tryz.prog 106:=cC 106 (by kernel_rfl)
theorem sA:Fnc Tryz.prog 107:=cC 107 (by kernel_rfl)
theorem mU:Fnc Tryz.prog 108:=cC 108 (by kernel_rfl)
theorem mB:Fnc Tryz.prog 109:=cC 109 (by kernel_rfl)
theorem SP:Fnc Tryz.prog 110:=cC 110 (by kernel_rfl)
theorem R2:Fnc Tryz.prog 111:=cC 111 (by kernel_rfl)
theorem SN:Fnc Tryz.prog 112:=cC 112 (by kernel_rfl)
theorem Bg:Fnc Tryz.prog 113:=cC 113 (by kernel_rfl)
theorem jI:Fnc Tryz.prog 114:=cC 114 (by kernel_rfl)
theorem wx:Fnc Tryz.prog 115:=cC 115 (by kernel_rfl)
theorem HP:Fnc Tryz.prog 116:=cC 116 (by kernel_rfl)
theorem U9:Fnc Tryz.prog 117:=cC 117 (by kernel_rfl)
theorem TG:Fnc Tryz.prog 118:=cC 118 (by kernel_rfl)
theorem LY:Fnc Tryz.prog 119:=cC 119 (by kernel_rfl)
theorem UA:Fnc Tryz.prog 120:=cC 120 (by kernel_rfl)
theorem TT:Fnc Tryz.prog 121:=cC 121 (by kernel_rfl)
theorem UM:Fnc Tryz.prog 122:=cC 122 (by kernel_rfl)
theorem U4:Fnc Tryz.prog 123:=cC 123 (by kernel_rfl)
theorem UG:Fnc Tryz.prog 124:=cC 124 (by kernel_rfl)
theorem Ke:Fnc Tryz.prog 125:=cC 125 (by kernel_rfl)
theorem Jq:Fnc Tryz.prog 126:=cC 126 (by kernel_rfl)
theorem Cv:Fnc Tryz.prog 127:=cC 127 (by kernel_rfl)
theorem I5:Fnc Tryz.prog 128:=cC 128 (by kernel_rfl)
theorem UX:Fnc Tryz.prog 133:=cC 133 (by kernel_rfl)
theorem Tt:Fnc Tryz.prog 137:=cC 137 (by kernel_rfl)
theorem U8:Fnc Tryz.prog 145:=cC 145 (by kernel_rfl)
theorem R5:Fnc Tryz.prog 146:=cC 146 (by kernel_rfl)
theorem U7:Fnc Tryz.prog 147:=cC 147 (by kernel_rfl)
theorem CV:Fnc Tryz.prog 149:=cC 149 (by kernel_rfl)
theorem IM:Fnc Tryz.prog 150:=cC 150 (by kernel_rfl)
theorem LP:Fnc Tryz.prog 153:=cC 153 (by kernel_rfl)
theorem oB:Fnc Tryz.prog 154:=cC 154 (by kernel_rfl)
theorem TW:Fnc Tryz.prog 156:=cC 156 (by kernel_rfl)
theorem Ux:Fnc Tryz.prog 157:=cC 157 (by kernel_rfl)
theorem jH:Fnc Tryz.prog 158:=cC 158 (by kernel_rfl)
theorem Ic:Fnc Tryz.prog 159:=cC 159 (by kernel_rfl)
theorem LJ:Fnc Tryz.prog 160:=cC 160 (by kernel_rfl)
theorem Sj:Fnc Tryz.prog 161:=cC 161 (by kernel_rfl)
theorem KY:Fnc Tryz.prog 164:=cC 164 (by kernel_rfl)
theorem wb:Fnc Tryz.prog 177:=cC 177 (by kernel_rfl)
theorem CS:Fnc Tryz.prog 178:=cC 178 (by kernel_rfl)
theorem dJ:Fnc Tryz.prog 179:=cC 179 (by kernel_rfl)
theorem kZ:Fnc Tryz.prog 180:=cC 180 (by kernel_rfl)
theorem JT:Fnc Tryz.prog 181:=cC 181 (by kernel_rfl)
theorem R7:Fnc Tryz.prog 182:=cC 182 (by kernel_rfl)
theorem H2:Fnc Tryz.prog 183:=cC 183 (by kernel_rfl)
theorem jk:Fnc Tryz.prog 184:=cC 184 (by kernel_rfl)
theorem Bl:Fnc Tryz.prog 185:=cC 185 (by kernel_rfl)
theorem UC:Fnc Tryz.prog 186:=cC 186 (by kernel_rfl)
theorem Tp:Fnc Tryz.prog 187:=cC 187 (by kernel_rfl)
theorem UF:Fnc Tryz.prog 188:=cC 188 (by kernel_rfl)
theorem TS:Fnc Tryz.prog 189:=cC 189 (by kernel_rfl)
theorem Vp:Fnc Tryz.prog 190:=cC 190 (by kernel_rfl)
theorem Uq:Fnc Tryz.prog 191:=cC 191 (by kernel_rfl)
theorem CE:Fnc Tryz.prog 192:=cC 192 (by kernel_rfl)
theorem Vf:Fnc Tryz.prog 193:=cC 193 (by kernel_rfl)
theorem Uw:Fnc Tryz.prog 194:=cC 194 (by kernel_rfl)
theorem vv:Fnc Tryz.prog 195:=cC 195 (by kernel_rfl)
theorem xd:Fnc Tryz.prog 196:=cC 196 (by kernel_rfl)
theorem Tz:Fnc Tryz.prog 203:=cC 203 (by kernel_rfl)
theorem K4:Fnc Tryz.prog 205:=cC 205 (by kernel_rfl)
theorem U1:Fnc Tryz.prog 212:=cC 212 (by kernel_rfl)
theorem TP:Fnc Tryz.prog 213:=cC 213 (by kernel_rfl)
theorem LD:Fnc Tryz.prog 214:=cC 214 (by kernel_rfl)
theorem HK:Fnc Tryz.prog 215:=cC 215 (by kernel_rfl)
theorem RV:Fnc Tryz.prog 217:=cC 217 (by kernel_rfl)
theorem Tc:Fnc Tryz.prog 218:=cC 218 (by kernel_rfl)
theorem R6:Fnc Tryz.prog 221:=cC 221 (by kernel_rfl)
theorem To:Fnc Tryz.prog 222:=cC 222 (by kernel_rfl)
theorem Up:Fnc Tryz.prog 223:=cC 223 (by kernel_rfl)
theorem UP:Fnc Tryz.prog 224:=cC 224 (by kernel_rfl)
theorem LN:Fnc Tryz.prog 233:=cC 233 (by kernel_rfl)
theorem Ca:Fnc Tryz.prog 234:=cC 234 (by kernel_rfl)
theorem U0:Fnc Tryz.prog 235:=cC 235 (by kernel_rfl)
theorem Um:Fnc Tryz.prog 236:=cC 236 (by kernel_rfl)
theorem Sn:Fnc Tryz.prog 237:=cC 237 (by kernel_rfl)
theorem TD:Fnc Tryz.prog 238:=cC 238 (by kernel_rfl)
theorem CG:Fnc Tryz.prog 250:=cC 250 (by kernel_rfl)
theorem xl:Fnc Tryz.prog 263:=cC 263 (by kernel_rfl)
theorem TY:Fnc Tryz.prog 264:=cC 264 (by kernel_rfl)
theorem B5:Fnc Tryz.prog 265:=cC 265 (by kernel_rfl)
theorem II:Fnc Tryz.prog 266:=cC 266 (by kernel_rfl)
theorem LM:Fnc Tryz.prog 267:=cC 267 (by kernel_rfl)
theorem UR:Fnc Tryz.prog 270:=cC 270 (by kernel_rfl)
theorem SG:Fnc Tryz.prog 271:=cC 271 (by kernel_rfl)
theorem Ls:Fnc Tryz.prog 280:=cC 280 (by kernel_rfl)
theorem Us:Fnc Tryz.prog 281:=cC 281 (by kernel_rfl)
theorem RR:Fnc Tryz.prog 293:=cC 293 (by kernel_rfl)
theorem IH:Fnc Tryz.prog 294:=cC 294 (by kernel_rfl)
theorem Te:Fnc Tryz.prog 305:=cC 305 (by kernel_rfl)
theorem RZ:Fnc Tryz.prog 306:=cC 306 (by kernel_rfl)
theorem TF:Fnc Tryz.prog 310:=cC 310 (by kernel_rfl)
theorem B3:Fnc Tryz.prog 411:=cC 411 (by kernel_rfl)
def FT9:List (Nat × Nat × Nat):=[(24,0,0),(29,0,0),(29,1,1),(29,2,2),(31,0,0),(31,1,1),(31,2,2),(31,3,3),(36,0,0),(36,1,1),(36,2,2),(36,3,3),(36,4,4),(36,5,36),(36,6,37),(46,0,0),(46,1,1),(46,2,2),(48,0,0),(48,1,1),(48,2,33),(50,1,32),(50,2,66),(59,0,0),(59,1,1),(61,0,0),(61,1,1),(61,2,2),(61,3,3),(66,0,0),(66,1,1),(66,2,2),(66,3,3),(66,4,4),(69,0,0),(69,1,1),(72,0,0),(72,1,33),(72,2,66),(72,3,67),(83,0,0),(83,1,6),(109,0,0),(109,1,32),(112,0,0),(112,1,32),(112,2,33),(131,0,0),(131,1,1),(131,2,2),(131,3,3),(131,4,4),(164,0,0),(164,1,1),(164,2,33),(164,3,67),(164,4,68),(164,5,69),(164,6,70),(166,0,0),(166,1,1),(195,0,0),(197,1,32),(199,1,32),(199,2,33),(249,0,0),(249,1,1),(249,2,2),(249,3,3),(249,4,4),(249,5,5),(268,0,0),(268,1,32)]
theorem ac:FT Tryz.prog FT9:=⟨NH,No,On,Ns,NA,Nq,NS,OD,NM,Nh,Ng,Om,Oj,NW,NQ,Nk,PO,xB,Ep,Ev,O3,MC,P1,C6,M6,O5,Mz,MY,P3,qu,MU,wO,wI,vG,gD,xU,fw,Ol,g7,oq,Pi,Ny,HI,Hj,K8,LG,J8,IZ,IQ,JI,H6,JQ,Jf,Io,JW,JK,H1,Lv,KK,KG,Iw,Ht,HG,AG,rF,H9,Hg,G7,H3,JG,JP,LI,G9,trivial⟩
end Go.Proofs.YtkhepdpfdhdlaaaGreatDoor
