/- What the walks want of the program: its types and functions by number; no condition. -/
import Derived.Test.YtkhepdpfdhdlaaaGreatDoorProg
import Derived.KernelRfl
import Derived.Test.YtkhepdpfdhdlaaaGreatDoorWd
namespace Go.Proofs.YtkhepdpfdhdlaaaGreatDoor
abbrev ZG:=@Tryz.underlying33
abbrev ZH:=@Tryz.underlying5
abbrev ZI:=@Tryz.underlying24
abbrev ZJ:=@Tryz.underlying29
abbrev ZK:=@Tryz.underlying31
abbrev ZL:=@Tryz.underlying36
abbrev ZM:=@Tryz.underlying46
abbrev ZN:=@Tryz.underlying48
abbrev ZO:=@Tryz.underlying50
abbrev ZP:=@Tryz.underlying59
abbrev ZQ:=@Tryz.underlying61
abbrev ZR:=@Tryz.underlying66
abbrev ZS:=@Tryz.underlying69
abbrev ZT:=@Tryz.underlying72
abbrev ZU:=@Tryz.underlying83
abbrev ZV:=@Tryz.underlying109
abbrev ZW:=@Tryz.underlying112
abbrev ZX:=@Tryz.underlying131
abbrev ZY:=@Tryz.underlying164
abbrev ZZ:=@Tryz.underlying166
abbrev Z0:=@Tryz.underlying195
abbrev Z1:=@Tryz.underlying197
abbrev Z2:=@Tryz.underlying199
abbrev Z3:=@Tryz.underlying249
abbrev Z4:=@Tryz.underlying269
abbrev Z5:=@Tryz.underlying3
abbrev Z6:=@Tryz.underlying4
abbrev Z7:=@Tryz.underlying9
abbrev Z8:=@Tryz.underlying22
abbrev Z9:=@Tryz.underlying25
abbrev aa0:=@Tryz.underlying26
abbrev aa1:=@Tryz.underlying27
abbrev aa2:=@Tryz.underlying34
abbrev aa3:=@Tryz.underlying40
abbrev aa4:=@Tryz.underlying44
abbrev aa5:=@Tryz.underlying62
abbrev aa6:=@Tryz.underlying63
abbrev aa7:=@Tryz.underlying64
abbrev aa8:=@Tryz.underlying70
abbrev aa9:=@Tryz.underlying101
abbrev ab0:=@Tryz.underlying128
abbrev ab1:=@Tryz.underlying129
abbrev ab2:=@Tryz.underlying331
abbrev ab3:=@Tryz.underlying0
abbrev ab4:=@Tryz.underlying275
abbrev ab5:=@Tryz.underlying324
abbrev ab6:=@Tryz.underlying325
abbrev ab7:=@Tryz.underlying284
abbrev ab8:=@Tryz.underlying303
abbrev ab9:=@Tryz.underlying374
abbrev ac0:=@Tryz.underlying378
abbrev ac1:=@Tryz.underlying406
abbrev ac2:=@Tryz.underlying407
abbrev ac3:=@Tryz.underlying318
abbrev ac4:=@Tryz.underlying160
abbrev ac5:=@Tryz.underlying126
abbrev ac6:=@Tryz.underlying300
abbrev ac7:=@Tryz.underlying79
abbrev ac8:=@Tryz.underlying106
theorem fW:IdTy Tryz.prog 33 5:=⟨Tryz.underlying33,by kernel_rfl,Tryz.underlying5,by kernel_rfl,by rw [lx,dC];kernel_rfl⟩
theorem cv:Row Tryz.prog 24 1:=⟨⟨_,Tryz.underlying24,rfl⟩,by kernel_rfl⟩
theorem dP:Row Tryz.prog 29 3:=⟨⟨_,Tryz.underlying29,rfl⟩,by kernel_rfl⟩
theorem eP:Row Tryz.prog 31 6:=⟨⟨_,Tryz.underlying31,rfl⟩,by kernel_rfl⟩
theorem cJ:Row Tryz.prog 33 32:=⟨⟨_,Tryz.underlying33,rfl⟩,by kernel_rfl⟩
theorem TM:Row Tryz.prog 36 38:=⟨⟨_,Tryz.underlying36,rfl⟩,by kernel_rfl⟩
theorem i8:Row Tryz.prog 46 3:=⟨⟨_,Tryz.underlying46,rfl⟩,by kernel_rfl⟩
theorem eQ:Row Tryz.prog 48 34:=⟨⟨_,Tryz.underlying48,rfl⟩,by kernel_rfl⟩
theorem ja:Row Tryz.prog 50 67:=⟨⟨_,Tryz.underlying50,rfl⟩,by kernel_rfl⟩
theorem Uo:Row Tryz.prog 59 74:=⟨⟨_,Tryz.underlying59,rfl⟩,by kernel_rfl⟩
theorem qY:Row Tryz.prog 61 4:=⟨⟨_,Tryz.underlying61,rfl⟩,by kernel_rfl⟩
theorem dY:Row Tryz.prog 66 5:=⟨⟨_,Tryz.underlying66,rfl⟩,by kernel_rfl⟩
theorem bH:Row Tryz.prog 69 33:=⟨⟨_,Tryz.underlying69,rfl⟩,by kernel_rfl⟩
theorem fU:Row Tryz.prog 72 68:=⟨⟨_,Tryz.underlying72,rfl⟩,by kernel_rfl⟩
theorem Ut:Row Tryz.prog 83 7:=⟨⟨_,Tryz.underlying83,rfl⟩,by kernel_rfl⟩
theorem DN:Row Tryz.prog 109 33:=⟨⟨_,Tryz.underlying109,rfl⟩,by kernel_rfl⟩
theorem EZ:Row Tryz.prog 112 34:=⟨⟨_,Tryz.underlying112,rfl⟩,by kernel_rfl⟩
theorem gJ:Row Tryz.prog 131 5:=⟨⟨_,Tryz.underlying131,rfl⟩,by kernel_rfl⟩
theorem jy:Row Tryz.prog 164 71:=⟨⟨_,Tryz.underlying164,rfl⟩,by kernel_rfl⟩
theorem dZ:Row Tryz.prog 166 139:=⟨⟨_,Tryz.underlying166,rfl⟩,by kernel_rfl⟩
theorem Ea:Row Tryz.prog 195 32:=⟨⟨_,Tryz.underlying195,rfl⟩,by kernel_rfl⟩
theorem gL:Row Tryz.prog 197 33:=⟨⟨_,Tryz.underlying197,rfl⟩,by kernel_rfl⟩
theorem iB:Row Tryz.prog 199 34:=⟨⟨_,Tryz.underlying199,rfl⟩,by kernel_rfl⟩
theorem mY:Row Tryz.prog 249 6:=⟨⟨_,Tryz.underlying249,rfl⟩,by kernel_rfl⟩
theorem FN:Row Tryz.prog 269 4:=⟨⟨_,Tryz.underlying269,rfl⟩,by kernel_rfl⟩
theorem bs:One Tryz.prog 3:=⟨⟨_,Tryz.underlying3,rfl⟩,by kernel_rfl⟩
theorem cI:One Tryz.prog 4:=⟨⟨_,Tryz.underlying4,rfl⟩,by kernel_rfl⟩
theorem oJ:One Tryz.prog 5:=⟨⟨_,Tryz.underlying5,rfl⟩,by kernel_rfl⟩
theorem hI:One Tryz.prog 9:=⟨⟨_,Tryz.underlying9,rfl⟩,by kernel_rfl⟩
theorem eG:One Tryz.prog 22:=⟨⟨_,Tryz.underlying22,rfl⟩,by kernel_rfl⟩
theorem kL:One Tryz.prog 25:=⟨⟨_,Tryz.underlying25,rfl⟩,by kernel_rfl⟩
theorem jl:One Tryz.prog 26:=⟨⟨_,Tryz.underlying26,rfl⟩,by kernel_rfl⟩
theorem gf:One Tryz.prog 27:=⟨⟨_,Tryz.underlying27,rfl⟩,by kernel_rfl⟩
theorem i9:One Tryz.prog 34:=⟨⟨_,Tryz.underlying34,rfl⟩,by kernel_rfl⟩
theorem EX:One Tryz.prog 40:=⟨⟨_,Tryz.underlying40,rfl⟩,by kernel_rfl⟩
theorem Ay:One Tryz.prog 44:=⟨⟨_,Tryz.underlying44,rfl⟩,by kernel_rfl⟩
theorem x5:One Tryz.prog 62:=⟨⟨_,Tryz.underlying62,rfl⟩,by kernel_rfl⟩
theorem Al:One Tryz.prog 63:=⟨⟨_,Tryz.underlying63,rfl⟩,by kernel_rfl⟩
theorem rj:One Tryz.prog 64:=⟨⟨_,Tryz.underlying64,rfl⟩,by kernel_rfl⟩
theorem eO:One Tryz.prog 70:=⟨⟨_,Tryz.underlying70,rfl⟩,by kernel_rfl⟩
theorem uR:One Tryz.prog 101:=⟨⟨_,Tryz.underlying101,rfl⟩,by kernel_rfl⟩
theorem sW:One Tryz.prog 128:=⟨⟨_,Tryz.underlying128,rfl⟩,by kernel_rfl⟩
theorem kO:One Tryz.prog 129:=⟨⟨_,Tryz.underlying129,rfl⟩,by kernel_rfl⟩
theorem Gq:One Tryz.prog 142:=⟨⟨_,Tryz.underlying142,rfl⟩,by kernel_rfl⟩
theorem Fa:One Tryz.prog 157:=⟨⟨_,Tryz.underlying157,rfl⟩,by kernel_rfl⟩
theorem Vw:(Tryz.prog.info? 5).map (·.size)=some 1:=by kernel_rfl
theorem V0:(Tryz.prog.info? 9).map (·.size)=some 1:=by kernel_rfl
theorem A5:(Tryz.prog.info? 46).map (·.size)=some 3:=by kernel_rfl
theorem wC:(Tryz.prog.info? 48).map (·.size)=some 34:=by kernel_rfl
theorem FK:(Tryz.prog.info? 50).map (·.size)=some 67:=by kernel_rfl
theorem pZ:(Tryz.prog.info? 59).map (·.size)=some 74:=by kernel_rfl
theorem Nl:(Tryz.prog.info? 61).map (·.size)=some 4:=by kernel_rfl
theorem oR:(Tryz.prog.info? 66).map (·.size)=some 5:=by kernel_rfl
theorem fp:(Tryz.prog.info? 69).map (·.size)=some 33:=by kernel_rfl
theorem Nm:(Tryz.prog.info? 70).map (·.size)=some 1:=by kernel_rfl
theorem r4:(Tryz.prog.info? 72).map (·.size)=some 68:=by kernel_rfl
theorem PY:(Tryz.prog.info? 109).map (·.size)=some 33:=by kernel_rfl
theorem Pg:(Tryz.prog.info? 112).map (·.size)=some 34:=by kernel_rfl
theorem Ph:(Tryz.prog.info? 166).map (·.size)=some 139:=by kernel_rfl
theorem pX:(Tryz.prog.info? 197).map (·.size)=some 33:=by kernel_rfl
theorem lz:(Tryz.prog.info? 199).map (·.size)=some 34:=by kernel_rfl
theorem JV:Fld Tryz.prog 24 0 0:=⟨⟨_,_,0,Tryz.underlying24,rfl,by kernel_rfl,rfl⟩⟩
theorem Jy:Fld Tryz.prog 29 0 0:=⟨⟨_,_,0,Tryz.underlying29,rfl,by kernel_rfl,rfl⟩⟩
theorem KX:Fld Tryz.prog 29 1 1:=⟨⟨_,_,0,Tryz.underlying29,rfl,by kernel_rfl,rfl⟩⟩
theorem K6:Fld Tryz.prog 29 2 2:=⟨⟨_,_,0,Tryz.underlying29,rfl,by kernel_rfl,rfl⟩⟩
theorem LF:Fld Tryz.prog 31 0 0:=⟨⟨_,_,0,Tryz.underlying31,rfl,by kernel_rfl,rfl⟩⟩
theorem LL:Fld Tryz.prog 31 1 1:=⟨⟨_,_,0,Tryz.underlying31,rfl,by kernel_rfl,rfl⟩⟩
theorem Jk:Fld Tryz.prog 31 2 2:=⟨⟨_,_,0,Tryz.underlying31,rfl,by kernel_rfl,rfl⟩⟩
theorem K9:Fld Tryz.prog 31 3 3:=⟨⟨_,_,2,Tryz.underlying31,rfl,by kernel_rfl,rfl⟩⟩
theorem JH:Fld Tryz.prog 36 0 0:=⟨⟨_,_,0,Tryz.underlying36,rfl,by kernel_rfl,rfl⟩⟩
theorem IH:Fld Tryz.prog 36 1 1:=⟨⟨_,_,0,Tryz.underlying36,rfl,by kernel_rfl,rfl⟩⟩
theorem JO:Fld Tryz.prog 36 2 2:=⟨⟨_,_,0,Tryz.underlying36,rfl,by kernel_rfl,rfl⟩⟩
theorem JK:Fld Tryz.prog 36 4 4:=⟨⟨_,_,31,Tryz.underlying36,rfl,by kernel_rfl,rfl⟩⟩
theorem Jw:Fld Tryz.prog 36 5 36:=⟨⟨_,_,0,Tryz.underlying36,rfl,by kernel_rfl,rfl⟩⟩
theorem Ix:Fld Tryz.prog 36 6 37:=⟨⟨_,_,0,Tryz.underlying36,rfl,by kernel_rfl,rfl⟩⟩
theorem Is:Fld Tryz.prog 46 0 0:=⟨⟨_,_,0,Tryz.underlying46,rfl,by kernel_rfl,rfl⟩⟩
theorem IX:Fld Tryz.prog 46 1 1:=⟨⟨_,_,0,Tryz.underlying46,rfl,by kernel_rfl,rfl⟩⟩
theorem tB:Fld Tryz.prog 46 2 2:=⟨⟨_,_,0,Tryz.underlying46,rfl,by kernel_rfl,rfl⟩⟩
theorem Av:Fld Tryz.prog 48 0 0:=⟨⟨_,_,0,Tryz.underlying48,rfl,by kernel_rfl,rfl⟩⟩
theorem AZ:Fld Tryz.prog 48 1 1:=⟨⟨_,_,31,Tryz.underlying48,rfl,by kernel_rfl,rfl⟩⟩
theorem Jq:Fld Tryz.prog 48 2 33:=⟨⟨_,_,0,Tryz.underlying48,rfl,by kernel_rfl,rfl⟩⟩
theorem Ln:Fld Tryz.prog 50 1 32:=⟨⟨_,_,33,Tryz.underlying50,rfl,by kernel_rfl,rfl⟩⟩
theorem Jb:Fld Tryz.prog 50 2 66:=⟨⟨_,_,0,Tryz.underlying50,rfl,by kernel_rfl,rfl⟩⟩
theorem l5:Fld Tryz.prog 59 0 0:=⟨⟨_,_,0,Tryz.underlying59,rfl,by kernel_rfl,rfl⟩⟩
theorem IL:Fld Tryz.prog 59 1 1:=⟨⟨_,_,0,Tryz.underlying59,rfl,by kernel_rfl,rfl⟩⟩
theorem Be:Fld Tryz.prog 59 2 2:=⟨⟨_,_,0,Tryz.underlying59,rfl,by kernel_rfl,rfl⟩⟩
theorem AF:Fld Tryz.prog 59 4 4:=⟨⟨_,_,0,Tryz.underlying59,rfl,by kernel_rfl,rfl⟩⟩
theorem A1:Fld Tryz.prog 59 6 72:=⟨⟨_,_,0,Tryz.underlying59,rfl,by kernel_rfl,rfl⟩⟩
theorem Ku:Fld Tryz.prog 61 0 0:=⟨⟨_,_,0,Tryz.underlying61,rfl,by kernel_rfl,rfl⟩⟩
theorem LT:Fld Tryz.prog 61 1 1:=⟨⟨_,_,0,Tryz.underlying61,rfl,by kernel_rfl,rfl⟩⟩
theorem Bp:Fld Tryz.prog 61 2 2:=⟨⟨_,_,0,Tryz.underlying61,rfl,by kernel_rfl,rfl⟩⟩
theorem I4:Fld Tryz.prog 61 3 3:=⟨⟨_,_,0,Tryz.underlying61,rfl,by kernel_rfl,rfl⟩⟩
theorem mj:Fld Tryz.prog 66 0 0:=⟨⟨_,_,0,Tryz.underlying66,rfl,by kernel_rfl,rfl⟩⟩
theorem Km:Fld Tryz.prog 66 1 1:=⟨⟨_,_,0,Tryz.underlying66,rfl,by kernel_rfl,rfl⟩⟩
theorem tG:Fld Tryz.prog 66 2 2:=⟨⟨_,_,0,Tryz.underlying66,rfl,by kernel_rfl,rfl⟩⟩
theorem uc:Fld Tryz.prog 66 3 3:=⟨⟨_,_,0,Tryz.underlying66,rfl,by kernel_rfl,rfl⟩⟩
theorem tu:Fld Tryz.prog 66 4 4:=⟨⟨_,_,0,Tryz.underlying66,rfl,by kernel_rfl,rfl⟩⟩
theorem lR:Fld Tryz.prog 69 0 0:=⟨⟨_,_,0,Tryz.underlying69,rfl,by kernel_rfl,rfl⟩⟩
theorem sN:Fld Tryz.prog 69 1 1:=⟨⟨_,_,31,Tryz.underlying69,rfl,by kernel_rfl,rfl⟩⟩
theorem fu:Fld Tryz.prog 72 0 0:=⟨⟨_,_,32,Tryz.underlying72,rfl,by kernel_rfl,rfl⟩⟩
theorem Kg:Fld Tryz.prog 72 1 33:=⟨⟨_,_,32,Tryz.underlying72,rfl,by kernel_rfl,rfl⟩⟩
theorem l4:Fld Tryz.prog 72 2 66:=⟨⟨_,_,0,Tryz.underlying72,rfl,by kernel_rfl,rfl⟩⟩
theorem lX:Fld Tryz.prog 72 3 67:=⟨⟨_,_,0,Tryz.underlying72,rfl,by kernel_rfl,rfl⟩⟩
theorem J9:Fld Tryz.prog 83 0 0:=⟨⟨_,_,5,Tryz.underlying83,rfl,by kernel_rfl,rfl⟩⟩
theorem Jj:Fld Tryz.prog 83 1 6:=⟨⟨_,_,0,Tryz.underlying83,rfl,by kernel_rfl,rfl⟩⟩
theorem EM:Fld Tryz.prog 109 0 0:=⟨⟨_,_,31,Tryz.underlying109,rfl,by kernel_rfl,rfl⟩⟩
theorem F3:Fld Tryz.prog 109 1 32:=⟨⟨_,_,0,Tryz.underlying109,rfl,by kernel_rfl,rfl⟩⟩
theorem Hj:Fld Tryz.prog 112 0 0:=⟨⟨_,_,31,Tryz.underlying112,rfl,by kernel_rfl,rfl⟩⟩
theorem Gf:Fld Tryz.prog 112 1 32:=⟨⟨_,_,0,Tryz.underlying112,rfl,by kernel_rfl,rfl⟩⟩
theorem Hc:Fld Tryz.prog 112 2 33:=⟨⟨_,_,0,Tryz.underlying112,rfl,by kernel_rfl,rfl⟩⟩
theorem D8:Fld Tryz.prog 131 0 0:=⟨⟨_,_,0,Tryz.underlying131,rfl,by kernel_rfl,rfl⟩⟩
theorem Ez:Fld Tryz.prog 131 1 1:=⟨⟨_,_,0,Tryz.underlying131,rfl,by kernel_rfl,rfl⟩⟩
theorem Gs:Fld Tryz.prog 131 2 2:=⟨⟨_,_,0,Tryz.underlying131,rfl,by kernel_rfl,rfl⟩⟩
theorem E6:Fld Tryz.prog 131 3 3:=⟨⟨_,_,0,Tryz.underlying131,rfl,by kernel_rfl,rfl⟩⟩
theorem Gu:Fld Tryz.prog 131 4 4:=⟨⟨_,_,0,Tryz.underlying131,rfl,by kernel_rfl,rfl⟩⟩
theorem EO:Fld Tryz.prog 164 0 0:=⟨⟨_,_,0,Tryz.underlying164,rfl,by kernel_rfl,rfl⟩⟩
theorem ET:Fld Tryz.prog 164 1 1:=⟨⟨_,_,31,Tryz.underlying164,rfl,by kernel_rfl,rfl⟩⟩
theorem EY:Fld Tryz.prog 164 2 33:=⟨⟨_,_,33,Tryz.underlying164,rfl,by kernel_rfl,rfl⟩⟩
theorem Gm:Fld Tryz.prog 164 3 67:=⟨⟨_,_,0,Tryz.underlying164,rfl,by kernel_rfl,rfl⟩⟩
theorem DF:Fld Tryz.prog 164 4 68:=⟨⟨_,_,0,Tryz.underlying164,rfl,by kernel_rfl,rfl⟩⟩
theorem DD:Fld Tryz.prog 164 5 69:=⟨⟨_,_,0,Tryz.underlying164,rfl,by kernel_rfl,rfl⟩⟩
theorem DG:Fld Tryz.prog 164 6 70:=⟨⟨_,_,0,Tryz.underlying164,rfl,by kernel_rfl,rfl⟩⟩
theorem DR:Fld Tryz.prog 166 0 0:=⟨⟨_,_,0,Tryz.underlying166,rfl,by kernel_rfl,rfl⟩⟩
theorem Ei:Fld Tryz.prog 166 1 1:=⟨⟨_,_,70,Tryz.underlying166,rfl,by kernel_rfl,rfl⟩⟩
theorem FJ:Fld Tryz.prog 195 0 0:=⟨⟨_,_,31,Tryz.underlying195,rfl,by kernel_rfl,rfl⟩⟩
theorem G3:Fld Tryz.prog 197 0 0:=⟨⟨_,_,31,Tryz.underlying197,rfl,by kernel_rfl,rfl⟩⟩
theorem H5:Fld Tryz.prog 197 1 32:=⟨⟨_,_,0,Tryz.underlying197,rfl,by kernel_rfl,rfl⟩⟩
theorem wg:Fld Tryz.prog 199 1 32:=⟨⟨_,_,0,Tryz.underlying199,rfl,by kernel_rfl,rfl⟩⟩
theorem pp:Fld Tryz.prog 199 2 33:=⟨⟨_,_,0,Tryz.underlying199,rfl,by kernel_rfl,rfl⟩⟩
theorem If:Fld Tryz.prog 249 0 0:=⟨⟨_,_,0,Tryz.underlying249,rfl,by kernel_rfl,rfl⟩⟩
theorem HQ:Fld Tryz.prog 249 1 1:=⟨⟨_,_,0,Tryz.underlying249,rfl,by kernel_rfl,rfl⟩⟩
theorem H3:Fld Tryz.prog 249 2 2:=⟨⟨_,_,0,Tryz.underlying249,rfl,by kernel_rfl,rfl⟩⟩
theorem DV:Fld Tryz.prog 249 3 3:=⟨⟨_,_,0,Tryz.underlying249,rfl,by kernel_rfl,rfl⟩⟩
theorem HE:Fld Tryz.prog 249 4 4:=⟨⟨_,_,0,Tryz.underlying249,rfl,by kernel_rfl,rfl⟩⟩
theorem DS:Fld Tryz.prog 249 5 5:=⟨⟨_,_,0,Tryz.underlying249,rfl,by kernel_rfl,rfl⟩⟩
theorem FP:Fld Tryz.prog 268 0 0:=⟨⟨_,_,31,Tryz.underlying268,rfl,by kernel_rfl,rfl⟩⟩
theorem Fl:Fld Tryz.prog 268 1 32:=⟨⟨_,_,33,Tryz.underlying268,rfl,by kernel_rfl,rfl⟩⟩
theorem Vi:EqV Tryz.prog 2 33 (32*1) (λxs=>xs.length=32*1/\∀ i,i<32->∃ n,(xs.drop (i*1)).take 1=[Value.int .u8 n]) Bq:=EqV.arr (n:=32) (EqV.int .u8 Tryz.underlying5 (by kernel_rfl)) Tryz.underlying33 (by kernel_rfl)
theorem QW (x y:cO):UU Tryz.prog 3 48 34 (co x) (co y):=⟨_,EqV.struct' [(1,(λxs=>∃ n,xs=[Value.int .i64 n])),(32*1,(λxs=>xs.length=32*1/\∀ i,i<32->∃ n,(xs.drop (i*1)).take 1=[Value.int .u8 n])),(1,(λxs=>∃ n,xs=[Value.int .i64 n]))] Tryz.underlying48 (by kernel_rfl) (by kernel_rfl) ⟨by decide,⟨Cc,(EqV.int .i64 Tryz.underlying3 (by kernel_rfl)).up⟩,by decide,⟨Bq,Vi⟩,by decide,⟨Cc,(EqV.int .i64 Tryz.underlying3 (by kernel_rfl)).up⟩,trivial⟩ ⟨rfl,rfl,rfl,rfl⟩,⟨by rw [YD,br],⟨_,As _⟩,(by show _/\_;unfold pJ;dsimp only;rw [BK];exact sZ _ _),⟨_,BO _⟩,trivial⟩,⟨by rw [YD,br],⟨_,As _⟩,(by show _/\_;unfold pJ;dsimp only;rw [BK];exact sZ _ _),⟨_,BO _⟩,trivial⟩⟩
theorem xX:Stt Tryz.prog 48 eZ:=⟨⟨_,Tryz.underlying48,rfl,λi f hf=>by
 match i,hf with
 |0,hf=>cases hf;exact ⟨_,rfl,by kernel_rfl,rfl⟩
 |1,hf=>cases hf;exact ⟨_,rfl,by kernel_rfl,rfl⟩
 |2,hf=>cases hf;exact ⟨_,rfl,by kernel_rfl,rfl⟩
 |i+3,hf=>simp at hf⟩,by kernel_rfl⟩
theorem Pv:Stt Tryz.prog 164 P4:=⟨⟨_,Tryz.underlying164,rfl,λi f hf=>by
 match i,hf with
 |0,hf=>cases hf;exact ⟨_,rfl,by kernel_rfl,rfl⟩
 |1,hf=>cases hf;exact ⟨_,rfl,by kernel_rfl,rfl⟩
 |2,hf=>cases hf;exact ⟨_,rfl,by kernel_rfl,rfl⟩
 |3,hf=>cases hf;exact ⟨_,rfl,by kernel_rfl,rfl⟩
 |4,hf=>cases hf;exact ⟨_,rfl,by kernel_rfl,rfl⟩
 |5,hf=>cases hf;exact ⟨_,rfl,by kernel_rfl,rfl⟩
 |6,hf=>cases hf;exact ⟨_,rfl,by kernel_rfl,rfl⟩
 |i+7,hf=>simp at hf⟩,by kernel_rfl⟩
theorem qG:Stt Tryz.prog 249 fZ:=⟨⟨_,Tryz.underlying249,rfl,λi f hf=>by
 match i,hf with
 |0,hf=>cases hf;exact ⟨_,rfl,by kernel_rfl,rfl⟩
 |1,hf=>cases hf;exact ⟨_,rfl,by kernel_rfl,rfl⟩
 |2,hf=>cases hf;exact ⟨_,rfl,by kernel_rfl,rfl⟩
 |3,hf=>cases hf;exact ⟨_,rfl,by kernel_rfl,rfl⟩
 |4,hf=>cases hf;exact ⟨_,rfl,by kernel_rfl,rfl⟩
 |5,hf=>cases hf;exact ⟨_,rfl,by kernel_rfl,rfl⟩
 |i+6,hf=>simp at hf⟩,by kernel_rfl⟩
theorem TA:Stt Tryz.prog 46 Xv:=⟨⟨_,Tryz.underlying46,rfl,λi f hf=>by
 match i,hf with
 |0,hf=>cases hf;exact ⟨_,rfl,by kernel_rfl,rfl⟩
 |1,hf=>cases hf;exact ⟨_,rfl,by kernel_rfl,rfl⟩
 |2,hf=>cases hf;exact ⟨_,rfl,by kernel_rfl,rfl⟩
 |i+3,hf=>simp at hf⟩,by kernel_rfl⟩
theorem pB:Stt Tryz.prog 166 US:=⟨⟨_,Tryz.underlying166,rfl,λi f hf=>by
 match i,hf with
 |0,hf=>cases hf;exact ⟨_,rfl,by kernel_rfl,rfl⟩
 |1,hf=>cases hf;exact ⟨_,rfl,by kernel_rfl,rfl⟩
 |2,hf=>cases hf;exact ⟨_,rfl,by kernel_rfl,rfl⟩
 |i+3,hf=>simp at hf⟩,by kernel_rfl⟩
theorem Mo:Stt Tryz.prog 66 Sr:=⟨⟨_,Tryz.underlying66,rfl,λi f hf=>by
 match i,hf with
 |0,hf=>cases hf;exact ⟨_,rfl,by kernel_rfl,rfl⟩
 |1,hf=>cases hf;exact ⟨_,rfl,by kernel_rfl,rfl⟩
 |2,hf=>cases hf;exact ⟨_,rfl,by kernel_rfl,rfl⟩
 |3,hf=>cases hf;exact ⟨_,rfl,by kernel_rfl,rfl⟩
 |4,hf=>cases hf;exact ⟨_,rfl,by kernel_rfl,rfl⟩
 |i+5,hf=>simp at hf⟩,by kernel_rfl⟩
theorem Sw:Stt Tryz.prog 131 Sr:=⟨⟨_,Tryz.underlying131,rfl,λi f hf=>by
 match i,hf with
 |0,hf=>cases hf;exact ⟨_,rfl,by kernel_rfl,rfl⟩
 |1,hf=>cases hf;exact ⟨_,rfl,by kernel_rfl,rfl⟩
 |2,hf=>cases hf;exact ⟨_,rfl,by kernel_rfl,rfl⟩
 |3,hf=>cases hf;exact ⟨_,rfl,by kernel_rfl,rfl⟩
 |4,hf=>cases hf;exact ⟨_,rfl,by kernel_rfl,rfl⟩
 |i+5,hf=>simp at hf⟩,by kernel_rfl⟩
theorem Up:Stt Tryz.prog 197 UG:=⟨⟨_,Tryz.underlying197,rfl,λi f hf=>by
 match i,hf with
 |0,hf=>cases hf;exact ⟨_,rfl,by kernel_rfl,rfl⟩
 |1,hf=>cases hf;exact ⟨_,rfl,by kernel_rfl,rfl⟩
 |i+2,hf=>simp at hf⟩,by kernel_rfl⟩
theorem Tq:Stt Tryz.prog 199 UL:=⟨⟨_,Tryz.underlying199,rfl,λi f hf=>by
 match i,hf with
 |0,hf=>cases hf;exact ⟨_,rfl,by kernel_rfl,rfl⟩
 |1,hf=>cases hf;exact ⟨_,rfl,by kernel_rfl,rfl⟩
 |2,hf=>cases hf;exact ⟨_,rfl,by kernel_rfl,rfl⟩
 |i+3,hf=>simp at hf⟩,by kernel_rfl⟩
theorem Nk:Stt Tryz.prog 195 Xu:=⟨⟨_,Tryz.underlying195,rfl,λi f hf=>by
 match i,hf with
 |0,hf=>cases hf;exact ⟨_,rfl,by kernel_rfl,rfl⟩
 |i+1,hf=>simp at hf⟩,by kernel_rfl⟩
theorem L9:Stt Tryz.prog 59 VF:=⟨⟨_,Tryz.underlying59,rfl,λi f hf=>by
 match i,hf with
 |0,hf=>cases hf;exact ⟨_,rfl,by kernel_rfl,rfl⟩
 |1,hf=>cases hf;exact ⟨_,rfl,by kernel_rfl,rfl⟩
 |2,hf=>cases hf;exact ⟨_,rfl,by kernel_rfl,rfl⟩
 |3,hf=>cases hf;exact ⟨_,rfl,by kernel_rfl,rfl⟩
 |4,hf=>cases hf;exact ⟨_,rfl,by kernel_rfl,rfl⟩
 |5,hf=>cases hf;exact ⟨_,rfl,by kernel_rfl,rfl⟩
 |6,hf=>cases hf;exact ⟨_,rfl,by kernel_rfl,rfl⟩
 |7,hf=>cases hf;exact ⟨_,rfl,by kernel_rfl,rfl⟩
 |i+8,hf=>simp at hf⟩,by kernel_rfl⟩
theorem rE:Stt Tryz.prog 29 Xt:=⟨⟨_,Tryz.underlying29,rfl,λi f hf=>by
 match i,hf with
 |0,hf=>cases hf;exact ⟨_,rfl,by kernel_rfl,rfl⟩
 |1,hf=>cases hf;exact ⟨_,rfl,by kernel_rfl,rfl⟩
 |2,hf=>cases hf;exact ⟨_,rfl,by kernel_rfl,rfl⟩
 |i+3,hf=>simp at hf⟩,by kernel_rfl⟩
theorem S0:Stt Tryz.prog 61 Xn:=⟨⟨_,Tryz.underlying61,rfl,λi f hf=>by
 match i,hf with
 |0,hf=>cases hf;exact ⟨_,rfl,by kernel_rfl,rfl⟩
 |1,hf=>cases hf;exact ⟨_,rfl,by kernel_rfl,rfl⟩
 |2,hf=>cases hf;exact ⟨_,rfl,by kernel_rfl,rfl⟩
 |3,hf=>cases hf;exact ⟨_,rfl,by kernel_rfl,rfl⟩
 |i+4,hf=>simp at hf⟩,by kernel_rfl⟩
theorem Vv:EqV Tryz.prog 2 33 (32*1) (λxs=>xs.length=32*1/\∀ i,i<32->∃ n,(xs.drop (i*1)).take 1=[Value.int .u8 n]) Bq:=EqV.arr (n:=32) (EqV.int .u8 Tryz.underlying5 (by kernel_rfl)) Tryz.underlying33 (by kernel_rfl)
theorem LU (x y:Mb):UU Tryz.prog 3 69 33 (az x) (az y):=⟨_,EqV.struct' [(1,(λxs=>∃ n,xs=[Value.int .i64 n])),(32*1,(λxs=>xs.length=32*1/\∀ i,i<32->∃ n,(xs.drop (i*1)).take 1=[Value.int .u8 n]))] Tryz.underlying69 (by kernel_rfl) (by kernel_rfl) ⟨by decide,⟨Cc,(EqV.int .i64 Tryz.underlying3 (by kernel_rfl)).up⟩,by decide,⟨Bq,Vv⟩,trivial⟩ ⟨rfl,rfl,rfl⟩,⟨by rw [YD,am],⟨_,xo _⟩,(by show _/\_;unfold pJ;dsimp only;rw [vW];exact sZ _ _),trivial⟩,⟨by rw [YD,am],⟨_,xo _⟩,(by show _/\_;unfold pJ;dsimp only;rw [vW];exact sZ _ _),trivial⟩⟩
theorem AU:Stt Tryz.prog 69 UB:=⟨⟨_,Tryz.underlying69,rfl,λi f hf=>by
 match i,hf with
 |0,hf=>cases hf;exact ⟨_,rfl,by kernel_rfl,rfl⟩
 |1,hf=>cases hf;exact ⟨_,rfl,by kernel_rfl,rfl⟩
 |i+2,hf=>simp at hf⟩,by kernel_rfl⟩
theorem SJ:Stt Tryz.prog 72 UP:=⟨⟨_,Tryz.underlying72,rfl,λi f hf=>by
 match i,hf with
 |0,hf=>cases hf;exact ⟨_,rfl,by kernel_rfl,rfl⟩
 |1,hf=>cases hf;exact ⟨_,rfl,by kernel_rfl,rfl⟩
 |2,hf=>cases hf;exact ⟨_,rfl,by kernel_rfl,rfl⟩
 |3,hf=>cases hf;exact ⟨_,rfl,by kernel_rfl,rfl⟩
 |i+4,hf=>simp at hf⟩,by kernel_rfl⟩
theorem AG:Stt Tryz.prog 24 W5:=⟨⟨_,Tryz.underlying24,rfl,λi f hf=>by
 match i,hf with
 |0,hf=>cases hf;exact ⟨_,rfl,by kernel_rfl,rfl⟩
 |i+1,hf=>simp at hf⟩,by kernel_rfl⟩
theorem xL:Stt Tryz.prog 36 Um:=⟨⟨_,Tryz.underlying36,rfl,λi f hf=>by
 match i,hf with
 |0,hf=>cases hf;exact ⟨_,rfl,by kernel_rfl,rfl⟩
 |1,hf=>cases hf;exact ⟨_,rfl,by kernel_rfl,rfl⟩
 |2,hf=>cases hf;exact ⟨_,rfl,by kernel_rfl,rfl⟩
 |3,hf=>cases hf;exact ⟨_,rfl,by kernel_rfl,rfl⟩
 |4,hf=>cases hf;exact ⟨_,rfl,by kernel_rfl,rfl⟩
 |5,hf=>cases hf;exact ⟨_,rfl,by kernel_rfl,rfl⟩
 |6,hf=>cases hf;exact ⟨_,rfl,by kernel_rfl,rfl⟩
 |i+7,hf=>simp at hf⟩,by kernel_rfl⟩
theorem M2:Stt Tryz.prog 31 Xq:=⟨⟨_,Tryz.underlying31,rfl,λi f hf=>by
 match i,hf with
 |0,hf=>cases hf;exact ⟨_,rfl,by kernel_rfl,rfl⟩
 |1,hf=>cases hf;exact ⟨_,rfl,by kernel_rfl,rfl⟩
 |2,hf=>cases hf;exact ⟨_,rfl,by kernel_rfl,rfl⟩
 |3,hf=>cases hf;exact ⟨_,rfl,by kernel_rfl,rfl⟩
 |i+4,hf=>simp at hf⟩,by kernel_rfl⟩
theorem TX:Stt Tryz.prog 83 W3:=⟨⟨_,Tryz.underlying83,rfl,λi f hf=>by
 match i,hf with
 |0,hf=>cases hf;exact ⟨_,rfl,by kernel_rfl,rfl⟩
 |1,hf=>cases hf;exact ⟨_,rfl,by kernel_rfl,rfl⟩
 |i+2,hf=>simp at hf⟩,by kernel_rfl⟩
theorem gW:(Tryz.prog.info? 5).map (·.size)=some 1:=by kernel_rfl
theorem BQ:(Tryz.prog.info? 266).map (·.size)=some 1:=by kernel_rfl
theorem AI:(Tryz.prog.info? 4).bind (·.zero)=some (.bool false):=by kernel_rfl
theorem yH:(Tryz.prog.info? 24).bind (·.zero)=some (.agg #[aj]):=by kernel_rfl
theorem zU:(Tryz.prog.info? 29).bind (·.zero)=some (.agg (#[aj,.int .i64 0,.int .i64 0])):=by kernel_rfl
theorem oM:(Tryz.prog.info? 31).bind (·.zero)=some (.agg (dM aj aj aj aj 0 0)):=by kernel_rfl
theorem sm:(Tryz.prog.info? 33).bind (·.zero)=some (lx 0#256):=fW.zero
theorem zD:(Tryz.prog.info? 46).bind (·.zero)=some (.agg (de 0 ByteArray.empty aj)):=by kernel_rfl
theorem yG:(Tryz.prog.info? 48).bind (·.zero)=some (.agg (co (0,0#256,0))):=by rw [gm];kernel_rfl
theorem NE:(Tryz.prog.info? 50).bind (·.zero)=some (.agg (bY eg)):=by rw [tQ];kernel_rfl
theorem HL:(Tryz.prog.info? 61).bind (·.zero)=some (.agg (dl qO)):=by kernel_rfl
theorem m8:(Tryz.prog.info? 66).bind (·.zero)=some (.agg (a8 0 0 aj aj aj)):=by kernel_rfl
theorem gI:(Tryz.prog.info? 69).bind (·.zero)=some (.agg (az bE)):=by rw [tU];kernel_rfl
theorem Qp:(Tryz.prog.info? 70).bind (·.zero)=some (.slice none 0 0):=by kernel_rfl
theorem uG:(Tryz.prog.info? 72).bind (·.zero)=some (.agg (bJ bE bE aj aj)):=by rw [Ls];kernel_rfl
theorem OJ:(Tryz.prog.info? 77).bind (·.zero)=some (.nilFunc):=by kernel_rfl
theorem Qd:(Tryz.prog.info? 83).bind (·.zero)=some (.agg (ef aj aj aj aj 0 0 aj)):=by kernel_rfl
theorem K5:(Tryz.prog.info? 101).bind (·.zero)=some (.pointer none):=by kernel_rfl
theorem Jt:(Tryz.prog.info? 109).bind (·.zero)=some (.agg (cP dR)):=by rw [An];kernel_rfl
theorem KZ:(Tryz.prog.info? 112).bind (·.zero)=some (.agg (c7 eV)):=by rw [Bw];kernel_rfl
theorem oB:(Tryz.prog.info? 131).bind (·.zero)=some (.agg (a8 0 0 aj aj aj)):=by kernel_rfl
theorem ug:(Tryz.prog.info? 164).bind (·.zero)=some (.agg (cW mZ aj)):=by rw [show cW mZ aj=cW mZ (.slice none 0 0) from rfl,rU];kernel_rfl
theorem tE:(Tryz.prog.info? 166).bind (·.zero)=some (.agg (bK 0 mZ aj eg)):=by rw [La];kernel_rfl
theorem Bl:(Tryz.prog.info? 197).bind (·.zero)=some (.agg (cP dR)):=by rw [An];kernel_rfl
theorem KB:(Tryz.prog.info? 199).bind (·.zero)=some (.agg (c7 eV)):=by rw [Bw];kernel_rfl
theorem lG:(Tryz.prog.info? 249).bind (·.zero)=some (.agg (dV 0)):=by kernel_rfl
theorem AC:(Tryz.prog.info? 269).bind (·.zero)=some (.agg #[.nilFunc,.nilFunc,.nilFunc,.nilFunc]):=by kernel_rfl
theorem IR:(Tryz.prog.info? 388).bind (·.zero)=some (.agg (ca (λ_=>0) 8)):=by rw [show ca (λ_=>0) 8=(List.replicate 8 (Value.int .u8 0)).toArray from rfl];kernel_rfl
theorem cD (n:Nat) (h:(match Tryz.prog.funcs[n]? with|some fn => !fn.body.isNone && !(fn.name == "runtime.NumGoroutine")|none=>false)=true):Fnc Tryz.prog n:=by
 cases hf:Tryz.prog.funcs[n]? with
 |none=>rw [hf] at h;simp at h
 |some fn=>rw [hf] at h;simp only [Yw,Bool.not_eq_true'] at h;exact ⟨⟨fn,hf,h.1,h.2⟩⟩
theorem oI:Elm Tryz.prog 5 1 1:=eM (by kernel_rfl) (by decide)
theorem SE:Elm Tryz.prog 9 1 16:=eM (by kernel_rfl) (by decide)
theorem A2:Elm Tryz.prog 46 3 48:=eM (by kernel_rfl) (by decide)
theorem Bt:Elm Tryz.prog 48 34 48:=eM (by kernel_rfl) (by decide)
theorem MO:Elm Tryz.prog 50 67 88:=eM (by kernel_rfl) (by decide)
theorem M1:Elm Tryz.prog 59 74 152:=eM (by kernel_rfl) (by decide)
theorem Bc:Elm Tryz.prog 61 4 40:=eM (by kernel_rfl) (by decide)
theorem Bj:Elm Tryz.prog 66 5 88:=eM (by kernel_rfl) (by decide)
theorem ny:Elm Tryz.prog 69 33 40:=eM (by kernel_rfl) (by decide)
theorem Uq:Elm Tryz.prog 70 1 24:=eM (by kernel_rfl) (by decide)
theorem rh:Elm Tryz.prog 72 68 128:=eM (by kernel_rfl) (by decide)
theorem HM:Elm Tryz.prog 109 33 40:=eM (by kernel_rfl) (by decide)
theorem HI:Elm Tryz.prog 112 34 48:=eM (by kernel_rfl) (by decide)
theorem GF:Elm Tryz.prog 166 139 248:=eM (by kernel_rfl) (by decide)
theorem GU:Elm Tryz.prog 197 33 40:=eM (by kernel_rfl) (by decide)
theorem Fb:Elm Tryz.prog 199 34 48:=eM (by kernel_rfl) (by decide)
theorem Ab:(Tryz.prog.info? 5).bind (·.zero)=some (.int .u8 0):=by kernel_rfl
theorem U0:Fnc Tryz.prog 6:=cD 6 (by kernel_rfl)
theorem RA:Fnc Tryz.prog 7:=cD 7 (by kernel_rfl)
theorem It:Fnc Tryz.prog 8:=cD 8 (by kernel_rfl)
theorem wW:Fnc Tryz.prog 10:=cD 10 (by kernel_rfl)
theorem S6:Fnc Tryz.prog 14:=cD 14 (by kernel_rfl)
theorem TI:Fnc Tryz.prog 15:=cD 15 (by kernel_rfl)
theorem TH:Fnc Tryz.prog 16:=cD 16 (by kernel_rfl)
theorem Mv:Fnc Tryz.prog 17:=cD 17 (by kernel_rfl)
theorem TS:Fnc Tryz.prog 18:=cD 18 (by kernel_rfl)
theorem Tt:Fnc Tryz.prog 19:=cD 19 (by kernel_rfl)
theorem Gj:Fnc Tryz.prog 26:=cD 26 (by kernel_rfl)
theorem GY:Fnc Tryz.prog 27:=cD 27 (by kernel_rfl)
theorem FC:Fnc Tryz.prog 28:=cD 28 (by kernel_rfl)
theorem Fw:Fnc Tryz.prog 29:=cD 29 (by kernel_rfl)
theorem Hg:Fnc Tryz.prog 30:=cD 30 (by kernel_rfl)
theorem MM:Fnc Tryz.prog 31:=cD 31 (by kernel_rfl)
theorem SU:Fnc Tryz.prog 32:=cD 32 (by kernel_rfl)
theorem BD:Fnc Tryz.prog 33:=cD 33 (by kernel_rfl)
theorem RU:Fnc Tryz.prog 34:=cD 34 (by kernel_rfl)
theorem S4:Fnc Tryz.prog 39:=cD 39 (by kernel_rfl)
theorem TQ:Fnc Tryz.prog 42:=cD 42 (by kernel_rfl)
theorem S3:Fnc Tryz.prog 43:=cD 43 (by kernel_rfl)
theorem M5:Fnc Tryz.prog 49:=cD 49 (by kernel_rfl)
theorem A4:Fnc Tryz.prog 50:=cD 50 (by kernel_rfl)
theorem Tz:Fnc Tryz.prog 51:=cD 51 (by kernel_rfl)
theorem R2:Fnc Tryz.prog 52:=cD 52 (by kernel_rfl)
theorem Sm:Fnc Tryz.prog 53:=cD 53 (by kernel_rfl)
theorem Un:Fnc Tryz.prog 54:=cD 54 (by kernel_rfl)
theorem RC:Fnc Tryz.prog 55:=cD 55 (by kernel_rfl)
theorem M3:Fnc Tryz.prog 56:=cD 56 (by kernel_rfl)
theorem LY:Fnc Tryz.prog 57:=cD 57 (by kernel_rfl)
theorem Mt:Fnc Tryz.prog 61:=cD 61 (by kernel_rfl)
theorem Tx:Fnc Tryz.prog 62:=cD 62 (by kernel_rfl)
theorem EV:Fnc Tryz.prog 63:=cD 63 (by kernel_rfl)
theorem vQ:Fnc Tryz.prog 64:=cD 64 (by kernel_rfl)
theorem Fv:Fnc Tryz.prog 65:=cD 65 (by kernel_rfl)
theorem LW:Fnc Tryz.prog 66:=cD 66 (by kernel_rfl)
theorem Uj:Fnc Tryz.prog 67:=cD 67 (by kernel_rfl)
theorem GO:Fnc Tryz.prog 68:=cD 68 (by kernel_rfl)
theorem H9:Fnc Tryz.prog 69:=cD 69 (by kernel_rfl)
theorem Tp:Fnc Tryz.prog 70:=cD 70 (by kernel_rfl)
theorem Sb:Fnc Tryz.prog 71:=cD 71 (by kernel_rfl)
theorem R6:Fnc Tryz.prog 72:=cD 72 (by kernel_rfl)
theorem SN:Fnc Tryz.prog 75:=cD 75 (by kernel_rfl)
theorem Mq:Fnc Tryz.prog 76:=cD 76 (by kernel_rfl)
theorem Rb:Fnc Tryz.prog 85:=cD 85 (by kernel_rfl)
theorem u5:Fnc Tryz.prog 86:=cD 86 (by kernel_rfl)
theorem Q8:Fnc Tryz.prog 87:=cD 87 (by kernel_rfl)
theorem Ge:Fnc Tryz.prog 88:=cD 88 (by kernel_rfl)
theorem S5:Fnc Tryz.prog 91:=cD 91 (by kernel_rfl)
theorem Mx:Fnc Tryz.prog 92:=cD 92 (by kernel_rfl)
theorem MF:Fnc Tryz.prog 93:=cD 93 (by kernel_rfl)
theorem Tr:Fnc Tryz.prog 94:=cD 94 (by kernel_rfl)
theorem MI:Fnc Tryz.prog 95:=cD 95 (by kernel_rfl)
theorem NU:Fnc Tryz.prog 102:=cD 102 (by kernel_rfl)
theorem F5:Fnc Tryz.prog 105:=cD 105 (by kernel_rfl)
theorem NH:Fnc Tryz.prog 106:=cD 106 (by kernel_rfl)
theorem pL:Fnc Tryz.prog 107:=cD 107 (by kernel_rfl)
theorem oD:Fnc Tryz.prog 108:=cD 108 (by kernel_rfl)
theorem mW:Fnc Tryz.prog 109:=cD 109 (by kernel_rfl)
theorem P9:Fnc Tryz.prog 110:=cD 110 (by kernel_rfl)
theorem PL:Fnc Tryz.prog 111:=cD 111 (by kernel_rfl)
theorem NZ:Fnc Tryz.prog 112:=cD 112 (by kernel_rfl)
theorem HV:Fnc Tryz.prog 113:=cD 113 (by kernel_rfl)
theorem sG:Fnc Tryz.prog 114:=cD 114 (by kernel_rfl)
theorem sO:Fnc Tryz.prog 115:=cD 115 (by kernel_rfl)
theorem Hp:Fnc Tryz.prog 116:=cD 116 (by kernel_rfl)
theorem PH:Fnc Tryz.prog 117:=cD 117 (by kernel_rfl)
theorem Oo:Fnc Tryz.prog 118:=cD 118 (by kernel_rfl)
theorem Eg:Fnc Tryz.prog 119:=cD 119 (by kernel_rfl)
theorem Pb:Fnc Tryz.prog 120:=cD 120 (by kernel_rfl)
theorem P3:Fnc Tryz.prog 121:=cD 121 (by kernel_rfl)
theorem NI:Fnc Tryz.prog 122:=cD 122 (by kernel_rfl)
theorem NW:Fnc Tryz.prog 123:=cD 123 (by kernel_rfl)
theorem P5:Fnc Tryz.prog 124:=cD 124 (by kernel_rfl)
theorem Ex:Fnc Tryz.prog 125:=cD 125 (by kernel_rfl)
theorem HR:Fnc Tryz.prog 126:=cD 126 (by kernel_rfl)
theorem EA:Fnc Tryz.prog 127:=cD 127 (by kernel_rfl)
theorem Gk:Fnc Tryz.prog 128:=cD 128 (by kernel_rfl)
theorem P0:Fnc Tryz.prog 133:=cD 133 (by kernel_rfl)
theorem OZ:Fnc Tryz.prog 146:=cD 146 (by kernel_rfl)
theorem NB:Fnc Tryz.prog 147:=cD 147 (by kernel_rfl)
theorem zG:Fnc Tryz.prog 149:=cD 149 (by kernel_rfl)
theorem EW:Fnc Tryz.prog 150:=cD 150 (by kernel_rfl)
theorem yC:Fnc Tryz.prog 153:=cD 153 (by kernel_rfl)
theorem ju:Fnc Tryz.prog 154:=cD 154 (by kernel_rfl)
theorem OS:Fnc Tryz.prog 155:=cD 155 (by kernel_rfl)
theorem HC:Fnc Tryz.prog 156:=cD 156 (by kernel_rfl)
theorem Pf:Fnc Tryz.prog 157:=cD 157 (by kernel_rfl)
theorem iH:Fnc Tryz.prog 158:=cD 158 (by kernel_rfl)
theorem Gd:Fnc Tryz.prog 159:=cD 159 (by kernel_rfl)
theorem Hw:Fnc Tryz.prog 164:=cD 164 (by kernel_rfl)
theorem zK:Fnc Tryz.prog 177:=cD 177 (by kernel_rfl)
theorem Px:Fnc Tryz.prog 178:=cD 178 (by kernel_rfl)
theorem cY:Fnc Tryz.prog 179:=cD 179 (by kernel_rfl)
theorem jV:Fnc Tryz.prog 180:=cD 180 (by kernel_rfl)
theorem Oe:Fnc Tryz.prog 181:=cD 181 (by kernel_rfl)
theorem Pq:Fnc Tryz.prog 182:=cD 182 (by kernel_rfl)
theorem E0:Fnc Tryz.prog 183:=cD 183 (by kernel_rfl)
theorem sU:Fnc Tryz.prog 184:=cD 184 (by kernel_rfl)
theorem yi:Fnc Tryz.prog 185:=cD 185 (by kernel_rfl)
theorem Qf:Fnc Tryz.prog 186:=cD 186 (by kernel_rfl)
theorem P6:Fnc Tryz.prog 187:=cD 187 (by kernel_rfl)
theorem O0:Fnc Tryz.prog 188:=cD 188 (by kernel_rfl)
theorem NC:Fnc Tryz.prog 189:=cD 189 (by kernel_rfl)
theorem NX:Fnc Tryz.prog 190:=cD 190 (by kernel_rfl)
theorem NO:Fnc Tryz.prog 191:=cD 191 (by kernel_rfl)
theorem yp:Fnc Tryz.prog 192:=cD 192 (by kernel_rfl)
theorem PC:Fnc Tryz.prog 193:=cD 193 (by kernel_rfl)
theorem Pp:Fnc Tryz.prog 194:=cD 194 (by kernel_rfl)
theorem zl:Fnc Tryz.prog 195:=cD 195 (by kernel_rfl)
theorem HJ:Fnc Tryz.prog 196:=cD 196 (by kernel_rfl)
theorem OD:Fnc Tryz.prog 217:=cD 217 (by kernel_rfl)
theorem Ql:Fnc Tryz.prog 218:=cD 218 (by kernel_rfl)
theorem N0:Fnc Tryz.prog 221:=cD 221 (by kernel_rfl)
theorem OY:Fnc Tryz.prog 222:=cD 222 (by kernel_rfl)
theorem OU:Fnc Tryz.prog 223:=cD 223 (by kernel_rfl)
theorem QD:Fnc Tryz.prog 224:=cD 224 (by kernel_rfl)
theorem PA:Fnc Tryz.prog 233:=cD 233 (by kernel_rfl)
theorem H0:Fnc Tryz.prog 234:=cD 234 (by kernel_rfl)
theorem QH:Fnc Tryz.prog 235:=cD 235 (by kernel_rfl)
theorem Qj:Fnc Tryz.prog 236:=cD 236 (by kernel_rfl)
theorem Om:Fnc Tryz.prog 237:=cD 237 (by kernel_rfl)
theorem Ow:Fnc Tryz.prog 238:=cD 238 (by kernel_rfl)
theorem Ed:Fnc Tryz.prog 280:=cD 280 (by kernel_rfl)
theorem Pn:Fnc Tryz.prog 281:=cD 281 (by kernel_rfl)
theorem Nz:Fnc Tryz.prog 293:=cD 293 (by kernel_rfl)
theorem FG:Fnc Tryz.prog 294:=cD 294 (by kernel_rfl)
theorem Oy:Fnc Tryz.prog 310:=cD 310 (by kernel_rfl)
theorem yK:Fnc Tryz.prog 411:=cD 411 (by kernel_rfl)
def Ym:List (Nat × Nat × Nat):=[(24,0,0),(29,0,0),(29,1,1),(29,2,2),(31,0,0),(31,1,1),(31,2,2),(31,3,3),(36,0,0),(36,1,1),(36,2,2),(36,4,4),(36,5,36),(36,6,37),(46,0,0),(46,1,1),(46,2,2),(48,0,0),(48,1,1),(48,2,33),(50,1,32),(50,2,66),(59,0,0),(59,1,1),(59,2,2),(59,4,4),(59,6,72),(61,0,0),(61,1,1),(61,2,2),(61,3,3),(66,0,0),(66,1,1),(66,2,2),(66,3,3),(66,4,4),(69,0,0),(69,1,1),(72,0,0),(72,1,33),(72,2,66),(72,3,67),(83,0,0),(83,1,6),(109,0,0),(109,1,32),(112,0,0),(112,1,32),(112,2,33),(131,0,0),(131,1,1),(131,2,2),(131,3,3),(131,4,4),(164,0,0),(164,1,1),(164,2,33),(164,3,67),(164,4,68),(164,5,69),(164,6,70),(166,0,0),(166,1,1),(195,0,0),(197,0,0),(197,1,32),(199,1,32),(199,2,33),(249,0,0),(249,1,1),(249,2,2),(249,3,3),(249,4,4),(249,5,5),(268,0,0),(268,1,32)]
theorem ac:FT Tryz.prog Ym:=⟨JV,Jy,KX,K6,LF,LL,Jk,K9,JH,IH,JO,JK,Jw,Ix,Is,IX,tB,Av,AZ,Jq,Ln,Jb,l5,IL,Be,AF,A1,Ku,LT,Bp,I4,mj,Km,tG,uc,tu,lR,sN,fu,Kg,l4,lX,J9,Jj,EM,F3,Hj,Gf,Hc,D8,Ez,Gs,E6,Gu,EO,ET,EY,Gm,DF,DD,DG,DR,Ei,FJ,G3,H5,wg,pp,If,HQ,H3,DV,HE,DS,FP,Fl,trivial⟩
end Go.Proofs.YtkhepdpfdhdlaaaGreatDoor
