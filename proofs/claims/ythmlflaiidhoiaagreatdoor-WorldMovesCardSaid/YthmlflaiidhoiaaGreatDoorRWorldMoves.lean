/- WorldMoves: whatever world and act, the law answers true; no condition. -/
import Derived.Test.YthmlflaiidhoiaaGreatDoorZv
import Derived.ProofKit
import Derived.OpenShut
import Derived.LaidMore
import Derived.SevenTiedAt
import Derived.Stop.Joined
import Derived.MakeChecks
import Derived.ChangeMaps5
import Derived.Test.YthmlflaiidhoiaaGreatDoorFa
import Derived.Test.YthmlflaiidhoiaaGreatDoorFb
import Derived.Test.YthmlflaiidhoiaaGreatDoorFc
set_option linter.unusedVariables false
set_option linter.unusedSimpArgs false
set_option linter.unusedSectionVars false
namespace Go.Proofs.YthmlflaiidhoiaaGreatDoor
open Go.ChangeShapes Go.WideShapes Go.ChangeAt Go.RowKit
theorem own:ownKnob Tryz.prog.godebug=none:=by kernel_rfl
theorem SN:laidOutB Tryz.prog=true:=by kernel_rfl
def Aq:List (String × DataW Unit):=[("posthouse/digest.begins",Rows.laid_posthouse_digest_begins),("posthouse/digest.roundConstants",Rows.laid_posthouse_digest_roundConstants)]
theorem gl0:Tryz.prog.globalNamed "posthouse/digest.begins" = some 0:=by kernel_rfl
theorem gt0:(Tryz.prog.globals[0]?).map (·.type)=some 472:=by kernel_rfl
theorem gl1:Tryz.prog.globalNamed "posthouse/digest.roundConstants" = some 1:=by kernel_rfl
theorem gt1:(Tryz.prog.globals[1]?).map (·.type)=some 479:=by kernel_rfl
theorem Mm (os:Os) (args:Array Value):laidMetH Tryz.prog Aq ((World.doorLaid Tryz.prog 2000 os).forCall (λ_ _=>0) ⟨#[],args,[]⟩).memory:=
 laidMetH_of_parts3 (fuel:=8) (laidMet_of_run' 8 (by kernel_rfl) (by kernel_rfl)) (by kernel_rfl) (by kernel_rfl)
theorem PR {W:World} (h:laidMetH Tryz.prog Aq W):gq W 0 ((([1779033703,3144134277,1013904242,2773480762,1359893119,2600822924,528734635,1541459225]:List Int).map λz=>Value.int .u32 z).toArray)/\gq W 1 ((([1116352408,1899447441,3049323471,3921009573,961987163,1508970993,2453635748,2870763221,3624381080,310598401,607225278,1426881987,1925078388,2162078206,2614888103,3248222580,3835390401,4022224774,264347078,604807628,770255983,1249150122,1555081692,1996064986,2554220882,2821834349,2952996808,3210313671,3336571891,3584528711,113926993,338241895,666307205,773529912,1294757372,1396182291,1695183700,1986661051,2177026350,2456956037,2730485921,2820302411,3259730800,3345764771,3516065817,3600352804,4094571909,275423344,430227734,506948616,659060556,883997877,958139571,1322822218,1537002063,1747873779,1955562222,2024104815,2227730452,2361852424,2428436474,2756734187,3204031479,3329325298]:List Int).map λz=>Value.int .u32 z).toArray):=by
 rw [MakeChecks.laidMetH_plain _ _ _ (by kernel_rfl)] at h
 obtain ⟨ps,⟨g0,t0,cs0,f0,p0,q0,hg0,ht0,hv0,hd0,⟨g1,t1,cs1,f1,p1,q1,hg1,ht1,hv1,HL,_,_⟩,_⟩,_,_⟩:=h
 obtain rfl:=Option.some.inj (gl0.symm.trans hg0)
 obtain rfl:=Option.some.inj (gt0.symm.trans ht0)
 obtain rfl:=Option.some.inj (gl1.symm.trans hg1)
 obtain rfl:=Option.some.inj (gt1.symm.trans ht1)
 exact ⟨gq.of_ints (k:=.u32) gl0 hv0 Tryz.underlying472 Tryz.underlying340 (by kernel_rfl) (by kernel_rfl) [1779033703,3144134277,1013904242,2773480762,1359893119,2600822924,528734635,1541459225] _ hd0 (by kernel_rfl),gq.of_ints (k:=.u32) gl1 hv1 Tryz.underlying479 Tryz.underlying340 (by kernel_rfl) (by kernel_rfl) [1116352408,1899447441,3049323471,3921009573,961987163,1508970993,2453635748,2870763221,3624381080,310598401,607225278,1426881987,1925078388,2162078206,2614888103,3248222580,3835390401,4022224774,264347078,604807628,770255983,1249150122,1555081692,1996064986,2554220882,2821834349,2952996808,3210313671,3336571891,3584528711,113926993,338241895,666307205,773529912,1294757372,1396182291,1695183700,1986661051,2177026350,2456956037,2730485921,2820302411,3259730800,3345764771,3516065817,3600352804,4094571909,275423344,430227734,506948616,659060556,883997877,958139571,1322822218,1537002063,1747873779,1955562222,2024104815,2227730452,2361852424,2428436474,2756734187,3204031479,3329325298] _ HL (by kernel_rfl)⟩
set_option maxRecDepth 100000 in
theorem qk (os:Os) (started:os.Started) (H:Type) (enc:TypeId × Value->H):
 ReturnsInHanded {} Tryz.checked os 4 .any (λw args=>(Rows.worldMovesSpec.pre enc Tryz.prog Tryz.f4 [] false w args/\laidMetH Tryz.prog Aq w)/\sizedMet enc Tryz.prog Tryz.f4 (OpenSpec.ofChange Rows.worldMovesSpec) false w args) (Rows.worldMovesSpec.post enc Tryz.prog Tryz.f4 false true false false):=by
 refine returnsInHanded_of_change_and (C:=Tryz.checked) (X:=λw _=>laidMetH Tryz.prog Aq w) (λ_ _ _ hh h=>h.of_heap hh) own started (by kernel_rfl) Tryz.func4
  (ChangeSpec.witness_shaped (enc:=enc) (C:=Tryz.checked) (os:=os) (X:=λw _=>laidMetH Tryz.prog Aq w) false (World.doorLaid Tryz.prog 2000 os) #[.agg #[.slice none 0 0,.slice none 0 0,.slice none 0 0,.slice none 0 0,.int .i64 0,.int .i64 0],.agg #[.int .i64 0,.int .i64 0,.int .i64 0,.int .i64 0,.int .u8 0,.int .u8 0,.int .u8 0,.int .u8 0,.int .u8 0,.int .u8 0,.int .u8 0,.int .u8 0,.int .u8 0,.int .u8 0,.int .u8 0,.int .u8 0,.int .u8 0,.int .u8 0,.int .u8 0,.int .u8 0,.int .u8 0,.int .u8 0,.int .u8 0,.int .u8 0,.int .u8 0,.int .u8 0,.int .u8 0,.int .u8 0,.int .u8 0,.int .u8 0,.int .u8 0,.int .u8 0,.int .u8 0,.int .u8 0,.int .u8 0,.int .u8 0,.slice none 0 0,.string ByteArray.empty]] 8 rfl (World.shaped_of_RefB (by kernel_rfl) (by kernel_rfl)) (by kernel_rfl) (by kernel_rfl) (by kernel_rfl) (Mm os _)) ?_
 intro W base args ds gs before hval0 hW _ _ hL _
 have hval:∀ (j:Nat) t v,Tryz.f4.params[j]? = some t->args[j]? = some v->Value.okWide Tryz.prog W .any base t v:=hval0
 have hW1:=hW
 obtain ⟨p,q,hA0,hV,rfl,hfz,hnd⟩:=hW
 have hlt:∀ x∈p,x.block<W.heap.size:=λx hx=>hW1.lt x (List.mem_append_left _ hx)
 have hA:DataW.TrodAll enc Tryz.prog W 0 (λ_=>true) true Tryz.f4.params.toList args.toList ds p:=hA0
 rw [Tryz.params4] at hA hval
 have hA1:=hA
 obtain ⟨v0,vs0,d0,ds0,p0,q0,hargs,rfl,rfl,h0,r0⟩:=trodAll_cons hA
 obtain ⟨v1,vs1,d1,ds1,p1,q1,rfl,rfl,rfl,h1,r1⟩:=trodAll_cons r0
 obtain ⟨rfl,rfl,rfl⟩:=trodAll_nil r1
 obtain rfl:args=#[v0,v1]:=by cases args;simp_all
 obtain ⟨rfl,rfl⟩:=trodVars_none hV
 obtain ⟨X0,o0,s0,x0,l0,rfl,hR0,hbL0,hbS0,hbH0⟩:=Ph gE (by kernel_rfl) (by kernel_rfl) Tryz.underlying3 (by kernel_rfl) Tryz.underlying9 (by kernel_rfl) Tryz.underlying47 rfl rfl rfl rfl rfl rfl (by kernel_rfl) Tryz.underlying34 (by kernel_rfl) Tryz.underlying49 rfl rfl rfl rfl rfl rfl (by kernel_rfl) Tryz.underlying54 rfl rfl rfl rfl rfl rfl (by kernel_rfl) Tryz.underlying60 rfl rfl rfl rfl (by kernel_rfl) Tryz.underlying61 (by kernel_rfl) Tryz.underlying63 rfl rfl rfl rfl rfl rfl rfl rfl (by kernel_rfl) Tryz.underlying22 (by kernel_rfl) Tryz.underlying24 rfl rfl (by kernel_rfl) Tryz.underlying125 rfl rfl rfl rfl (by kernel_rfl) Tryz.underlying64 (by kernel_rfl) Tryz.underlying128 rfl rfl rfl rfl rfl rfl (by kernel_rfl) Tryz.underlying65 (by kernel_rfl) Tryz.underlying66 (by kernel_rfl) Tryz.underlying68 rfl rfl rfl rfl rfl rfl rfl rfl rfl rfl (by kernel_rfl) Tryz.underlying132 rfl rfl rfl rfl rfl rfl rfl rfl (by kernel_rfl) Tryz.underlying27 (by kernel_rfl) Tryz.underlying29 rfl rfl rfl rfl rfl rfl (by kernel_rfl) Tryz.underlying31 rfl rfl rfl rfl rfl rfl rfl rfl (by kernel_rfl) Tryz.underlying25 (by kernel_rfl) Tryz.underlying26 (by kernel_rfl) (hval 0 31 v0 rfl rfl) h0
 obtain ⟨c1,u1,rfl,hR1⟩:=RZ gE (by kernel_rfl) (by kernel_rfl) Tryz.underlying3 (by kernel_rfl) Tryz.underlying9 (by kernel_rfl) (by kernel_rfl) Tryz.underlying43 Tryz.underlying47 rfl rfl rfl rfl rfl rfl (by kernel_rfl) Tryz.underlying45 rfl rfl rfl rfl rfl rfl rfl rfl rfl rfl rfl rfl rfl rfl (by kernel_rfl) (hval 1 45 v1 rfl rfl) h1
 have hT:=PR hL
 refine(BF X0 o0 s0 x0 l0 c1 u1 W hR0 hbL0 hbS0 hbH0 hR1 ).mono λe W2 ⟨v,he,hv,bel⟩=>?_
 obtain rfl:=hv
 subst he
 exact ⟨_,rfl,_,_,_,[],_,[],hW1,trodAll_mk1 (shut_bool Tryz.underlying4 _),CT SN bel.toBelow (by kernel_rfl) hA1 hlt,rfl,bel.toBelow.frame _,λh=>by cases h⟩
theorem t2:Rows.WorldMovesSaid:=
 OpenClaim.holds_of_wide 4 Tryz.f4 rfl rfl rfl rfl rfl rfl rfl ⟨rfl,rfl,rfl,rfl,rfl⟩ rfl rfl rfl rfl rfl jfs1 Tryz.func4 jfctAll
  jfs2 jfs3
  (λos started H enc _=>qk os started H enc)
theorem holdsWorldMoves:Rows.WorldMovesCardSaid:=
 Claim7.holds_tied_plain_at .later [] [.data,.data] true (true,"4f42a19161766d0781ad6fb7f0a02d978bcb90608a7eaf74f26081a81099af5c") true
  t2 (λ_ h=>by cases h) jfcw (λ_ h=>by cases h) worldMoves_row_tie rfl ⟨rfl,rfl⟩ jfcm rfl
  (λf fn hf hfn=>by
   obtain rfl:f=4:=Option.some.inj (jfcn.symm.trans hf) |>.symm
   obtain rfl:fn=Tryz.f4:=(Option.some.inj (Tryz.func4.symm.trans hfn)).symm
   exact ⟨jfcl,λj t ht=>by
    rw [Tryz.params4] at ht
    have hm:t∈[31,45]:=by simpa using Array.mem_of_getElem? ht
    have hall:([31,45].all λu => !Tryz.prog.wantsStandIn u)=true:=jfcs
    exact(show Tryz.prog.wantsStandIn t=false by simpa using List.all_eq_true.1 hall t hm)⟩)
  jfcg
#print axioms holdsWorldMoves
end Go.Proofs.YthmlflaiidhoiaaGreatDoor
