/- ServerTakes: whatever server, address, message and time, the law answers true, the two tables of package digest being laid as the program text lays them (tied); no other condition. -/
import Derived.Test.YtobfeflheaobiaaGreatDoorCards
import Derived.Test.YtobfeflheaobiaaGreatDoorTie
import Derived.Test.YtobfeflheaobiaaGreatDoorYa
import Derived.ProofKit
import Derived.OpenShut
import Derived.LaidMore
import Derived.SevenTiedAt
import Derived.Stop.Joined
import Derived.MakeChecks
import Derived.ChangeMaps5
set_option linter.unusedVariables false
set_option linter.unusedSimpArgs false
set_option linter.unusedSectionVars false
namespace Go.Proofs.YtobfeflheaobiaaGreatDoor
open Go.ChangeShapes Go.WideShapes Go.ChangeAt Go.RowKit
theorem own:ownKnob Tryz.prog.godebug=none:=by kernel_rfl
theorem Ha:laidOutB Tryz.prog=true:=by kernel_rfl
def uv:List (String × DataW Unit):=[("posthouse/digest.begins",Rows.laid_posthouse_digest_begins),("posthouse/digest.roundConstants",Rows.laid_posthouse_digest_roundConstants)]
theorem Pi:Tryz.prog.globalNamed "posthouse/digest.begins" = some 0:=by kernel_rfl
theorem Pr:(Tryz.prog.globals[0]?).map (·.type)=some 192:=by kernel_rfl
theorem Pb:Tryz.prog.globalNamed "posthouse/digest.roundConstants" = some 1:=by kernel_rfl
theorem Pq:(Tryz.prog.globals[1]?).map (·.type)=some 199:=by kernel_rfl
theorem BO (os:Os) (args:Array Value):laidMetH Tryz.prog uv ((World.doorLaid Tryz.prog 2000 os).forCall (fun _ _=>0) ⟨#[],args,[]⟩).memory:=
 laidMetH_of_parts3 (fuel:=8) (laidMet_of_run' 8 (by kernel_rfl) (by kernel_rfl)) (by kernel_rfl) (by kernel_rfl)
theorem Hk {W:World} (h:laidMetH Tryz.prog uv W):ff W 0 (wF jp 8)∧ff W 1 (wF iJ 64):=by
 rw [MakeChecks.laidMetH_plain _ _ _ (by kernel_rfl)] at h
 obtain ⟨ps,⟨g0,t0,cs0,f0,p0,q0,hg0,ht0,hv0,hd0,⟨g1,t1,cs1,f1,p1,q1,hg1,ht1,hv1,K0,_,_⟩,_⟩,_,_⟩:=h
 obtain rfl:=Option.some.inj (Pi.symm.trans hg0)
 obtain rfl:=Option.some.inj (Pr.symm.trans ht0)
 obtain rfl:=Option.some.inj (Pb.symm.trans hg1)
 obtain rfl:=Option.some.inj (Pq.symm.trans ht1)
 exact ⟨ff.of_ints (k:=.u32) Pi hv0 Tryz.underlying192 Tryz.underlying180 (by kernel_rfl) (by kernel_rfl) [1779033703,3144134277,1013904242,2773480762,1359893119,2600822924,528734635,1541459225] _ hd0 (by kernel_rfl),ff.of_ints (k:=.u32) Pb hv1 Tryz.underlying199 Tryz.underlying180 (by kernel_rfl) (by kernel_rfl) [1116352408,1899447441,3049323471,3921009573,961987163,1508970993,2453635748,2870763221,3624381080,310598401,607225278,1426881987,1925078388,2162078206,2614888103,3248222580,3835390401,4022224774,264347078,604807628,770255983,1249150122,1555081692,1996064986,2554220882,2821834349,2952996808,3210313671,3336571891,3584528711,113926993,338241895,666307205,773529912,1294757372,1396182291,1695183700,1986661051,2177026350,2456956037,2730485921,2820302411,3259730800,3345764771,3516065817,3600352804,4094571909,275423344,430227734,506948616,659060556,883997877,958139571,1322822218,1537002063,1747873779,1955562222,2024104815,2227730452,2361852424,2428436474,2756734187,3204031479,3329325298] _ K0 (by kernel_rfl)⟩
set_option maxRecDepth 100000 in
theorem n3 (os:Os) (started:os.Started) (H:Type) (enc:TypeId × Value→H):
 ReturnsInHanded {} Tryz.checked os 3 .any (fun w args=>(Rows.serverTakesSpec.pre enc Tryz.prog Tryz.f3 [] false w args∧laidMetH Tryz.prog uv w)∧sizedMet enc Tryz.prog Tryz.f3 (OpenSpec.ofChange Rows.serverTakesSpec) false w args) (Rows.serverTakesSpec.post enc Tryz.prog Tryz.f3 false true false false):=by
 refine returnsInHanded_of_change_and (C:=Tryz.checked) (X:=fun w _=>laidMetH Tryz.prog uv w) (fun _ _ _ hh h=>h.of_heap hh) own started (by kernel_rfl) Tryz.func3
  (ChangeSpec.witness_shaped (enc:=enc) (C:=Tryz.checked) (os:=os) (X:=fun w _=>laidMetH Tryz.prog uv w) false (World.doorLaid Tryz.prog 2000 os) #[.agg #[.int .i64 0,.string ByteArray.empty,.slice none 0 0],.int .i64 0,.agg #[.int .i64 0,.int .u8 0,.int .u8 0,.int .u8 0,.int .u8 0,.int .u8 0,.int .u8 0,.int .u8 0,.int .u8 0,.int .u8 0,.int .u8 0,.int .u8 0,.int .u8 0,.int .u8 0,.int .u8 0,.int .u8 0,.int .u8 0,.int .u8 0,.int .u8 0,.int .u8 0,.int .u8 0,.int .u8 0,.int .u8 0,.int .u8 0,.int .u8 0,.int .u8 0,.int .u8 0,.int .u8 0,.int .u8 0,.int .u8 0,.int .u8 0,.int .u8 0,.int .u8 0,.int .i64 0,.int .u8 0,.int .u8 0,.int .u8 0,.int .u8 0,.int .u8 0,.int .u8 0,.int .u8 0,.int .u8 0,.int .u8 0,.int .u8 0,.int .u8 0,.int .u8 0,.int .u8 0,.int .u8 0,.int .u8 0,.int .u8 0,.int .u8 0,.int .u8 0,.int .u8 0,.int .u8 0,.int .u8 0,.int .u8 0,.int .u8 0,.int .u8 0,.int .u8 0,.int .u8 0,.int .u8 0,.int .u8 0,.int .u8 0,.int .u8 0,.int .u8 0,.int .u8 0,.int .i64 0,.slice none 0 0,.int .i64 0,.string ByteArray.empty,.string ByteArray.empty],.int .i64 0] 8 rfl (World.shaped_of_RefB (by kernel_rfl) (by kernel_rfl)) (by kernel_rfl) (by kernel_rfl) (by kernel_rfl) (BO os _)) ?_
 intro W base args ds gs before hval0 hW _ _ hL _
 have hval:∀ (j:Nat) t v,Tryz.f3.params[j]? = some t→args[j]? = some v→Value.okWide Tryz.prog W .any base t v:=hval0
 have hW1:=hW
 obtain ⟨p,q,hA0,hV,rfl,hfz,hnd⟩:=hW
 have hlt:∀ x∈p,x.block<W.heap.size:=fun x hx=>hW1.lt x (List.mem_append_left _ hx)
 have hA:DataW.TrodAll enc Tryz.prog W 0 (fun _=>true) true Tryz.f3.params.toList args.toList ds p:=hA0
 rw [Tryz.params3] at hA hval
 have hA1:=hA
 obtain ⟨v0,vs0,d0,ds0,p0,q0,hargs,rfl,rfl,h0,r0⟩:=trodAll_cons hA
 obtain ⟨v1,vs1,d1,ds1,p1,q1,rfl,rfl,rfl,h1,r1⟩:=trodAll_cons r0
 obtain ⟨v2,vs2,d2,ds2,p2,q2,rfl,rfl,rfl,h2,r2⟩:=trodAll_cons r1
 obtain ⟨v3,vs3,d3,ds3,p3,q3,rfl,rfl,rfl,h3,r3⟩:=trodAll_cons r2
 obtain ⟨rfl,rfl,rfl⟩:=trodAll_nil r3
 obtain rfl:args=#[v0,v1,v2,v3]:=by cases args;simp_all
 obtain ⟨rfl,rfl⟩:=trodVars_none hV
 obtain ⟨sv0,u0,rfl,hR0⟩:=Gz d8 (by kernel_rfl) (by kernel_rfl) Tryz.underlying3 (by kernel_rfl) Tryz.underlying9 (by kernel_rfl) (by kernel_rfl) Tryz.underlying28 rfl rfl rfl rfl rfl rfl (by kernel_rfl) Tryz.underlying22 Tryz.underlying67 rfl rfl rfl rfl rfl rfl (by kernel_rfl) Tryz.underlying24 rfl rfl rfl rfl rfl rfl (by kernel_rfl) (hval 0 24 v0 rfl rfl) h0
 obtain ⟨a1,rfl,rfl,rfl,w1⟩:=open_int Tryz.underlying3 (hval 1 3 v1 rfl rfl) h1
 have b1:=Co w1
 obtain ⟨m2,u2,rfl,hR2⟩:=Bo d8 (by kernel_rfl) (by kernel_rfl) Tryz.underlying3 (by kernel_rfl) Tryz.underlying9 (by kernel_rfl) (by kernel_rfl) Tryz.underlying29 Tryz.underlying28 rfl rfl rfl rfl rfl rfl (by kernel_rfl) Tryz.underlying31 rfl rfl rfl rfl rfl rfl rfl rfl rfl rfl rfl rfl rfl rfl (by kernel_rfl) (hval 2 31 v2 rfl rfl) h2
 obtain ⟨a3,rfl,rfl,rfl,w3⟩:=open_int Tryz.underlying3 (hval 3 3 v3 rfl rfl) h3
 have b3:=Co w3
 have hT:=Hk hL
 refine(wg sv0 u0 a1 m2 u2 a3 W hR0 hR2 hT.1 hT.2).mono fun e W2 ⟨v,he,hv,bel⟩=>?_
 obtain rfl:=hv
 subst he
 exact ⟨_,rfl,_,_,_,[],_,[],hW1,trodAll_mk1 (shut_bool Tryz.underlying4 _),wK Ha bel.toBelow (by kernel_rfl) hA1 hlt,rfl,bel.toBelow.frame _,fun h=>by cases h⟩
theorem pv:Rows.ServerTakesSaid:=
 OpenClaim.holds_of_wide 3 Tryz.f3 rfl rfl rfl rfl rfl rfl rfl ⟨rfl,rfl,rfl,rfl,rfl⟩ rfl rfl rfl rfl rfl (by kernel_rfl) Tryz.func3 (by kernel_rfl)
  (of_decide_eq_true (by kernel_rfl)) (by unfold Func.isWrapper;first|(rw [if_pos (by decide +kernel)];kernel_rfl)|(rw [if_neg (by decide +kernel)];exact ⟨rfl,rfl⟩))
  (fun os started H enc _=>n3 os started H enc)
theorem holdsServerTakes:Rows.ServerTakesCardSaid:=
 Claim7.holds_tied_plain_at .later [] [.data,.data] true (true,"cccfe7db636cae09c9864dea4ef4020d07e2507d336161364b6ecdbd110c8d83") true
  pv (fun _ h=>by cases h) (by kernel_rfl) (fun _ h=>by cases h) serverTakes_row_tie rfl ⟨rfl,rfl⟩ (by kernel_rfl) rfl
  (fun f fn hf hfn=>by
   obtain rfl:f=3:=Option.some.inj ((show Tryz.prog.funcNamed Tryz.f3.name=some 3 by kernel_rfl).symm.trans hf) |>.symm
   obtain rfl:fn=Tryz.f3:=(Option.some.inj (Tryz.func3.symm.trans hfn)).symm
   exact ⟨by kernel_rfl,fun j t ht=>by
    rw [Tryz.params3] at ht
    have hm:t∈[24,3,31,3]:=by simpa using Array.mem_of_getElem? ht
    have hall:([24,3,31,3].all fun u => !Tryz.prog.wantsStandIn u)=true:=by kernel_rfl
    exact(show Tryz.prog.wantsStandIn t=false by simpa using List.all_eq_true.1 hall t hm)⟩)
  (by kernel_rfl)
#print axioms holdsServerTakes
end Go.Proofs.YtobfeflheaobiaaGreatDoor
