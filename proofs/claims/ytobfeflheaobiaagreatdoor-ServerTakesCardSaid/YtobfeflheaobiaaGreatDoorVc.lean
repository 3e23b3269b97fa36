/- What may lead where, and nonces: package proof and its reference, for all arguments of their types (a nonce of each kind: made, refused). -/
import Derived.Test.YtobfeflheaobiaaGreatDoorVb
set_option linter.unusedVariables false
set_option linter.unusedSimpArgs false
set_option linter.unusedSectionVars false
namespace Go.Proofs.YtobfeflheaobiaaGreatDoor
open Go.RowKit
theorem gn (a:Id) (w:World):Calls Tryz.prog 126 [gp a].toArray w (cp w (is (.agg (ki (dk a))))):=by
 refine bF Tryz.func126 rfl Tryz.ntmps126 rfl fun f h s=>qr (aZ (aA a) h s rfl rfl rfl fun f w1 b1 h s=>aK (aO (fun _=>0) 16) h s GY rfl rfl fun f w1 b2 h s=>nt (qr (ae h (fW 16 Tryz.underlying26 ec (h.ev rfl) (h.ev rfl) rfl (by decide)) rfl fun f h=>ae h (Di Tryz.underlying184 (h.ev rfl) (by decide)) rfl fun f h=>ar (aG.subL (aG.of_own s 1 rfl) 0 16 (D:=ki (dk a)) (mf a)) h xG rfl (by first|exact mh _|exact ah _ _) rfl fun f h=>aj 0 h s xG rfl rfl rfl (by first|exact mh _|exact ah _ _) (by first|exact mh _|exact ah _ _) (by first|exact AH _|exact bc _ _) fun w1 s=>nt (wpIn_ret (cR 0 rfl h s xG rfl rfl (by first|exact mh _|exact ah _ _) (rfl))))))
theorem kv (a:Id) (w:World):Calls Tryz.prog 105 [gp a].toArray w (cp w (is (.string (jv (dk a))))):=by
 refine bF Tryz.func105 rfl Tryz.ntmps105 rfl fun f h s=>qr (aZ (aA a) h s rfl rfl rfl fun f w1 b1 h s=>e9 ab 1 h rfl fun f h=>qr (ae h (fW 16 Tryz.underlying26 ec (h.ev rfl) (h.ev rfl) rfl (by decide)) rfl fun f h=>qm (aG.subL (o:=0) (aG.of_own s 0 rfl) 0 16 (D:=ki (dk a)) (mf a)) h Tryz.underlying162 Tryz.underlying5 Tryz.underlying9 rfl rfl ?_));intro f h
 refine e9 ab 1 h rfl fun f h=>wpIn_ret (aH rfl h s rfl (rfl))
theorem qi (word:ByteArray) (hwd:word.size≤100) (k:vP) (w:World) (hH:ff w 0 (wF jp 8)) (hK:ff w 1 (wF iJ 64)):Calls Tryz.prog 139 [.string word,.agg (ki k)].toArray w (cp w (is (gp (lg word k)))):=by
 have hks:=ou k
 have hcs:(word++jv k).size<2147483648:=by rw [ByteArray.size_append];omega
 refine bF Tryz.func139 rfl Tryz.ntmps139 rfl fun f h s=>qr (aZ ((ki k)) h s rfl rfl rfl fun f w1 b3 h s=>aK (aA 0#256) h s dS rfl rfl fun f w1 b4 h s=>nt (bZ ab 1 h rfl fun f h=>ae h (jW Tryz.underlying184 ec (h.ev rfl)) rfl fun f h=>BV 1 h s Tryz.underlying162 Tryz.underlying5 Tryz.underlying9 rfl rfl rfl ?_));intro f h
 refine bn (vs:=[.string word,.string (jv k)]) [.tmp 6,.tmp 8] h s Tryz.underlying101 JY rfl rfl (by simp [Value.cells]) rfl rfl rfl fun f w1 v9 h s=>c7 h s Dq (DX (word++jv k) [word,jv k] (OA _ _) hcs (by simp) _ _ (Rd.of_own (s.getSl 0 rfl)) (hH.keep s.ext) (hK.keep s.ext)) rfl rfl fun f w1 h s=>aK (aA 0#256) h s dS rfl rfl fun f w1 b5 h s=>aj 0 h s aN rfl rfl rfl (by first|exact ai _|exact ah _ _) (by first|exact ai _|exact ah _ _) (by first|exact bE _|exact bc _ _) fun w1 s=>?_
 have s:=s.as (B':=[.blk b5 (.cells (aO (bz (qI (word++jv k))) 32) 26),.sl v9 9 1 2 ([Value.string word,Value.string (jv k)].flatMap fun v=>v.cells.toList),.blk b4 (.cells (aA 0#256) 26),.blk b3 (.cells (ki k) 184)]) ⟨da (d4 _),rfl,rfl,rfl,trivial⟩
 refine nt (qr (ae h (ir (16) Tryz.underlying26 ec (h.ev rfl) (h.ev rfl) (rfl) (by decide)) rfl fun f h=>y8 0 h s Tryz.underlying162 Eh rfl rfl (by decide) ?_));intro w1 s
 have s:=s.as (B':=[.blk b5 (.cells (aA (DZ (qI (word++jv k)))) 26),.sl v9 9 1 2 ([Value.string word,Value.string (jv k)].flatMap fun v=>v.cells.toList),.blk b4 (.cells (aA 0#256) 26),.blk b3 (.cells (ki k) 184)]) ⟨da (xr _),rfl,rfl,rfl,trivial⟩
 refine nt (qr (ak 0 h s aN rfl rfl (by first|exact ai _|exact ah _ _) rfl fun f h=>aj 2 h s aN rfl rfl rfl (by first|exact ai _|exact ah _ _) (by first|exact ai _|exact ah _ _) (by first|exact bE _|exact bc _ _) fun w1 s=>nt (wpIn_ret (cR 2 rfl h s aN rfl rfl (by first|exact ai _|exact ah _ _) (rfl)))))
theorem vR (a:Id) (w:World) (hH:ff w 0 (wF jp 8)) (hK:ff w 1 (wF iJ 64)):Calls Tryz.prog 127 [gp a].toArray w (cp w (is (gp (lg nE (dk a))))):=by
 refine bF Tryz.func127 rfl Tryz.ntmps127 rfl fun f h s=>qr (aZ (aA a) h s rfl rfl rfl fun f w1 b1 h s=>aK (aA 0#256) h s dS rfl rfl fun f w1 b2 h s=>nt (qr (ak 1 h s aN rfl rfl (by first|exact ai _|exact ah _ _) rfl fun f h=>c7 h s lR (gn _ _) rfl rfl fun f w1 h s=>c7 h s BF (qi nE (by decide) _ _ (hH.keep s.ext) (hK.keep s.ext)) rfl rfl fun f w1 h s=>aj 0 h s aN rfl rfl rfl (by first|exact ai _|exact ah _ _) (by first|exact ai _|exact ah _ _) (by first|exact bE _|exact bc _ _) fun w1 s=>nt (wpIn_ret (cR 0 rfl h s aN rfl rfl (by first|exact ai _|exact ah _ _) (rfl))))))
theorem Ak (a:Id) (w:World) (hH:ff w 0 (wF jp 8)) (hK:ff w 1 (wF iJ 64)):Calls Tryz.prog 128 [gp a].toArray w (cp w (is (gp (lg ox (dk a))))):=by
 refine bF Tryz.func128 rfl Tryz.ntmps128 rfl fun f h s=>qr (aZ (aA a) h s rfl rfl rfl fun f w1 b1 h s=>aK (aA 0#256) h s dS rfl rfl fun f w1 b2 h s=>nt (qr (ak 1 h s aN rfl rfl (by first|exact ai _|exact ah _ _) rfl fun f h=>c7 h s lR (gn _ _) rfl rfl fun f w1 h s=>c7 h s BF (qi ox (by decide) _ _ (hH.keep s.ext) (hK.keep s.ext)) rfl rfl fun f w1 h s=>aj 0 h s aN rfl rfl rfl (by first|exact ai _|exact ah _ _) (by first|exact ai _|exact ah _ _) (by first|exact bE _|exact bc _ _) fun w1 s=>nt (wpIn_ret (cR 0 rfl h s aN rfl rfl (by first|exact ai _|exact ah _ _) (rfl))))))
theorem Ax (a b:Id) (w:World) (hH:ff w 0 (wF jp 8)) (hK:ff w 1 (wF iJ 64)):Calls Tryz.prog 113 [gp a,gp b].toArray w (cp w (is (.bool (gV a b)))):=by
 refine bF Tryz.func113 rfl Tryz.ntmps113 rfl fun f h s=>qr (aZ (aA a) h s rfl rfl rfl fun f w1 b2 h s=>aZ (aA b) h s rfl rfl rfl fun f w1 b3 h s=>e9 ab 1 h rfl fun f h=>al ?_)
 cases hx:(decide (dk b=dk (lg nE (dk a))):Bool)
 ·refine eo 15 h (by kernel_rfl) (bh 0 h s aN rfl rfl (by first|exact ai _|exact ah _ _) rfl fun f h=>aY h lR (fun w9 hE9=>gn _ w9) rfl rfl fun f h=>bh 1 h s aN rfl rfl (by first|exact ai _|exact ah _ _) rfl fun f h=>aY h DG (fun w9 hE9=>vR _ w9 (hH.keep (s.ext.trans hE9)) (hK.keep (s.ext.trans hE9))) rfl rfl fun f h=>aY h lR (fun w9 hE9=>gn _ w9) rfl rfl fun f h=>au h (aV (.bool false) (fU (OM _ _) (by kernel_rfl) (by decide) (h.ev rfl) (h.ev rfl) (decide (dk b=dk (lg nE (dk a)))) (Oj _ _)) (congrArg Value.bool hx)) rfl fun f h=>az ab 1 h rfl fun f h=>bA h rfl (bh 1 h s aN rfl rfl (by first|exact ai _|exact ah _ _) rfl fun f h=>bA h rfl (aY h lR (fun w9 hE9=>gn _ w9) rfl rfl fun f h=>bA h rfl (bh 0 h s aN rfl rfl (by first|exact ai _|exact ah _ _) rfl fun f h=>bA h rfl (aY h KD (fun w9 hE9=>Ak _ w9 (hH.keep (s.ext.trans hE9)) (hK.keep (s.ext.trans hE9))) rfl rfl fun f h=>bA h rfl (aY h lR (fun w9 hE9=>gn _ w9) rfl rfl fun f h=>bA h rfl (au h (fU (OM _ _) (by kernel_rfl) (by decide) (h.ev rfl) (h.ev rfl) (decide (dk a=dk (lg ox (dk b)))) (Oj _ _)) rfl fun f h=>az ab 2 h rfl fun f h=>cj s fun w1 s=>nt (wpIn_ret (aH rfl h s rfl (by show _=_;unfold gV;rw [hx];rfl))))))))))
 ·refine eo 15 h (by kernel_rfl) (bh 0 h s aN rfl rfl (by first|exact ai _|exact ah _ _) rfl fun f h=>aY h lR (fun w9 hE9=>gn _ w9) rfl rfl fun f h=>bh 1 h s aN rfl rfl (by first|exact ai _|exact ah _ _) rfl fun f h=>aY h DG (fun w9 hE9=>vR _ w9 (hH.keep (s.ext.trans hE9)) (hK.keep (s.ext.trans hE9))) rfl rfl fun f h=>aY h lR (fun w9 hE9=>gn _ w9) rfl rfl fun f h=>au h (aV (.bool true) (fU (OM _ _) (by kernel_rfl) (by decide) (h.ev rfl) (h.ev rfl) (decide (dk b=dk (lg nE (dk a)))) (Oj _ _)) (congrArg Value.bool hx)) rfl fun f h=>az ab 9 h rfl fun f h=>cj s fun w1 s=>nt (wpIn_ret (aH rfl h s rfl (by show _=_;unfold gV;rw [hx];rfl))))
theorem qc (word:ByteArray) (hwd:word.size≤100) (a:Id) (w:World):Calls Tryz.prog 106 [.string word,gp a].toArray w (cp w (is (gp (lg word (dk a))))):=by
 have hks:=ou (dk a)
 have hcs:(word++jv (dk a)).size<2147483648:=by rw [ByteArray.size_append];omega
 refine bF Tryz.func106 rfl Tryz.ntmps106 rfl fun f h s=>qr (aZ (aA a) h s rfl rfl rfl fun f w1 b3 h s=>aK (aA 0#256) h s dS rfl rfl fun f w1 b4 h s=>nt (bZ ab 1 h rfl fun f h=>ak 1 h s aN rfl rfl (by first|exact ai _|exact ah _ _) rfl fun f h=>c7 h s m9 (kv _ _) rfl rfl fun f w1 h s=>ae h (j7 (h.ev rfl) (h.ev rfl) (by omega)) rfl fun f h=>c7 h s Du (uM _ hcs _) rfl rfl fun f w1 h s=>aK (aA 0#256) h s dS rfl rfl fun f w1 b5 h s=>aj 0 h s aN rfl rfl rfl (by first|exact ai _|exact ah _ _) (by first|exact ai _|exact ah _ _) (by first|exact bE _|exact bc _ _) fun w1 s=>nt (qr (ae h (dA d8) rfl fun f h=>aK (aA 0#256) h s dS rfl rfl fun f w1 b6 h s=>aj 0 h s aN rfl rfl rfl (by first|exact ai _|exact ah _ _) (by first|exact ai _|exact ah _ _) (by first|exact bE _|exact bc _ _) fun w1 s=>nt (al (bH ab 1 h rfl fun f h=>wpIn_block (wpIn_loop_ghost (fun nn aa ww=>∃ k:Nat,Sl 24 aa [(0,.string word),(1,gp a),(3,.pointer (some ⟨b3,0,none⟩)),(4,.pointer (some ⟨b4,0,none⟩)),(5,.pointer (some ⟨b5,0,none⟩)),(6,.pointer (some ⟨b6,0,none⟩)),(7,.int .i64 (k:Int))]∧St w [.blk b6 (.cells (aO (ql (qI (word++jv (dk a))) k) 32) 26),.blk b5 (.cells (aA (qI (word++jv (dk a)))) 26),.blk b4 (.cells (aA 0#256) 26),.blk b3 (.cells (aA a) 26)] ww∧nn=16 - k∧k≤16) (16 - (0)) ⟨0,h.only ⟨rfl,rfl,rfl,rfl,rfl,rfl,aq rfl (by omega),trivial⟩,s.as ⟨da (xe _),rfl,rfl,rfl,trivial⟩,rfl,Nat.zero_le _⟩ ?_)))))))
 rintro _ f w1 ⟨k,h,s,hnn,hp0⟩
 refine al (bH ab 2 h rfl fun f h=>cV h rfl (fun hc=>?_) (fun hc=>?_))
 ·refine kt (al (wpIn_block (rs ab 2 h rfl fun f h=>ae h (dF (k) Tryz.underlying26 ec (h.ev rfl) (h.ev rfl) (by omega) (by omega)) rfl fun f h=>fw 1 h s lm rfl rfl (dP _ _ (by omega)) rfl fun f h=>ae h (dF (k) Tryz.underlying26 ec (h.ev rfl) (h.ev rfl) (by omega) (by omega)) rfl fun f h=>bN 0 h s lm rfl rfl rfl (by simp;omega) (rfl) fun w1 s=>av (ba (aE (rs ab 1 h rfl fun f h=>ae h (a6 (h.ev rfl) (h.ev rfl) (by omega)) rfl fun f h=>e9 ab 1 h rfl fun f h=>?_))))))
  exact ⟨_,by omega,⟨k+1,h.only ⟨rfl,rfl,rfl,rfl,rfl,rfl,aq rfl (by omega),trivial⟩,St.as s ⟨da (xq _ _),rfl,rfl,rfl,trivial⟩,rfl,by omega⟩⟩
 ·refine wpIn_exit (aU (aU (bR (aE (qr (ak 0 h s aN rfl rfl (by first|exact ai _|exact ah _ _) rfl fun f h=>aj 2 h s aN rfl rfl rfl (by first|exact ai _|exact ah _ _) (by first|exact ai _|exact ah _ _) (by first|exact bE _|exact bc _ _) fun w1 s=>nt (wpIn_ret (cR 2 rfl h s aN rfl rfl (by first|exact ai _|exact ah _ _) (by show _=_;rw [show k=16 from by omega,zY];rfl)))))))))
theorem wS (a b:Id) (w:World):Calls Tryz.prog 86 [gp a,gp b].toArray w (cp w (is (.bool (gV a b)))):=by
 refine bF Tryz.func86 rfl Tryz.ntmps86 rfl fun f h s=>qr (aZ (aA a) h s rfl rfl rfl fun f w1 b2 h s=>aZ (aA b) h s rfl rfl rfl fun f w1 b3 h s=>e9 ab 1 h rfl fun f h=>al ?_)
 cases hx:(decide (dk b=dk (lg nE (dk a))):Bool)
 ·refine eo 15 h (by kernel_rfl) (bh 0 h s aN rfl rfl (by first|exact ai _|exact ah _ _) rfl fun f h=>aY h m9 (fun w9 hE9=>kv _ w9) rfl rfl fun f h=>bh 1 h s aN rfl rfl (by first|exact ai _|exact ah _ _) rfl fun f h=>aY h yb (fun w9 hE9=>qc nE (by decide) _ w9) rfl rfl fun f h=>aY h m9 (fun w9 hE9=>kv _ w9) rfl rfl fun f h=>au h (aV (.bool false) (cS (h.ev rfl) (h.ev rfl)) (congrArg Value.bool ((OK _ _).trans hx))) rfl fun f h=>az ab 1 h rfl fun f h=>bA h rfl (bh 1 h s aN rfl rfl (by first|exact ai _|exact ah _ _) rfl fun f h=>bA h rfl (aY h m9 (fun w9 hE9=>kv _ w9) rfl rfl fun f h=>bA h rfl (bh 0 h s aN rfl rfl (by first|exact ai _|exact ah _ _) rfl fun f h=>bA h rfl (aY h yb (fun w9 hE9=>qc ox (by decide) _ w9) rfl rfl fun f h=>bA h rfl (aY h m9 (fun w9 hE9=>kv _ w9) rfl rfl fun f h=>bA h rfl (au h (aV (.bool (decide (dk a=dk (lg ox (dk b))))) (cS (h.ev rfl) (h.ev rfl)) (congrArg Value.bool (OK _ _))) rfl fun f h=>az ab 2 h rfl fun f h=>cj s fun w1 s=>nt (wpIn_ret (aH rfl h s rfl (by show _=_;unfold gV;rw [hx];rfl))))))))))
 ·refine eo 15 h (by kernel_rfl) (bh 0 h s aN rfl rfl (by first|exact ai _|exact ah _ _) rfl fun f h=>aY h m9 (fun w9 hE9=>kv _ w9) rfl rfl fun f h=>bh 1 h s aN rfl rfl (by first|exact ai _|exact ah _ _) rfl fun f h=>aY h yb (fun w9 hE9=>qc nE (by decide) _ w9) rfl rfl fun f h=>aY h m9 (fun w9 hE9=>kv _ w9) rfl rfl fun f h=>au h (aV (.bool true) (cS (h.ev rfl) (h.ev rfl)) (congrArg Value.bool ((OK _ _).trans hx))) rfl fun f h=>az ab 9 h rfl fun f h=>cj s fun w1 s=>nt (wpIn_ret (aH rfl h s rfl (by show _=_;unfold gV;rw [hx];rfl))))
theorem EK (sx:ByteArray) (hsx:sx.size≤64) (id:Id) (n:Nat) (hn:n<16) (w:World) (hH:ff w 0 (wF jp 8)) (hK:ff w 1 (wF iJ 64)):Calls Tryz.prog 110 [.string sx,gp id,.int .i64 (n:Int)].toArray w (cp w (is (.tuple #[.string (yh sx id n),.int .i64 (0)]))):=by
 have hnt:=pn sx id n
 refine bF Tryz.func110 rfl Tryz.ntmps110 rfl fun f h s=>qr (aZ (aA id) h s rfl rfl rfl fun f w1 b4 h s=>e9 ab 2 h rfl fun f h=>al (bZ ab 1 h rfl fun f h=>gE ab h rfl (decide_eq_false (by omega)) fun f h=>am ab 2 h rfl fun f h=>bf h rfl (gE ab h rfl (decide_eq_false (by omega)) fun f h=>e9 ab 1 h rfl fun f h=>iU h rfl (al (bZ ab 1 h rfl fun f h=>ae h (ct Tryz.underlying9 (h.ev rfl)) rfl fun f h=>gE ab h rfl (decide_eq_false (by omega)) fun f h=>rH h rfl (al ?_))))))
 have hbs:=s.ext.le
 refine' tP 10 [0,1,3,4] [9] [[],[],[1],[],[3],[3,4],[3,4,5],[0,1,2,3,4,5,6],[0,1,2,3,4,5,6,7],[],[0,1,2,3,4,5,6,7,8,9]] (is _::is _::is _::is _::is _::(fun v w9=>bI w9 v 1 1 ([n].map fun (m:Nat)=>Value.int .u8 (m:Int)))::is _::(fun v w9=>bI w9 v 1 4 ([Value.string mX,Value.string sx,Value.string (qE id),Value.string (i0 (fun _=>n) 1)]))::is _::(rA (aA 0#256) 26)::is undef::[]) (fun _=>True) h s (by kernel_rfl) (by kernel_rfl) (by kernel_rfl) (by kernel_rfl) rfl (fun _ _ h _=>h) (trivial) ⟨⟨_,rfl⟩,⟨_,rfl⟩,⟨_,rfl⟩,⟨_,rfl⟩,trivial⟩ ⟨aR _,aR _,aR _,aR _,aR _,bI.mono,aR _,bI.mono,aR _,rA.mono _ _,aR _,trivial⟩ (And.intro ?_ (And.intro ?_ (And.intro ?_ (And.intro ?_ (And.intro ?_ (And.intro ?_ (And.intro ?_ (And.intro ?_ (And.intro ?_ (And.intro ?_ (And.intro ?_ (trivial)))))))))))) ?_
 rotate_left 7
 ·refine ca 18 rfl (by decide) ?_
  intro f9 w2 hE hs hl
  have e0:f9.tmps.getD 0 undef=_:=du hl 0 (by kernel_rfl) (by kernel_rfl) (h.holds 0 _ rfl)
  have h:=aD [(0,_)] hs rfl (holds_lk ⟨e0,trivial⟩)
  refine am ab 1 h rfl fun f h=>av ?_
  have e9:=h.holds 18 _ rfl
  refine ⟨?_,rfl⟩
  refine e9.trans ?_
  exact rfl
 ·refine ca 19 rfl (by decide) ?_
  intro f9 w2 hE hs hl
  have e4:f9.tmps.getD 4 undef=_:=du hl 4 (by kernel_rfl) (by kernel_rfl) (h.holds 4 _ rfl)
  have h:=aD [(4,_)] hs rfl (holds_lk ⟨e4,trivial⟩)
  refine ae h (jW Tryz.underlying26 ec (h.ev rfl)) rfl fun f h=>av ?_
  have e9:=h.holds 19 _ rfl
  refine ⟨?_,rfl⟩
  refine e9.trans ?_
  exact rfl
 ·refine cM 20 rfl (by decide) (by decide) ?_
  intro f9 w2 hE hs hd9 hl
  have e19:f9.tmps.getD 19 undef=_:=bC hl 19 1 (by kernel_rfl) (by kernel_rfl)
  have h:=aD [(19,_)] hs hd9 (holds_lk ⟨e19,trivial⟩)
  have s:=s.more hE
  have z:=St.start w2
  refine BV 0 h s Tryz.underlying162 Tryz.underlying5 Tryz.underlying9 rfl rfl rfl ?_;intro f h
  refine av ?_
  have e9:=h.holds 20 _ rfl
  refine ⟨?_,Ext.refl _,fun h9=>absurd h9 (by decide)⟩
  refine e9.trans ?_
  exact rfl
 ·refine ca 21 rfl (by decide) ?_
  intro f9 w2 hE hs hl
  have e2:f9.tmps.getD 2 undef=_:=du hl 2 (by kernel_rfl) (by kernel_rfl) (h.holds 2 _ rfl)
  have h:=aD [(2,_)] hs rfl (holds_lk ⟨e2,trivial⟩)
  refine am ab 1 h rfl fun f h=>av ?_
  have e9:=h.holds 21 _ rfl
  refine ⟨?_,rfl⟩
  refine e9.trans ?_
  exact rfl
 ·refine ca 22 rfl (by decide) ?_
  intro f9 w2 hE hs hl
  have e21:f9.tmps.getD 21 undef=_:=bC hl 21 3 (by kernel_rfl) (by kernel_rfl)
  have h:=aD [(21,_)] hs rfl (holds_lk ⟨e21,trivial⟩)
  refine ae h (aV (.int .u8 (n:Int)) (gf Tryz.underlying3 Tryz.underlying5 (h.ev rfl)) (congrArg (Value.int .u8) (by omega))) rfl fun f h=>av ?_
  have e9:=h.holds 22 _ rfl
  refine ⟨?_,rfl⟩
  refine e9.trans ?_
  exact rfl
 ·refine cM 23 rfl (by decide) (by decide) ?_
  intro f9 w2 hE hs hd9 hl
  have e22:f9.tmps.getD 22 undef=_:=bC hl 22 4 (by kernel_rfl) (by kernel_rfl)
  have h:=aD [(22,_)] hs hd9 (holds_lk ⟨e22,trivial⟩)
  have s:=s.more hE
  have z:=St.start w2
  refine bn (vs:=[.int .u8 (n:Int)]) [.tmp 22] h z Tryz.underlying162 uV rfl rfl (by simp [Value.cells]) rfl rfl rfl fun f w1 v9 h z=>av ?_
  exact Ev (h.holds 23 _ rfl) z _ (rfl)
 ·refine cM 24 rfl (by decide) (by decide) ?_
  intro f9 w2 hE hs hd9 hl
  obtain ⟨u23,hu23⟩:∃ v,f9.tmps.getD 23 undef=v:=⟨_,rfl⟩
  have e23:(fun v w9=>bI w9 v 1 1 ([n].map fun (m:Nat)=>Value.int .u8 (m:Int))) u23 w2:=by rw [← hu23];exact bC hl 23 5 (by kernel_rfl) (by kernel_rfl)
  have h:=aD [(23,u23)] hs hd9 (holds_lk ⟨hu23,trivial⟩)
  have s:=s.more hE
  have z:=St.start w2
  refine un (ns:=[n]) (e23) h Tryz.underlying162 Tryz.underlying5 Tryz.underlying9 rfl rfl ?_;intro f h
  refine av ?_
  have e9:=h.holds 24 _ rfl
  refine ⟨?_,Ext.refl _,fun h9=>absurd h9 (by decide)⟩
  refine e9.trans ?_
  exact rfl
 ·refine cM 25 rfl (by decide) (by decide) ?_
  intro f9 w2 hE hs hd9 hl
  have e18:f9.tmps.getD 18 undef=_:=bC hl 18 0 (by kernel_rfl) (by kernel_rfl)
  have e20:f9.tmps.getD 20 undef=_:=bC hl 20 2 (by kernel_rfl) (by kernel_rfl)
  have e24:f9.tmps.getD 24 undef=_:=bC hl 24 6 (by kernel_rfl) (by kernel_rfl)
  have h:=aD [(18,_),(20,_),(24,_)] hs hd9 (holds_lk ⟨e18,e20,e24,trivial⟩)
  have s:=s.more hE
  have z:=St.start w2
  refine bn (vs:=[.string mX,.string sx,.string (qE id),.string (i0 (fun _=>n) 1)]) [.const (.string ⟨#[110,111,110,99,101]⟩),.tmp 18,.tmp 20,.tmp 24] h z Tryz.underlying101 JY rfl rfl (by simp [Value.cells]) rfl rfl rfl fun f w1 v9 h z=>av ?_
  exact Ev (h.holds 25 _ rfl) z _ (rfl)
 ·refine cM 26 rfl (by decide) (by decide) ?_
  intro f9 w2 hE hs hd9 hl
  obtain ⟨u25,hu25⟩:∃ v,f9.tmps.getD 25 undef=v:=⟨_,rfl⟩
  have e25:(fun v w9=>bI w9 v 1 4 ([Value.string mX,Value.string sx,Value.string (qE id),Value.string (i0 (fun _=>n) 1)])) u25 w2:=by rw [← hu25];exact bC hl 25 7 (by kernel_rfl) (by kernel_rfl)
  have h:=aD [(25,u25)] hs hd9 (holds_lk ⟨hu25,trivial⟩)
  have s:=s.more hE
  have z:=St.start w2
  refine bq h s Dq (DX (mN sx id n) [mX,sx,qE id,i0 (fun _=>n) 1] (Od _ _ _ _) (by omega) (by simp) _ _ (bI.toRd e25) (hH.keep s.ext) (hK.keep s.ext)) rfl rfl ?_;intro f w1 v9 hT hE h s;obtain rfl:=hT
  refine av ?_
  have e9:=h.holds 26 _ rfl
  refine ⟨?_,hE,fun h9=>absurd h9 (by decide)⟩
  refine e9.trans ?_
  exact rfl
 ·refine cM 8 rfl (by decide) (by decide) ?_
  intro f9 w2 hE hs hd9 hl
  have h:=aD [] hs hd9 (holds_lk trivial)
  have s:=s.more hE
  have z:=St.start w2
  refine aK (aA 0#256) h z dS rfl rfl fun f w1 b9 h z=>av ?_
  exact Ei (h.holds 8 _ rfl) z
 ·exact gQ (by decide) (by decide)
 ·intro f9 w2 hE hs hd9 hWp hT hR hFr hDj
  obtain ⟨u23,hu23⟩:∃ v,f9.tmps.getD 23 undef=v:=⟨_,rfl⟩
  have e23:(fun v w9=>bI w9 v 1 1 ([n].map fun (m:Nat)=>Value.int .u8 (m:Int))) u23 w2:=by rw [← hu23];exact hT 5 23 (by decide) rfl
  obtain ⟨u25,hu25⟩:∃ v,f9.tmps.getD 25 undef=v:=⟨_,rfl⟩
  have e25:(fun v w9=>bI w9 v 1 4 ([Value.string mX,Value.string sx,Value.string (qE id),Value.string (i0 (fun _=>n) 1)])) u25 w2:=by rw [← hu25];exact hT 7 25 (by decide) rfl
  obtain ⟨u8,hu8⟩:∃ v,f9.tmps.getD 8 undef=v:=⟨_,rfl⟩
  have e8:(rA (aA 0#256) 26) u8 w2:=by rw [← hu8];exact hT 9 8 (by decide) rfl
  have k8:=hFr 9 8 (by decide) rfl;rw [hu8] at k8
  replace h:=sl_new (ops:=_) [(18,_),(19,_),(20,_),(21,_),(22,_),(23,u23),(24,_),(25,u25),(26,_),(8,u8)] h hs hd9 hR ⟨hT 0 18 (by decide) rfl,hT 1 19 (by decide) rfl,hT 2 20 (by decide) rfl,hT 3 21 (by decide) rfl,hT 4 22 (by decide) rfl,hu23,hT 6 24 (by decide) rfl,hu25,hT 8 26 (by decide) rfl,hu8,trivial⟩ (by kernel_rfl)
  obtain ⟨b8,hb8,s⟩:=uN s hE e8 k8;subst hb8
  clear hT hR hFr hDj
  refine kq.of ?_
  refine aj 0 h s aN rfl rfl rfl (by first|exact ai _|exact ah _ _) (by first|exact ai _|exact ah _ _) (by first|exact bE _|exact bc _ _) fun w1 s=>nt (qr (ae h (fW 16 Tryz.underlying26 ec (h.ev rfl) (h.ev rfl) rfl (by decide)) rfl fun f h=>qm (aG.subL (o:=0) (aG.of_own s 0 rfl) 0 16 (D:=ki (dk (qI (mN sx id n)))) (mf _)) h Tryz.underlying162 Tryz.underlying5 Tryz.underlying9 rfl rfl ?_));intro f h
  refine e9 ab 2 h rfl fun f h=>wpIn_ret (dr rfl h s rfl rfl (rfl))
theorem AU (sx:ByteArray) (hsx:sx.size≤64) (id:Id) (n:Nat) (hn:n<16) (w:World):Calls Tryz.prog 87 [.string sx,gp id,.int .i64 (n:Int)].toArray w (cp w (is (.string (yh sx id n)))):=by
 have hnt:=pn sx id n
 refine bF Tryz.func87 rfl Tryz.ntmps87 rfl fun f h s=>qr (aZ (aA id) h s rfl rfl rfl fun f w1 b4 h s=>e9 ab 1 h rfl fun f h=>al ?_)
 have hbs:=s.ext.le
 refine' tP 12 [0,1,2,5,6] [11] [[],[0],[],[2],[0,1,2,3],[],[5],[5,6],[5,6,7],[0,1,2,3,4,5,6,7,8],[0,1,2,3,4,5,6,7,8,9],[],[0,1,2,3,4,5,6,7,8,9,10,11]] (is _::is _::is _::is _::is _::is _::is _::(fun v w9=>bI w9 v 1 1 ([n].map fun (m:Nat)=>Value.int .u8 (m:Int)))::is _::is _::is _::(rA (aA 0#256) 26)::is undef::[]) (fun _=>True) h s (by kernel_rfl) (by kernel_rfl) (by kernel_rfl) (by kernel_rfl) rfl (fun _ _ h _=>h) (trivial) ⟨⟨_,rfl⟩,⟨_,rfl⟩,⟨_,rfl⟩,⟨_,rfl⟩,⟨_,rfl⟩,trivial⟩ ⟨aR _,aR _,aR _,aR _,aR _,aR _,aR _,bI.mono,aR _,aR _,aR _,rA.mono _ _,aR _,trivial⟩ (And.intro ?_ (And.intro ?_ (And.intro ?_ (And.intro ?_ (And.intro ?_ (And.intro ?_ (And.intro ?_ (And.intro ?_ (And.intro ?_ (And.intro ?_ (And.intro ?_ (And.intro ?_ (And.intro ?_ (trivial)))))))))))))) ?_
 rotate_left 10
 ·refine ca 8 rfl (by decide) ?_
  intro f9 w2 hE hs hl
  have e0:f9.tmps.getD 0 undef=_:=du hl 0 (by kernel_rfl) (by kernel_rfl) (h.holds 0 _ rfl)
  have h:=aD [(0,_)] hs rfl (holds_lk ⟨e0,trivial⟩)
  refine am ab 1 h rfl fun f h=>av ?_
  have e9:=h.holds 8 _ rfl
  refine ⟨?_,rfl⟩
  refine e9.trans ?_
  exact rfl
 ·refine ca 9 rfl (by decide) ?_
  intro f9 w2 hE hs hl
  have e8:f9.tmps.getD 8 undef=_:=bC hl 8 0 (by kernel_rfl) (by kernel_rfl)
  have h:=aD [(8,_)] hs rfl (holds_lk ⟨e8,trivial⟩)
  refine ae h (j7 (h.ev rfl) (h.ev rfl) (by show 5+_≤_;omega)) rfl fun f h=>av ?_
  have e9:=h.holds 9 _ rfl
  refine ⟨?_,rfl⟩
  refine e9.trans ?_
  exact rfl
 ·refine ca 10 rfl (by decide) ?_
  intro f9 w2 hE hs hl
  have e4:f9.tmps.getD 4 undef=_:=du hl 4 (by kernel_rfl) (by kernel_rfl) (h.holds 4 _ rfl)
  have h:=aD [(4,_)] hs rfl (holds_lk ⟨e4,trivial⟩)
  refine ae h (jW Tryz.underlying26 ec (h.ev rfl)) rfl fun f h=>av ?_
  have e9:=h.holds 10 _ rfl
  refine ⟨?_,rfl⟩
  refine e9.trans ?_
  exact rfl
 ·refine cM 11 rfl (by decide) (by decide) ?_
  intro f9 w2 hE hs hd9 hl
  have e10:f9.tmps.getD 10 undef=_:=bC hl 10 2 (by kernel_rfl) (by kernel_rfl)
  have h:=aD [(10,_)] hs hd9 (holds_lk ⟨e10,trivial⟩)
  have s:=s.more hE
  have z:=St.start w2
  refine BV 0 h s Tryz.underlying162 Tryz.underlying5 Tryz.underlying9 rfl rfl rfl ?_;intro f h
  refine av ?_
  have e9:=h.holds 11 _ rfl
  refine ⟨?_,Ext.refl _,fun h9=>absurd h9 (by decide)⟩
  refine e9.trans ?_
  exact rfl
 ·refine cM 12 rfl (by decide) (by decide) ?_
  intro f9 w2 hE hs hd9 hl
  have e9:f9.tmps.getD 9 undef=_:=bC hl 9 1 (by kernel_rfl) (by kernel_rfl)
  have e11:f9.tmps.getD 11 undef=_:=bC hl 11 3 (by kernel_rfl) (by kernel_rfl)
  have h:=aD [(9,_),(11,_)] hs hd9 (holds_lk ⟨e9,e11,trivial⟩)
  have s:=s.more hE
  have z:=St.start w2
  refine ae h (j7 (h.ev rfl) (h.ev rfl) (by rw [ByteArray.size_append,jG];show 5+_+_≤_;omega)) rfl fun f h=>av ?_
  have e9:=h.holds 12 _ rfl
  refine ⟨?_,Ext.refl _,fun h9=>absurd h9 (by decide)⟩
  refine e9.trans ?_
  exact rfl
 ·refine ca 13 rfl (by decide) ?_
  intro f9 w2 hE hs hl
  have e2:f9.tmps.getD 2 undef=_:=du hl 2 (by kernel_rfl) (by kernel_rfl) (h.holds 2 _ rfl)
  have h:=aD [(2,_)] hs rfl (holds_lk ⟨e2,trivial⟩)
  refine am ab 1 h rfl fun f h=>av ?_
  have e9:=h.holds 13 _ rfl
  refine ⟨?_,rfl⟩
  refine e9.trans ?_
  exact rfl
 ·refine ca 14 rfl (by decide) ?_
  intro f9 w2 hE hs hl
  have e13:f9.tmps.getD 13 undef=_:=bC hl 13 5 (by kernel_rfl) (by kernel_rfl)
  have h:=aD [(13,_)] hs rfl (holds_lk ⟨e13,trivial⟩)
  refine ae h (aV (.int .u8 (n:Int)) (gf Tryz.underlying3 Tryz.underlying5 (h.ev rfl)) (congrArg (Value.int .u8) (by omega))) rfl fun f h=>av ?_
  have e9:=h.holds 14 _ rfl
  refine ⟨?_,rfl⟩
  refine e9.trans ?_
  exact rfl
 ·refine cM 15 rfl (by decide) (by decide) ?_
  intro f9 w2 hE hs hd9 hl
  have e14:f9.tmps.getD 14 undef=_:=bC hl 14 6 (by kernel_rfl) (by kernel_rfl)
  have h:=aD [(14,_)] hs hd9 (holds_lk ⟨e14,trivial⟩)
  have s:=s.more hE
  have z:=St.start w2
  refine bn (vs:=[.int .u8 (n:Int)]) [.tmp 14] h z Tryz.underlying162 uV rfl rfl (by simp [Value.cells]) rfl rfl rfl fun f w1 v9 h z=>av ?_
  exact Ev (h.holds 15 _ rfl) z _ (rfl)
 ·refine cM 16 rfl (by decide) (by decide) ?_
  intro f9 w2 hE hs hd9 hl
  obtain ⟨u15,hu15⟩:∃ v,f9.tmps.getD 15 undef=v:=⟨_,rfl⟩
  have e15:(fun v w9=>bI w9 v 1 1 ([n].map fun (m:Nat)=>Value.int .u8 (m:Int))) u15 w2:=by rw [← hu15];exact bC hl 15 7 (by kernel_rfl) (by kernel_rfl)
  have h:=aD [(15,u15)] hs hd9 (holds_lk ⟨hu15,trivial⟩)
  have s:=s.more hE
  have z:=St.start w2
  refine un (ns:=[n]) (e15) h Tryz.underlying162 Tryz.underlying5 Tryz.underlying9 rfl rfl ?_;intro f h
  refine av ?_
  have e9:=h.holds 16 _ rfl
  refine ⟨?_,Ext.refl _,fun h9=>absurd h9 (by decide)⟩
  refine e9.trans ?_
  exact rfl
 ·refine cM 17 rfl (by decide) (by decide) ?_
  intro f9 w2 hE hs hd9 hl
  have e12:f9.tmps.getD 12 undef=_:=bC hl 12 4 (by kernel_rfl) (by kernel_rfl)
  have e16:f9.tmps.getD 16 undef=_:=bC hl 16 8 (by kernel_rfl) (by kernel_rfl)
  have h:=aD [(12,_),(16,_)] hs hd9 (holds_lk ⟨e12,e16,trivial⟩)
  have s:=s.more hE
  have z:=St.start w2
  refine ae h (j7 (h.ev rfl) (h.ev rfl) (by rw [ByteArray.size_append,ByteArray.size_append,jG];show 5+_+_+1≤_;omega)) rfl fun f h=>av ?_
  have e9:=h.holds 17 _ rfl
  refine ⟨?_,Ext.refl _,fun h9=>absurd h9 (by decide)⟩
  refine e9.trans ?_
  exact rfl
 ·refine cM 18 rfl (by decide) (by decide) ?_
  intro f9 w2 hE hs hd9 hl
  have e17:f9.tmps.getD 17 undef=_:=bC hl 17 9 (by kernel_rfl) (by kernel_rfl)
  have h:=aD [(17,_)] hs hd9 (holds_lk ⟨e17,trivial⟩)
  have s:=s.more hE
  have z:=St.start w2
  refine bq h s Du (uM (mN sx id n) (by omega) _) rfl rfl ?_;intro f w1 v9 hT hE h s;obtain rfl:=hT
  refine av ?_
  have e9:=h.holds 18 _ rfl
  refine ⟨?_,hE,fun h9=>absurd h9 (by decide)⟩
  refine e9.trans ?_
  exact rfl
 ·refine cM 7 rfl (by decide) (by decide) ?_
  intro f9 w2 hE hs hd9 hl
  have h:=aD [] hs hd9 (holds_lk trivial)
  have s:=s.more hE
  have z:=St.start w2
  refine aK (aA 0#256) h z dS rfl rfl fun f w1 b9 h z=>av ?_
  exact Ei (h.holds 7 _ rfl) z
 ·exact gQ (by decide) (by decide)
 ·intro f9 w2 hE hs hd9 hWp hT hR hFr hDj
  obtain ⟨u15,hu15⟩:∃ v,f9.tmps.getD 15 undef=v:=⟨_,rfl⟩
  have e15:(fun v w9=>bI w9 v 1 1 ([n].map fun (m:Nat)=>Value.int .u8 (m:Int))) u15 w2:=by rw [← hu15];exact hT 7 15 (by decide) rfl
  obtain ⟨u7,hu7⟩:∃ v,f9.tmps.getD 7 undef=v:=⟨_,rfl⟩
  have e7:(rA (aA 0#256) 26) u7 w2:=by rw [← hu7];exact hT 11 7 (by decide) rfl
  have k7:=hFr 11 7 (by decide) rfl;rw [hu7] at k7
  replace h:=sl_new (ops:=_) [(8,_),(9,_),(10,_),(11,_),(12,_),(13,_),(14,_),(15,u15),(16,_),(17,_),(18,_),(7,u7)] h hs hd9 hR ⟨hT 0 8 (by decide) rfl,hT 1 9 (by decide) rfl,hT 2 10 (by decide) rfl,hT 3 11 (by decide) rfl,hT 4 12 (by decide) rfl,hT 5 13 (by decide) rfl,hT 6 14 (by decide) rfl,hu15,hT 8 16 (by decide) rfl,hT 9 17 (by decide) rfl,hT 10 18 (by decide) rfl,hu7,trivial⟩ (by kernel_rfl)
  obtain ⟨b7,hb7,s⟩:=uN s hE e7 k7;subst hb7
  clear hT hR hFr hDj
  refine kq.of ?_
  refine aj 0 h s aN rfl rfl rfl (by first|exact ai _|exact ah _ _) (by first|exact ai _|exact ah _ _) (by first|exact bE _|exact bc _ _) fun w1 s=>nt (qr (ae h (fW 16 Tryz.underlying26 ec (h.ev rfl) (h.ev rfl) rfl (by decide)) rfl fun f h=>qm (aG.subL (o:=0) (aG.of_own s 0 rfl) 0 16 (D:=ki (dk (qI (mN sx id n)))) (mf _)) h Tryz.underlying162 Tryz.underlying5 Tryz.underlying9 rfl rfl ?_));intro f h
  refine e9 ab 1 h rfl fun f h=>wpIn_ret (aH rfl h s rfl (rfl))
end Go.Proofs.YtobfeflheaobiaaGreatDoor
