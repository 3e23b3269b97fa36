/- Package world and what it stands on, so far as it is wanted: what each function answers. -/
import Derived.Test.YtkhepdpfdhdlaaaGreatDoorZi
import Derived.Test.YtkhepdpfdhdlaaaGreatDoorZn
import Derived.Test.YtkhepdpfdhdlaaaGreatDoorZc
import Derived.Test.YtkhepdpfdhdlaaaGreatDoorZj
import Derived.Test.YtkhepdpfdhdlaaaGreatDoorZb
set_option linter.unusedVariables false
set_option linter.unusedSimpArgs false
set_option linter.unusedSectionVars false
namespace Go.Proofs.YtkhepdpfdhdlaaaGreatDoor
open Go.RowKit
set_option maxHeartbeats 1000000 in
theorem xT (vo vs vh vl vn:Value) (X:Wx) (N:List Nt) (kk:List Nat) (bc:Nat) (B9:List Own) (fr:Int) (x:Se) (us:Value)  (w0 w:World) (s:St w0 (.blk bc (.cells (ef vo vs vh vl X.M.last X.M.now vn) 83)::.sl vn 59 74 N.length (aH N)::.grp kk (λw9=>RdC w9 vo vl X)::B9) w) (hMl:X.M.l.length<=900) (h0:0<=x.1) (hxm:cR x.2.1=true) (hxl:x.2.1.l.length<=1000) (hU:∀ w9,St w0 B9 w9->ez w9 us x.2.1.l):Calls Tryz.prog 157 [.pointer (some ⟨bc,0,none⟩),.int .i64 fr,.agg (bK x.1 x.2.1 us x.2.2)].toArray w (λe w9=>∃ v,e=.returned v/\(((cx X.M fr x.1 (cf x.2.1))=0/\v=.tuple #[.int .i64 (jJ X.M fr x.1 (cf x.2.1)),.int .i64 0]/\∃ vx kn,St w0 (.blk bc (.cells (ef vo vs vh vx (f4 X.M fr x.1 (cf x.2.1)).last (f4 X.M fr x.1 (cf x.2.1)).now vn) 83)::.sl vn 59 74 N.length (aH N)::.grp kn (λw9=>RdC w9 vo vx {X with M:=(f4 X.M fr x.1 (cf x.2.1))})::B9) w9)∨(¬ (cx X.M fr x.1 (cf x.2.1))=0/\v=.tuple #[.int .i64 0,.int .i64 (cx X.M fr x.1 (cf x.2.1))]/\St w0 (.blk bc (.cells (ef vo vs vh vl X.M.last X.M.now vn) 83)::.sl vn 59 74 N.length (aH N)::.grp kk (λw9=>RdC w9 vo vl X)::B9) w9))):=by
 have hu1:=bf (hU _ (s.dropN 3))
 refine dG Tryz.func157 rfl Tryz.ntmps157 rfl [(0,.pointer (some ⟨bc,0,none⟩)),(1,.int .i64 fr),(2,.agg (bK x.1 x.2.1 us x.2.2))] (by simp) λf h=>?_
 refine qr (bh (bK x.1 x.2.1 us x.2.2) h s rfl rfl rfl λf w1 b5 h s=>e9 ac 2 h rfl λf h=>cu ac 2 h rfl λf h=>al 0 h s dZ rfl rfl (bC _ _ _ _) rfl λf h=>da h s N0 (Cv x us fr bc h0 _ hu1) rfl rfl λf w1 h s=>e9 ac 5 h rfl λf h=>ah (cu ac 1 h rfl λf h=>lL ac (.bool false) h rfl (rfl) rfl λf h=>f7 h rfl (cu ac 1 h rfl λf h=>aB (aJ.subL (aJ.of_own s 0 rfl) 1 71 (D:=cW x.2.1 us) (VY _ _ _ _)) h jy rfl (dp _ _) rfl λf h=>bB h s OY (HY x.2.1 hxm us _ (hU _ (s.dropN 4)) (by omega)) rfl rfl ?_)));intro f w1 v9 hT hE h s;obtain rfl:=hT
 refine e9 ac 5 h rfl λf h=>cu ac 4 h rfl λf h=>aB (aJ.subL (aJ.of_own s 1 rfl) 3 3 (D:=#[vl,.int .i64 X.M.last,.int .i64 X.M.now]) (WD _ _ _ _ _ _ _)) h dP rfl (rfl) rfl λf h=>ap ac 3 h rfl λf h=>bB h s OU (Ek X.M vl fr x.1 (cf x.2.1) _ (s.getG 3 rfl).ml (by omega)) rfl rfl ?_;rintro f w1 v39 ⟨vx,rfl,hT⟩ hE h sq;replace s:=s.sl_new hE hT
 refine ap ac 4 h rfl λf h=>aS (#[aj,.int .i64 0,.int .i64 0]) h s zU rfl rfl λf w1 b12 h s=>ak 0 h s dP rfl rfl rfl (rfl) (rfl) (wJ _ _ (bA (s.getSl 1 rfl))) λw1 s=>e9 ac 2 h rfl λf h=>ah (bF ac 2 h rfl λf h=>cA h rfl (λhc=>?_) (λhc=>?_))
 ·have e0:¬ (cx X.M fr x.1 (cf x.2.1))=0:=Yq hc
  refine bF ac 3 h rfl λf h=>rt ?_
  exact AP rfl h rfl rfl (by replace s:=s.bring 5 rfl;replace s:=s.bring 5 rfl;replace s:=s.bring 5 rfl;exact ⟨_,rfl,.inr ⟨e0,rfl,(s.pick _ (Yo _ (Yo _ (Yo _ (Yp _ (Yp _ (Yp _ (List.Sublist.refl _))))))))⟩⟩)
 ·have e0:(cx X.M fr x.1 (cf x.2.1))=0:=Decidable.of_not_not (Yr hc)
  refine kt (cu ac 1 h rfl λf h=>al 0 h s dP rfl rfl (rfl) rfl λf h=>ap ac 3 h rfl λf h=>nO 3 h s dP rfl rfl rfl (rfl) (by rw [gx];omega) (wJ _ _ (bA (s.getSl 1 rfl))) λw1 s=>?_)
  replace s:=s.recell (D:=ef vo vs vh vx ((f4 X.M fr x.1 (cf x.2.1)).last) ((f4 X.M fr x.1 (cf x.2.1)).now) vn) 3 rfl rfl
  refine nt (bF ac 3 h rfl λf h=>Y8 ?_)
  exact AP rfl h rfl rfl (by replace s:=s.bring 4 rfl;replace s:=s.bring 4 rfl;replace s:=s.bring 5 rfl;replace s:=s.bring 4 rfl;exact(have ⟨kn,z9⟩:=UA (X:=X) (m:=(f4 X.M fr x.1 (cf x.2.1))) (s.pick _ (Yo _ (Yo _ (Yo _ (Yo _ (Yp _ (Yp _ (List.Sublist.refl _))))))));⟨_,rfl,.inl ⟨e0,rfl,vx,kn,z9.perm (ZB (l₁:=[_,_])).symm⟩⟩))
theorem sY (vo vs vh vl vn:Value) (X:Wx) (N:List Nt) (kk:List Nat) (bc:Nat) (B9:List Own) (fr:Int) (x:Se) (us:Value) (w0 w:World) (s:St w0 (.blk bc (.cells (ef vo vs vh vl X.M.last X.M.now vn) 83)::.sl vn 59 74 N.length (aH N)::.grp kk (λw9=>RdC w9 vo vl X)::B9) w) (hMl:X.M.l.length<=900) (h0:0<=x.1) (hxm:cR x.2.1=true) (hxl:x.2.1.l.length<=1000) (hU:∀ w9,St w0 B9 w9->ez w9 us x.2.1.l):Calls Tryz.prog 157 [.pointer (some ⟨bc,0,none⟩),.int .i64 fr,.agg (bK x.1 x.2.1 us x.2.2)].toArray w (λe w9=>∃ v,e=.returned v/\v=.tuple #[.int .i64 (Nq X.M fr x.1 (cf x.2.1)),.int .i64 (cx X.M fr x.1 (cf x.2.1))]/\∃ vx kn,St w0 (.blk bc (.cells (ef vo vs vh vx (yu X.M fr x.1 (cf x.2.1)).last (yu X.M fr x.1 (cf x.2.1)).now vn) 83)::.sl vn 59 74 N.length (aH N)::.grp kn (λw9=>RdC w9 vo vx {X with M:=(yu X.M fr x.1 (cf x.2.1))})::B9) w9):=by
 refine(xT vo vs vh vl vn X N kk bc B9 fr x us w0 w s hMl h0 hxm hxl hU).mono ?_
 rintro e w9 ⟨v,rfl,⟨e0,rfl,vx,kn,s⟩|⟨e0,rfl,s⟩⟩
 ·exact ⟨_,rfl,by rw [(GR e0).2,e0],vx,kn,by rw [(GR e0).1];exact s⟩
 ·exact ⟨_,rfl,by rw [(ya e0).2],vl,kk,by rw [(ya e0).1];exact s⟩
set_option maxHeartbeats 2000000 in
theorem rg (vo vs vh vl vn:Value) (X:Wx) (N:List Nt) (kk:List Nat) (bc:Nat) (B9:List Own) (fr:Int) (x:Se) (us:Value)  (w0 w:World) (s:St w0 (.blk bc (.cells (ef vo vs vh vl X.M.last X.M.now vn) 83)::.sl vn 59 74 N.length (aH N)::.grp kk (λw9=>RdC w9 vo vl X)::B9) w) (hMl:X.M.l.length<=900) (h0:0<=x.1) (hxm:cR x.2.1=true) (hxl:x.2.1.l.length<=1000) (hU:∀ w9,St w0 B9 w9->ez w9 us x.2.1.l) (hNl:N.length<=100000):Calls Tryz.prog 92 [.pointer (some ⟨bc,0,none⟩),.int .i64 fr,.agg (bK x.1 x.2.1 us x.2.2)].toArray w (λe w9=>∃ v,e=.returned v/\v=.int .i64 (aT ⟨ax X,N,0⟩ fr x).no/\∃ vx vm kn,St w0 (.blk bc (.cells (ef vo vs vh vx (aT ⟨ax X,N,0⟩ fr x).w.ml.last (aT ⟨ax X,N,0⟩ fr x).w.ml.now vm) 83)::.sl vm 59 74 (aT ⟨ax X,N,0⟩ fr x).n.length (aH (aT ⟨ax X,N,0⟩ fr x).n)::.grp kn (λw9=>RdC w9 vo vx {X with M:=(aT ⟨ax X,N,0⟩ fr x).w.ml})::B9) w9):=by
 have hu1:=bf (hU _ (s.dropN 3))
 refine dG Tryz.func92 rfl Tryz.ntmps92 rfl [(0,.pointer (some ⟨bc,0,none⟩)),(1,.int .i64 fr),(2,.agg (bK x.1 x.2.1 us x.2.2))] (by simp) λf h=>?_
 refine qr (bh (bK x.1 x.2.1 us x.2.2) h s rfl rfl rfl λf w1 b5 h s=>e9 ac 1 h rfl λf h=>cu ac 2 h rfl λf h=>al 0 h s dZ rfl rfl (bC _ _ _ _) rfl λf h=>?_)
 replace s:=s.bring 3 rfl
 replace s:=s.bring 3 rfl
 replace s:=s.bring 3 rfl
 replace s:St w0 (.blk bc (.cells (ef vo vs vh vl X.M.last X.M.now vn) 83)::.sl vn 59 74 N.length (aH N)::(.grp kk (λw9=>RdC w9 vo vl X))::.blk b5 (.cells (bK x.1 x.2.1 us x.2.2) 166)::B9) _:=s
 refine dI [.pointer (some ⟨bc,0,none⟩),.int .i64 fr,.agg (bK x.1 x.2.1 us x.2.2)] h Pf (sY vo vs vh vl vn X N kk bc _ fr x us _ _ s hMl h0 hxm hxl (by exact λw9 s9=>hU _ (s9.dropN 1))) rfl rfl ?_;rintro f w1 v13 ⟨rfl,vx,kn,s⟩ h
 refine e9 ac 5 h rfl λf h=>ah (bF ac 2 h rfl λf h=>cA h rfl (λhc=>?_) (λhc=>?_))
 ·have e0:¬ (cx X.M fr x.1 (cf x.2.1))=0:=Yq hc
  refine rs ac 3 h rfl λf h=>ai h (qT L9 rfl (h.ev rfl) (h.ev rfl)) rfl λf h=>?_
  replace s:=s.bring 2 rfl
  replace s:=s.bring 2 rfl
  replace s:=s.bring 2 rfl
  replace s:St w0 (.blk bc (.cells (ef vo vs vh vx (yu X.M fr x.1 (cf x.2.1)).last (yu X.M fr x.1 (cf x.2.1)).now vn) 83)::.sl vn 59 74 N.length (aH N)::(.grp kn (λw9=>RdC w9 vo vx {X with M:=(yu X.M fr x.1 (cf x.2.1))}))::.blk b5 (.cells (bK x.1 x.2.1 us x.2.2) 166)::B9) _:=s
  refine dI [.pointer (some ⟨bc,0,none⟩),.agg (qA 5 0 fr 0 0 eg ByteArray.empty (cx X.M fr x.1 (cf x.2.1)))] h MI (rx vo vs vh vx vn {X with M:=(yu X.M fr x.1 (cf x.2.1))} N kn bc _ (rA fr 0 (cx X.M fr x.1 (cf x.2.1))) _ _ s (by omega)) rfl rfl ?_;rintro f w1 v22 ⟨vm,s⟩ h
  refine nt (bF ac 2 h rfl λf h=>Y8 (d6 rfl h rfl (by replace s:=s.bring 2 rfl;replace s:=s.bring 2 rfl;replace s:=s.bring 2 rfl;exact ⟨_,rfl,by rw [(pD (W:=ax X) (N:=N) (z:=0) h0 e0).2.2];rfl,vx,vm,kn,by rw [(pD (W:=ax X) (N:=N) (z:=0) h0 e0).1,(pD (W:=ax X) (N:=N) (z:=0) h0 e0).2.1];rw [show yu X.M fr x.1 (cf x.2.1)=X.M from (ya e0).1] at s;rw [show yu (ax X).ml fr x.1 (cf x.2.1)=X.M from (ya e0).1];exact(s.pick _ (Yo _ (Yo _ (Yo _ (Yp _ (List.Sublist.refl _))))))⟩)))
 ·have e0:(cx X.M fr x.1 (cf x.2.1))=0:=Decidable.of_not_not (Yr hc)
  refine kt (bF ac 2 h rfl λf h=>Y8 (d6 rfl h rfl (by replace s:=s.bring 2 rfl;replace s:=s.bring 2 rfl;replace s:=s.bring 2 rfl;exact ⟨_,rfl,by rw [(oU (W:=ax X) (N:=N) (z:=0) h0 e0).2.2];rfl,vx,vn,kn,by rw [(oU (W:=ax X) (N:=N) (z:=0) h0 e0).1,(oU (W:=ax X) (N:=N) (z:=0) h0 e0).2.1];exact(s.pick _ (Yo _ (Yo _ (Yo _ (Yp _ (List.Sublist.refl _))))))⟩)))
set_option maxHeartbeats 4000000 in
theorem zC (vo vs vh vl vn:Value) (X:Wx) (kk:List Nat) (bc:Nat) (B9:List Own) (a:Ac) (va:Value)  (w0 w:World) (s:St w0 (.blk bc (.cells (ef vo vs vh vl X.M.last X.M.now vn) 83)::.sl vs 46 3 X.S.length (aQ X.S)::.sl vh 66 5 X.H.length (aC X.H)::.sl vn 59 74 ([]:List Nt).length (aH ([]:List Nt))::.grp kk (λw9=>RdC w9 vo vl X)::B9) w) (hbd:BdW (ax X)) (hrt:cj (ax X)=true) (hal:a.l.length<=1000) (hU:∀ w9,St w0 B9 w9->ez w9 va a.l):Calls Tryz.prog 43 [.pointer (some ⟨bc,0,none⟩),.agg (bO a va)].toArray w (λe w9=>∃ v,e=.returned v/\Jd w0 bc 83 46 66 59 (gA (ax X) a) B9 v w9):=by
 have hbM:X.M.l.length<=100:=hbd.ml
 have hbH:=hbd.hx
 refine dG Tryz.func43 rfl Tryz.ntmps43 rfl [(0,.pointer (some ⟨bc,0,none⟩)),(1,.agg (bO a va))] (by simp) λf h=>?_
 refine qr (bh (bO a va) h s rfl rfl rfl λf w1 b3 h s=>e9 ac 1 h rfl λf h=>ah ?_)
 cases l0:(decide ((aZ X a.no)<X.H.length):Bool)
 ·refine rs ac 2 h rfl λf h=>ag (V:=.int .i64 a.no) (ae (aJ.of_own s 0 rfl) 1 (w6 _ _)) h bs rfl rfl λf h=>da h s u5 (aX (.pointer none) (hQ vo vs vh vl vn X.M.last X.M.now bc X.H a.no _ (iF.of_own s 1 rfl) (bp.of_own (s.getSl 3 rfl)) (λx hx=>⟨bf ((s.getG 5 rfl).hw x hx).1,bf ((s.getG 5 rfl).hw x hx).2.1,bf ((s.getG 5 rfl).hw x hx).2.2⟩) (by omega)) (pO (Yr l0))) rfl rfl λf w1 h s=>e9 ac 1 h rfl λf h=>ah (cu ac 1 h rfl λf h=>ai h (bq (.bool true) (eX ac8 (h.ev rfl) (h.ev rfl)) (rfl)) rfl λf h=>ie h rfl (bF ac 1 h rfl λf h=>rt (d6 rfl h rfl (by replace s:=s.bring 5 rfl;replace s:=s.bring 5 rfl;replace s:=s.bring 5 rfl;replace s:=s.bring 5 rfl;replace s:=s.bring 5 rfl;exact ⟨_,rfl,iV (NM (by rw [rb (Yr l0)];decide)) (by decide) (s.pick _ (Yo _ (Yo _ (Yo _ (Yo _ (Yo _ (Yp _ (List.Sublist.refl _))))))))⟩))))
 ·refine rs ac 2 h rfl λf h=>ag (V:=.int .i64 a.no) (ae (aJ.of_own s 0 rfl) 1 (w6 _ _)) h bs rfl rfl λf h=>da h s u5 (aX (.pointer (some (bI vh ((aZ X a.no)*5)))) (hQ vo vs vh vl vn X.M.last X.M.now bc X.H a.no _ (iF.of_own s 1 rfl) (bp.of_own (s.getSl 3 rfl)) (λx hx=>⟨bf ((s.getG 5 rfl).hw x hx).1,bf ((s.getG 5 rfl).hw x hx).2.1,bf ((s.getG 5 rfl).hw x hx).2.2⟩) (by omega)) (AK (Yq l0))) rfl rfl λf w1 h s=>e9 ac 1 h rfl λf h=>ah (qr ?_)
  have hix:=Yq l0
  have hget:=Ar hix
  have hno:=AV hix
  have hri:=vB hrt hix
  have hge:¬ (cQ (ax X) a.no).no<0:=by rw [hget];have:=(gb.1 hri).no;omega
  refine ap ac 1 h rfl λf h=>ai h (bq (.bool false) (eX ac8 (h.ev rfl) (h.ev rfl)) (rfl)) rfl λf h=>f7 h rfl (ah (ow (γ:=List Nat × Value) 0 19 [[],[0],[0,1],[],[3],[],[5],[],[7],[7,8],[7,8,9],[7,8,9,10],[7,8,9,10,11],[0,1,2,3,4,5,6,7,8,9,10,11,12],[0,1,2,3,4,5,6,7,8,9,10,11,12,13],[0,1,2,3,4,5,6,7,8,9,10,11,12,13,14],[0,1,2,3,4,5,6,7,8,9,10,11,12,13,14],[],[0,1,2,3,4,5,6,7,8,9,10,11,12,13,14,15,17],[0,1,2,3,4,5,6,7,8,9,10,11,12,13,14,15,16,17,18]] [[],[],[],[],[],[],[],[],[],[],[],[],[],[],[],[],[],[],[17],[]] [] [.v _,.v _,.v (.agg (a8 (X.H.getD (aZ X a.no) aD).1.no (X.H.getD (aZ X a.no) aD).1.gt (X.H.getD (aZ X a.no) aD).2.1 (X.H.getD (aZ X a.no) aD).2.2.1 (X.H.getD (aZ X a.no) aD).2.2.2)),.v _,.v va,.v _,.v (.string a.d),.v _,.v _,.v _,.v _,.v _,.v (.int .i64 X.M.now),.r (λv=>[.grp (v 13).2.1 (λw9=>ez w9 va a.l->ez w9 (ft (v 13).2.2) (bV (X.H.getD (aZ X a.no) aD).1 a.l a.d X.M.now).2.1.l)]) (λv=>(v 13).1=.tuple #[.agg (bK (bV (X.H.getD (aZ X a.no) aD).1 a.l a.d X.M.now).1 (bV (X.H.getD (aZ X a.no) aD).1 a.l a.d X.M.now).2.1 (ft (v 13).2.2) (bV (X.H.getD (aZ X a.no) aD).1 a.l a.d X.M.now).2.2),.int .i64 (ji (X.H.getD (aZ X a.no) aD).1 a.l a.d X.M.now)]),.f (λv=>(v 14).1=.tuple #[.agg (bK (bV (X.H.getD (aZ X a.no) aD).1 a.l a.d X.M.now).1 (bV (X.H.getD (aZ X a.no) aD).1 a.l a.d X.M.now).2.1 (ft (v 13).2.2) (bV (X.H.getD (aZ X a.no) aD).1 a.l a.d X.M.now).2.2),.int .i64 (ji (X.H.getD (aZ X a.no) aD).1 a.l a.d X.M.now)]),.f (λv=>(v 15).1=.agg (bK (bV (X.H.getD (aZ X a.no) aD).1 a.l a.d X.M.now).1 (bV (X.H.getD (aZ X a.no) aD).1 a.l a.d X.M.now).2.1 (ft (v 13).2.2) (bV (X.H.getD (aZ X a.no) aD).1 a.l a.d X.M.now).2.2)),.v (.int .i64 (ji (X.H.getD (aZ X a.no) aD).1 a.l a.d X.M.now)),.q (λv=>[.blk (tZ (v 17).1) (.cells (bK 0 mZ aj eg) 166)]),.m (λv=>[.blk (tZ (v 17).1) (.cells (bK (bV (X.H.getD (aZ X a.no) aD).1 a.l a.d X.M.now).1 (bV (X.H.getD (aZ X a.no) aD).1 a.l a.d X.M.now).2.1 (ft (v 13).2.2) (bV (X.H.getD (aZ X a.no) aD).1 a.l a.d X.M.now).2.2) 166)]),.n] _ h s rfl (by kernel_rfl) (by kernel_rfl) (by kernel_rfl) (kr ac h rfl rfl rfl (kr ac h rfl rfl rfl (cp ?_ (kr ac h rfl rfl rfl (cp ?_ (kr ac h rfl rfl rfl (cp ?_ (kr ac h rfl rfl rfl (kr ac h rfl rfl rfl (kr ac h rfl rfl rfl (kr ac h rfl rfl rfl (kr ac h rfl rfl rfl (cp ?_ (cp ?_ (cp ?_ (cp ?_ (cp ?_ (cp ?_ (cp ?_ (trivial)))))))))))))))))))) [0,1,2,3,4,5,6,7,8,9,10,11,12,13,14,15,16,18] (by kernel_rfl) ?_))
  ·intro f9 w2 vl4 E9 hs9 hd9 hl hF s
   have h:=cG [(17,_)] h hs9 hd9 ⟨bg hl 17 1 (by kernel_rfl) (hF 1 (by decide)),trivial⟩
   refine aB ((bp.of_own (s.getSl 3 rfl)).el ((aZ X a.no)) (by omega) (by decide) (D:=a8 (X.H.getD (aZ X a.no) aD).1.no (X.H.getD (aZ X a.no) aD).1.gt (X.H.getD (aZ X a.no) aD).2.1 (X.H.getD (aZ X a.no) aD).2.2.1 (X.H.getD (aZ X a.no) aD).2.2.2) (pE _ _ hix)) h dY rfl (aN _ _ _ _ _) rfl λf h=>ay ⟨(_,default),bk 18 h rfl rfl,rfl,s⟩
  ·intro f9 w2 vl4 E9 hs9 hd9 hl hF s
   have h:=cG [(19,_)] h hs9 hd9 ⟨bg hl 19 3 (by kernel_rfl) (hF 3 (by decide)),trivial⟩
   refine ag (V:=va) (ae (aJ.of_own s 0 rfl) 36 (U7 _ _)) h i9 rfl rfl λf h=>ay ⟨(_,default),bk 20 h rfl rfl,rfl,s⟩
  ·intro f9 w2 vl4 E9 hs9 hd9 hl hF s
   have h:=cG [(21,_)] h hs9 hd9 ⟨bg hl 21 5 (by kernel_rfl) (hF 5 (by decide)),trivial⟩
   refine ag (V:=.string a.d) (ae (aJ.of_own s 0 rfl) 37 (LQ _ _)) h hI rfl rfl λf h=>ay ⟨(_,default),bk 22 h rfl rfl,rfl,s⟩
  ·intro f9 w2 vl4 E9 hs9 hd9 hl hF s
   have h:=cG [(27,_)] h hs9 hd9 ⟨bg hl 27 11 (by kernel_rfl) (hF 11 (by decide)),trivial⟩
   refine ag (V:=.int .i64 X.M.now) (ae (aJ.of_own s 1 rfl) 5 (GZ _ _ _ _ _ _ _)) h bs rfl rfl λf h=>ay ⟨(_,default),bk 28 h rfl rfl,rfl,s⟩
  ·intro f9 w2 vl4 E9 hs9 hd9 hl hF s
   have h:=cG [(18,_),(20,_),(22,_),(28,_)] h hs9 hd9 ⟨bg hl 18 2 (by kernel_rfl) (hF 2 (by decide)),bg hl 20 4 (by kernel_rfl) (hF 4 (by decide)),bg hl 22 6 (by kernel_rfl) (hF 6 (by decide)),bg hl 28 12 (by kernel_rfl) (hF 12 (by decide)),trivial⟩
   have hua:=(hU _ ((s.dropN 6).pick _ (List.sublist_append_left _ _)))
   refine bB h s Tr (BX (X.H.getD (aZ X a.no) aD).1 (X.H.getD (aZ X a.no) aD).2.1 (X.H.getD (aZ X a.no) aD).2.2.1 (X.H.getD (aZ X a.no) aD).2.2.2 a.l va a.d X.M.now _ ((s.getG 5 rfl).hw _ (cr hix)) (hbd.he hix) hua hal) rfl rfl ?_;rintro f w1 v29 ⟨us,ks,hv29,hG⟩ hE h sq;replace s:=s.add hG;clear hG
   have p1:=yt ((s.getG 0 rfl) (bp.keep hua hE))
   replace s:=s.weak (S':=λw9=>ez w9 va a.l->ez w9 (ft us) (bV (X.H.getD (aZ X a.no) aD).1 a.l a.d X.M.now).2.1.l) (λw9 b=>by rw [p1];exact b)
   rw [← p1] at hv29
   exact ay ⟨(_,(ks,us)),bk 29 h rfl rfl,hv29,s⟩
  ·intro f9 w2 vl4 E9 hs9 hd9 hl hF s
   have h:=cG [(29,.tuple #[.agg (bK (bV (X.H.getD (aZ X a.no) aD).1 a.l a.d X.M.now).1 (bV (X.H.getD (aZ X a.no) aD).1 a.l a.d X.M.now).2.1 (ft (vl4 13).2.2) (bV (X.H.getD (aZ X a.no) aD).1 a.l a.d X.M.now).2.2),.int .i64 (ji (X.H.getD (aZ X a.no) aD).1 a.l a.d X.M.now)])] h hs9 hd9 ⟨bg hl 29 13 (by kernel_rfl) (hF 13 (by decide)),trivial⟩
   refine ap ac 1 h rfl λf h=>ay ⟨(_,default),bk 15 h rfl rfl,rfl,s⟩
  ·intro f9 w2 vl4 E9 hs9 hd9 hl hF s
   have h:=cG [(15,.tuple #[.agg (bK (bV (X.H.getD (aZ X a.no) aD).1 a.l a.d X.M.now).1 (bV (X.H.getD (aZ X a.no) aD).1 a.l a.d X.M.now).2.1 (ft (vl4 13).2.2) (bV (X.H.getD (aZ X a.no) aD).1 a.l a.d X.M.now).2.2),.int .i64 (ji (X.H.getD (aZ X a.no) aD).1 a.l a.d X.M.now)])] h hs9 hd9 ⟨bg hl 15 14 (by kernel_rfl) (hF 14 (by decide)),trivial⟩
   refine ap ac 1 h rfl λf h=>ay ⟨(_,default),bk 30 h rfl rfl,rfl,s⟩
  ·intro f9 w2 vl4 E9 hs9 hd9 hl hF s
   have h:=cG [(15,.tuple #[.agg (bK (bV (X.H.getD (aZ X a.no) aD).1 a.l a.d X.M.now).1 (bV (X.H.getD (aZ X a.no) aD).1 a.l a.d X.M.now).2.1 (ft (vl4 13).2.2) (bV (X.H.getD (aZ X a.no) aD).1 a.l a.d X.M.now).2.2),.int .i64 (ji (X.H.getD (aZ X a.no) aD).1 a.l a.d X.M.now)])] h hs9 hd9 ⟨bg hl 15 14 (by kernel_rfl) (hF 14 (by decide)),trivial⟩
   refine ap ac 1 h rfl λf h=>ay ⟨(_,default),bk 31 h rfl rfl,rfl,s⟩
  ·intro f9 w2 vl4 E9 hs9 hd9 hl hF s
   have h:=cU [] (hs9.trans h.size) (hd9.trans h.defers) (holds_lk trivial)
   refine aS (bK 0 mZ aj eg) h s tE rfl rfl λf w1 b6 h s=>ay ⟨(_,default),bk 6 h rfl rfl,⟨_,rfl⟩,s⟩
  ·intro f9 w2 vl4 E9 hs9 hd9 hl hF s
   obtain ⟨b6,hb6⟩:∃ b,(vl4 17).1=.pointer (some ⟨b,0,none⟩):=hF 17 (by decide)
   have e6:f9.tmps.getD 6 undef=.pointer (some ⟨b6,0,none⟩):=(du hl 6 17 (by kernel_rfl) (by kernel_rfl)).trans hb6
   have e30:f9.tmps.getD 30 undef=.agg (bK (bV (X.H.getD (aZ X a.no) aD).1 a.l a.d X.M.now).1 (bV (X.H.getD (aZ X a.no) aD).1 a.l a.d X.M.now).2.1 (ft (vl4 13).2.2) (bV (X.H.getD (aZ X a.no) aD).1 a.l a.d X.M.now).2.2):=(du hl 30 15 (by kernel_rfl) (by kernel_rfl)).trans (hF 15 (by decide))
   have h:=cU [(6,.pointer (some ⟨b6,0,none⟩)),(30,.agg (bK (bV (X.H.getD (aZ X a.no) aD).1 a.l a.d X.M.now).1 (bV (X.H.getD (aZ X a.no) aD).1 a.l a.d X.M.now).2.1 (ft (vl4 13).2.2) (bV (X.H.getD (aZ X a.no) aD).1 a.l a.d X.M.now).2.2))] (hs9.trans h.size) (hd9.trans h.defers) (holds_lk ⟨e6,e30,trivial⟩)
   replace s:St w0 (.blk (tZ (vl4 17).1) (.cells (bK 0 mZ aj eg) 166)::.blk b3 (.cells (bO a va) 36)::.blk bc (.cells (ef vo vs vh vl X.M.last X.M.now vn) 83)::.sl vs 46 3 X.S.length (aQ X.S)::.sl vh 66 5 X.H.length (aC X.H)::.sl vn 59 74 ([]:List Nt).length (aH ([]:List Nt))::(.grp kk (λw9=>RdC w9 vo vl X))::(B9++E9)) _:=s
   rw [hb6] at s
   replace s:St w0 (.blk b6 (.cells (bK 0 mZ aj eg) 166)::.blk b3 (.cells (bO a va) 36)::.blk bc (.cells (ef vo vs vh vl X.M.last X.M.now vn) 83)::.sl vs 46 3 X.S.length (aQ X.S)::.sl vh 66 5 X.H.length (aC X.H)::.sl vn 59 74 ([]:List Nt).length (aH ([]:List Nt))::(.grp kk (λw9=>RdC w9 vo vl X))::(B9++E9)) _:=s
   refine ak 0 h s dZ rfl rfl rfl (bC _ _ _ _) (bC _ _ _ _) (d7 _ _ _ (uI _)) λw1 s=>ay ⟨(undef,default),l8 rfl,trivial,?_⟩
   have z:=s
   rw [← show tZ (vl4 17).1=b6 from by rw [hb6];rfl] at z
   exact z
  intro f w1 vl4 hs9 hd9 hv hr hF s
  replace hv:=λi d h9=>hv i d (show Nat.blt i 19=true from h9)
  obtain ⟨b6,hb6⟩:∃ b,(vl4 17).1=.pointer (some ⟨b,0,none⟩):=hF 17 (by kernel_rfl)
  replace h:=dN 19 (ops:=_) [(16,_),(17,_),(18,_),(19,_),(20,_),(21,_),(22,_),(23,_),(24,_),(25,_),(26,_),(27,_),(28,_),(29,.tuple #[.agg (bK (bV (X.H.getD (aZ X a.no) aD).1 a.l a.d X.M.now).1 (bV (X.H.getD (aZ X a.no) aD).1 a.l a.d X.M.now).2.1 (ft (vl4 13).2.2) (bV (X.H.getD (aZ X a.no) aD).1 a.l a.d X.M.now).2.2),.int .i64 (ji (X.H.getD (aZ X a.no) aD).1 a.l a.d X.M.now)]),(15,.tuple #[.agg (bK (bV (X.H.getD (aZ X a.no) aD).1 a.l a.d X.M.now).1 (bV (X.H.getD (aZ X a.no) aD).1 a.l a.d X.M.now).2.1 (ft (vl4 13).2.2) (bV (X.H.getD (aZ X a.no) aD).1 a.l a.d X.M.now).2.2),.int .i64 (ji (X.H.getD (aZ X a.no) aD).1 a.l a.d X.M.now)]),(30,.agg (bK (bV (X.H.getD (aZ X a.no) aD).1 a.l a.d X.M.now).1 (bV (X.H.getD (aZ X a.no) aD).1 a.l a.d X.M.now).2.1 (ft (vl4 13).2.2) (bV (X.H.getD (aZ X a.no) aD).1 a.l a.d X.M.now).2.2)),(31,_),(6,.pointer (some ⟨b6,0,none⟩))] h hs9 hd9 hr ⟨(hv 0 16 rfl rfl).trans (hF 0 rfl),(hv 1 17 rfl rfl).trans (hF 1 rfl),(hv 2 18 rfl rfl).trans (hF 2 rfl),(hv 3 19 rfl rfl).trans (hF 3 rfl),(hv 4 20 rfl rfl).trans (hF 4 rfl),(hv 5 21 rfl rfl).trans (hF 5 rfl),(hv 6 22 rfl rfl).trans (hF 6 rfl),(hv 7 23 rfl rfl).trans (hF 7 rfl),(hv 8 24 rfl rfl).trans (hF 8 rfl),(hv 9 25 rfl rfl).trans (hF 9 rfl),(hv 10 26 rfl rfl).trans (hF 10 rfl),(hv 11 27 rfl rfl).trans (hF 11 rfl),(hv 12 28 rfl rfl).trans (hF 12 rfl),(hv 13 29 rfl rfl).trans (hF 13 rfl),(hv 14 15 rfl rfl).trans (hF 14 rfl),(hv 15 30 rfl rfl).trans (hF 15 rfl),(hv 16 31 rfl rfl).trans (hF 16 rfl),(hv 17 6 rfl rfl).trans hb6,trivial⟩ (by kernel_rfl)
  replace s:St w0 (.grp (vl4 13).2.1 (λw9=>ez w9 va a.l->ez w9 (ft (vl4 13).2.2) (bV (X.H.getD (aZ X a.no) aD).1 a.l a.d X.M.now).2.1.l)::.blk (tZ (vl4 17).1) (.cells (bK (bV (X.H.getD (aZ X a.no) aD).1 a.l a.d X.M.now).1 (bV (X.H.getD (aZ X a.no) aD).1 a.l a.d X.M.now).2.1 (ft (vl4 13).2.2) (bV (X.H.getD (aZ X a.no) aD).1 a.l a.d X.M.now).2.2) 166)::.blk b3 (.cells (bO a va) 36)::.blk bc (.cells (ef vo vs vh vl X.M.last X.M.now vn) 83)::.sl vs 46 3 X.S.length (aQ X.S)::.sl vh 66 5 X.H.length (aC X.H)::.sl vn 59 74 ([]:List Nt).length (aH ([]:List Nt))::(.grp kk (λw9=>RdC w9 vo vl X))::B9) _:=s
  rw [hb6] at s
  replace s:St w0 (.grp (vl4 13).2.1 (λw9=>ez w9 va a.l->ez w9 (ft (vl4 13).2.2) (bV (X.H.getD (aZ X a.no) aD).1 a.l a.d X.M.now).2.1.l)::.blk b6 (.cells (bK (bV (X.H.getD (aZ X a.no) aD).1 a.l a.d X.M.now).1 (bV (X.H.getD (aZ X a.no) aD).1 a.l a.d X.M.now).2.1 (ft (vl4 13).2.2) (bV (X.H.getD (aZ X a.no) aD).1 a.l a.d X.M.now).2.2) 166)::.blk b3 (.cells (bO a va) 36)::.blk bc (.cells (ef vo vs vh vl X.M.last X.M.now vn) 83)::.sl vs 46 3 X.S.length (aQ X.S)::.sl vh 66 5 X.H.length (aC X.H)::.sl vn 59 74 ([]:List Nt).length (aH ([]:List Nt))::(.grp kk (λw9=>RdC w9 vo vl X))::B9) _:=s
  refine e9 ac 1 h rfl λf h=>ah (bF ac 2 h rfl λf h=>cA h rfl (λhc=>?_) (λhc=>?_))
  ·have e0:¬ (ji (X.H.getD (aZ X a.no) aD).1 a.l a.d X.M.now)=0:=Yq hc
   refine bF ac 2 h rfl λf h=>rt (d6 rfl h rfl (by replace s:=s.bring 7 rfl;replace s:=s.bring 7 rfl;replace s:=s.bring 7 rfl;replace s:=s.bring 7 rfl;replace s:=s.bring 7 rfl;exact ⟨_,rfl,iV (R:=gA (ax X) a) ((Qy hge (by rw [hget];exact e0)).trans (by rw [hget];rfl)) e0 (s.pick _ (Yo _ (Yo _ (Yo _ (Yo _ (Yo _ (Yp _ (Yp _ (Yp _ (List.Sublist.refl _))))))))))⟩))
  ·have e0:(ji (X.H.getD (aZ X a.no) aD).1 a.l a.d X.M.now)=0:=Decidable.of_not_not (Yr hc)
   refine kt (ah (ah ?_))
   have hno15:=(gb.1 hri).no
   have hxx:=SK e0
   have hx0:0<=(bV (X.H.getD (aZ X a.no) aD).1 a.l a.d X.M.now).1:=by rw [hxx];exact(At hri _ _).1
   have hxm:cR (bV (X.H.getD (aZ X a.no) aD).1 a.l a.d X.M.now).2.1=true:=by rw [hxx];exact HF e0
   have hxl:(bV (X.H.getD (aZ X a.no) aD).1 a.l a.d X.M.now).2.1.l.length<=1000:=by rw [hxx];exact hal
   replace s:=s.bring 7 rfl
   replace s:=s.bring 7 rfl
   replace s:=s.bring 5 rfl
   replace s:St w0 (.blk bc (.cells (ef vo vs vh vl X.M.last X.M.now vn) 83)::.sl vn 59 74 ([]:List Nt).length (aH ([]:List Nt))::(.grp kk (λw9=>RdC w9 vo vl X))::(.grp (vl4 13).2.1 (λw9=>ez w9 va a.l->ez w9 (ft (vl4 13).2.2) (bV (X.H.getD (aZ X a.no) aD).1 a.l a.d X.M.now).2.1.l))::.blk b6 (.cells (bK (bV (X.H.getD (aZ X a.no) aD).1 a.l a.d X.M.now).1 (bV (X.H.getD (aZ X a.no) aD).1 a.l a.d X.M.now).2.1 (ft (vl4 13).2.2) (bV (X.H.getD (aZ X a.no) aD).1 a.l a.d X.M.now).2.2) 166)::.blk b3 (.cells (bO a va) 36)::.sl vs 46 3 X.S.length (aQ X.S)::.sl vh 66 5 X.H.length (aC X.H)::B9) _:=s
   replace s:=St.tie9 [.blk bc (.cells (ef vo vs vh vl X.M.last X.M.now vn) 83),.sl vn 59 74 ([]:List Nt).length (aH ([]:List Nt)),(.grp kk (λw9=>RdC w9 vo vl X))] s
   refine ow (γ:=Value × Value × List Nat) 1 8 [[],[],[1],[1,2],[1,2,3],[1,2,3,4],[],[0,1,2,3,4,5,6],[0,1,2,3,4,5,6,7]] [[],[],[],[],[],[],[],[9],[]] [[_]] [.v _,.v _,.v _,.v (.pointer (some (bI vh ((aZ X a.no)*5+0)))),.v (.int .i64 a.no),.v (.int .i64 (16+a.no)),.v (.agg (bK (bV (X.H.getD (aZ X a.no) aD).1 a.l a.d X.M.now).1 (bV (X.H.getD (aZ X a.no) aD).1 a.l a.d X.M.now).2.1 (ft (vl4 13).2.2) (bV (X.H.getD (aZ X a.no) aD).1 a.l a.d X.M.now).2.2)),.w (λv=>[Own.tie9 w0 [.blk bc (.cells (ef vo vs vh (v 7).2.1 (aT ⟨ax X,[],0⟩ (16+a.no) (bV (X.H.getD (aZ X a.no) aD).1 a.l a.d X.M.now)).w.ml.last (aT ⟨ax X,[],0⟩ (16+a.no) (bV (X.H.getD (aZ X a.no) aD).1 a.l a.d X.M.now)).w.ml.now (v 7).2.2.1) 83),.sl (v 7).2.2.1 59 74 (aT ⟨ax X,[],0⟩ (16+a.no) (bV (X.H.getD (aZ X a.no) aD).1 a.l a.d X.M.now)).n.length (aH (aT ⟨ax X,[],0⟩ (16+a.no) (bV (X.H.getD (aZ X a.no) aD).1 a.l a.d X.M.now)).n),.grp (v 7).2.2.2 (λw9=>RdC w9 vo (v 7).2.1 {X with M:=(aT ⟨ax X,[],0⟩ (16+a.no) (bV (X.H.getD (aZ X a.no) aD).1 a.l a.d X.M.now)).w.ml})]]) (.int .i64 (aT ⟨ax X,[],0⟩ (16+a.no) (bV (X.H.getD (aZ X a.no) aD).1 a.l a.d X.M.now)).no),.n] _ h s rfl (by kernel_rfl) (by kernel_rfl) (by kernel_rfl) (kr ac h rfl rfl rfl (kr ac h rfl rfl rfl (kr ac h rfl rfl rfl (cp ?_ (cp ?_ (cp ?_ (cp ?_ (cp ?_ (trivial))))))))) [0,1,2,3,4,5,6,7] (by kernel_rfl) ?_
   ·intro f9 w2 vl7 E9 hs9 hd9 hl hF s
    have h:=cG [(37,_)] h hs9 hd9 ⟨bg hl 37 2 (by kernel_rfl) (hF 2 (by decide)),trivial⟩
    refine ai h (aW mj (h.ev rfl) ((bp.of_own (s.getSl 4 rfl)).some (by omega))) rfl λf h=>ay ⟨(_,default),bk 38 h rfl rfl,rfl,s⟩
   ·intro f9 w2 vl7 E9 hs9 hd9 hl hF s
    have h:=cG [(38,_)] h hs9 hd9 ⟨bg hl 38 3 (by kernel_rfl) (hF 3 (by decide)),trivial⟩
    refine ag (V:=.int .i64 a.no) (cX (bp.of_own (s.getSl 4 rfl)) ((aZ X a.no)*5+0) ((zM hix).trans (by rw [hno]))) h bs rfl rfl λf h=>ay ⟨(_,default),bk 39 h rfl rfl,rfl,s⟩
   ·intro f9 w2 vl7 E9 hs9 hd9 hl hF s
    have h:=cG [(39,_)] h hs9 hd9 ⟨bg hl 39 4 (by kernel_rfl) (hF 4 (by decide)),trivial⟩
    refine da h s MF (rl a.no (by omega) _) rfl rfl λf w1 h s=>ay ⟨(_,default),bk 40 h rfl rfl,rfl,s⟩
   ·intro f9 w2 vl7 E9 hs9 hd9 hl hF s
    have h:=cG [(6,_)] h hs9 hd9 ⟨fh hl 6 (by kernel_rfl) (h.holds 6 _ rfl),trivial⟩
    refine al 1 h s dZ rfl rfl (bC _ _ _ _) rfl λf h=>ay ⟨(_,default),bk 41 h rfl rfl,rfl,s⟩
   ·intro f9 w2 vl7 E9 hs9 hd9 hl hF s
    have h:=cG [(35,_),(40,_),(41,.agg (bK (bV (X.H.getD (aZ X a.no) aD).1 a.l a.d X.M.now).1 (bV (X.H.getD (aZ X a.no) aD).1 a.l a.d X.M.now).2.1 (ft (vl4 13).2.2) (bV (X.H.getD (aZ X a.no) aD).1 a.l a.d X.M.now).2.2))] h hs9 hd9 ⟨bg hl 35 0 (by kernel_rfl) (hF 0 (by decide)),bg hl 40 5 (by kernel_rfl) (hF 5 (by decide)),bg hl 41 6 (by kernel_rfl) (hF 6 (by decide)),trivial⟩
    replace s:=s.untie9
    refine dI [.pointer (some ⟨bc,0,none⟩),.int .i64 (16+a.no),.agg (bK (bV (X.H.getD (aZ X a.no) aD).1 a.l a.d X.M.now).1 (bV (X.H.getD (aZ X a.no) aD).1 a.l a.d X.M.now).2.1 (ft (vl4 13).2.2) (bV (X.H.getD (aZ X a.no) aD).1 a.l a.d X.M.now).2.2)] h Mx (rg vo vs vh vl vn X [] kk bc _ (16+a.no) (bV (X.H.getD (aZ X a.no) aD).1 a.l a.d X.M.now) (ft (vl4 13).2.2) _ _ s (by omega) hx0 hxm hxl (by exact λw9 s9=>(s9.getG 0 rfl) (hU _ ((s9.dropN 5).pick _ (List.sublist_append_left _ _)))) (YO _)) rfl rfl ?_;rintro f w1 v42 ⟨rfl,vx,vm,kn,s⟩ h
    replace s:=St.tie9 [.blk bc (.cells (ef vo vs vh vx (aT ⟨ax X,[],0⟩ (16+a.no) (bV (X.H.getD (aZ X a.no) aD).1 a.l a.d X.M.now)).w.ml.last (aT ⟨ax X,[],0⟩ (16+a.no) (bV (X.H.getD (aZ X a.no) aD).1 a.l a.d X.M.now)).w.ml.now vm) 83),.sl vm 59 74 (aT ⟨ax X,[],0⟩ (16+a.no) (bV (X.H.getD (aZ X a.no) aD).1 a.l a.d X.M.now)).n.length (aH (aT ⟨ax X,[],0⟩ (16+a.no) (bV (X.H.getD (aZ X a.no) aD).1 a.l a.d X.M.now)).n),.grp kn (λw9=>RdC w9 vo vx {X with M:=(aT ⟨ax X,[],0⟩ (16+a.no) (bV (X.H.getD (aZ X a.no) aD).1 a.l a.d X.M.now)).w.ml})] s
    exact ay ⟨(_,(vx,vm,kn)),bk 42 h rfl rfl,rfl,s⟩
   intro f w1 vl7 hs9 hd9 hv hr hF s
   replace hv:=λi d h9=>hv i d (show Nat.blt i 8=true from h9)
   replace h:=dN 8 (ops:=_) [(35,_),(36,_),(37,_),(38,_),(39,_),(40,_),(41,_),(42,_)] h hs9 hd9 hr ⟨(hv 0 35 rfl rfl).trans (hF 0 rfl),(hv 1 36 rfl rfl).trans (hF 1 rfl),(hv 2 37 rfl rfl).trans (hF 2 rfl),(hv 3 38 rfl rfl).trans (hF 3 rfl),(hv 4 39 rfl rfl).trans (hF 4 rfl),(hv 5 40 rfl rfl).trans (hF 5 rfl),(hv 6 41 rfl rfl).trans (hF 6 rfl),(hv 7 42 rfl rfl).trans (hF 7 rfl),trivial⟩ (by kernel_rfl)
   replace s:St w0 (Own.tie9 w0 [.blk bc (.cells (ef vo vs vh (vl7 7).2.1 (aT ⟨ax X,[],0⟩ (16+a.no) (bV (X.H.getD (aZ X a.no) aD).1 a.l a.d X.M.now)).w.ml.last (aT ⟨ax X,[],0⟩ (16+a.no) (bV (X.H.getD (aZ X a.no) aD).1 a.l a.d X.M.now)).w.ml.now (vl7 7).2.2.1) 83),.sl (vl7 7).2.2.1 59 74 (aT ⟨ax X,[],0⟩ (16+a.no) (bV (X.H.getD (aZ X a.no) aD).1 a.l a.d X.M.now)).n.length (aH (aT ⟨ax X,[],0⟩ (16+a.no) (bV (X.H.getD (aZ X a.no) aD).1 a.l a.d X.M.now)).n),.grp (vl7 7).2.2.2 (λw9=>RdC w9 vo (vl7 7).2.1 {X with M:=(aT ⟨ax X,[],0⟩ (16+a.no) (bV (X.H.getD (aZ X a.no) aD).1 a.l a.d X.M.now)).w.ml})]::(.grp (vl4 13).2.1 (λw9=>ez w9 va a.l->ez w9 (ft (vl4 13).2.2) (bV (X.H.getD (aZ X a.no) aD).1 a.l a.d X.M.now).2.1.l))::.blk b6 (.cells (bK (bV (X.H.getD (aZ X a.no) aD).1 a.l a.d X.M.now).1 (bV (X.H.getD (aZ X a.no) aD).1 a.l a.d X.M.now).2.1 (ft (vl4 13).2.2) (bV (X.H.getD (aZ X a.no) aD).1 a.l a.d X.M.now).2.2) 166)::.blk b3 (.cells (bO a va) 36)::.sl vs 46 3 X.S.length (aQ X.S)::.sl vh 66 5 X.H.length (aC X.H)::B9) _:=s
   refine ap ac 1 h rfl λf h=>ay ?_
   obtain ⟨vx,hvx⟩:∃ z,z=(vl7 7).2.1:=⟨_,rfl⟩
   obtain ⟨vm,hvm⟩:∃ z,z=(vl7 7).2.2.1:=⟨_,rfl⟩
   obtain ⟨kn,hkn⟩:∃ z,z=(vl7 7).2.2.2:=⟨_,rfl⟩
   rw [← hvx,← hvm,← hkn] at s
   replace s:=s.untie9
   replace s:St w0 (.blk bc (.cells (ef vo vs vh vx (aT ⟨ax X,[],0⟩ (16+a.no) (bV (X.H.getD (aZ X a.no) aD).1 a.l a.d X.M.now)).w.ml.last (aT ⟨ax X,[],0⟩ (16+a.no) (bV (X.H.getD (aZ X a.no) aD).1 a.l a.d X.M.now)).w.ml.now vm) 83)::.sl vm 59 74 (aT ⟨ax X,[],0⟩ (16+a.no) (bV (X.H.getD (aZ X a.no) aD).1 a.l a.d X.M.now)).n.length (aH (aT ⟨ax X,[],0⟩ (16+a.no) (bV (X.H.getD (aZ X a.no) aD).1 a.l a.d X.M.now)).n)::(.grp kn (λw9=>RdC w9 vo vx {X with M:=(aT ⟨ax X,[],0⟩ (16+a.no) (bV (X.H.getD (aZ X a.no) aD).1 a.l a.d X.M.now)).w.ml}))::(.grp (vl4 13).2.1 (λw9=>ez w9 va a.l->ez w9 (ft (vl4 13).2.2) (bV (X.H.getD (aZ X a.no) aD).1 a.l a.d X.M.now).2.1.l))::.blk b6 (.cells (bK (bV (X.H.getD (aZ X a.no) aD).1 a.l a.d X.M.now).1 (bV (X.H.getD (aZ X a.no) aD).1 a.l a.d X.M.now).2.1 (ft (vl4 13).2.2) (bV (X.H.getD (aZ X a.no) aD).1 a.l a.d X.M.now).2.2) 166)::.blk b3 (.cells (bO a va) 36)::.sl vs 46 3 X.S.length (aQ X.S)::.sl vh 66 5 X.H.length (aC X.H)::B9) _:=s
   refine aO (qr ?_)
   have hpg:=HZ (N:=[]) (fr:=16+a.no) hx0 (xv hrt)
   have hsp:iJ (ax X) a=(aT ⟨ax X,[],0⟩ (16+a.no) (bV (X.H.getD (aZ X a.no) aD).1 a.l a.d X.M.now)):=by unfold iJ;rw [hget,hxx];rfl
   refine ap ac 1 h rfl λf h=>lL ac (.bool (decide (0<(aT ⟨ax X,[],0⟩ (16+a.no) (bV (X.H.getD (aZ X a.no) aD).1 a.l a.d X.M.now)).no))) h rfl (Yu Value.bool (YE.2 (by omega))) rfl λf h=>nt (cA h rfl (λhc=>?_) (λhc=>?_))
   ·have hp9:0<(aT ⟨ax X,[],0⟩ (16+a.no) (bV (X.H.getD (aZ X a.no) aD).1 a.l a.d X.M.now)).no:=Yq hc
    have hnl:(aT ⟨ax X,[],0⟩ (16+a.no) (bV (X.H.getD (aZ X a.no) aD).1 a.l a.d X.M.now)).n.length<=100000:=Zk (KK hx0) (by decide)
    replace s:=s.bring 2 rfl
    replace s:=s.bring 2 rfl
    replace s:=s.bring 2 rfl
    replace s:St w0 (.blk bc (.cells (ef vo vs vh vx (aT ⟨ax X,[],0⟩ (16+a.no) (bV (X.H.getD (aZ X a.no) aD).1 a.l a.d X.M.now)).w.ml.last (aT ⟨ax X,[],0⟩ (16+a.no) (bV (X.H.getD (aZ X a.no) aD).1 a.l a.d X.M.now)).w.ml.now vm) 83)::.sl vm 59 74 (aT ⟨ax X,[],0⟩ (16+a.no) (bV (X.H.getD (aZ X a.no) aD).1 a.l a.d X.M.now)).n.length (aH (aT ⟨ax X,[],0⟩ (16+a.no) (bV (X.H.getD (aZ X a.no) aD).1 a.l a.d X.M.now)).n)::(.grp kn (λw9=>RdC w9 vo vx {X with M:=(aT ⟨ax X,[],0⟩ (16+a.no) (bV (X.H.getD (aZ X a.no) aD).1 a.l a.d X.M.now)).w.ml}))::(.grp (vl4 13).2.1 (λw9=>ez w9 va a.l->ez w9 (ft (vl4 13).2.2) (bV (X.H.getD (aZ X a.no) aD).1 a.l a.d X.M.now).2.1.l))::.blk b6 (.cells (bK (bV (X.H.getD (aZ X a.no) aD).1 a.l a.d X.M.now).1 (bV (X.H.getD (aZ X a.no) aD).1 a.l a.d X.M.now).2.1 (ft (vl4 13).2.2) (bV (X.H.getD (aZ X a.no) aD).1 a.l a.d X.M.now).2.2) 166)::.blk b3 (.cells (bO a va) 36)::.sl vs 46 3 X.S.length (aQ X.S)::.sl vh 66 5 X.H.length (aC X.H)::B9) _:=s
    replace s:=St.tie9 [.blk bc (.cells (ef vo vs vh vx (aT ⟨ax X,[],0⟩ (16+a.no) (bV (X.H.getD (aZ X a.no) aD).1 a.l a.d X.M.now)).w.ml.last (aT ⟨ax X,[],0⟩ (16+a.no) (bV (X.H.getD (aZ X a.no) aD).1 a.l a.d X.M.now)).w.ml.now vm) 83),.sl vm 59 74 (aT ⟨ax X,[],0⟩ (16+a.no) (bV (X.H.getD (aZ X a.no) aD).1 a.l a.d X.M.now)).n.length (aH (aT ⟨ax X,[],0⟩ (16+a.no) (bV (X.H.getD (aZ X a.no) aD).1 a.l a.d X.M.now)).n),(.grp kn (λw9=>RdC w9 vo vx {X with M:=(aT ⟨ax X,[],0⟩ (16+a.no) (bV (X.H.getD (aZ X a.no) aD).1 a.l a.d X.M.now)).w.ml}))] s
    refine F4 (γ:=Value) 1 [[],[],[1],[1,2],[1,2,3],[],[],[6],[1,2,3,4,5,6,7],[0,1,2,3,4,5,6,7,8]] [[],[],[],[],[],[],[],[],[],[10]] [[_]] [.v _,.v _,.v _,.v (.pointer (some (bI vh ((aZ X a.no)*5+0)))),.v (.int .i64 a.no),.v _,.v _,.v (.string a.d),.v (.agg (qA 1 0 a.no 0 (aT ⟨ax X,[],0⟩ (16+a.no) (bV (X.H.getD (aZ X a.no) aD).1 a.l a.d X.M.now)).no eg a.d 0)),.m (λv=>[Own.tie9 w0 [.blk bc (.cells (ef vo vs vh vx (aT ⟨ax X,[],0⟩ (16+a.no) (bV (X.H.getD (aZ X a.no) aD).1 a.l a.d X.M.now)).w.ml.last (aT ⟨ax X,[],0⟩ (16+a.no) (bV (X.H.getD (aZ X a.no) aD).1 a.l a.d X.M.now)).w.ml.now (v 9).2) 83),.sl (v 9).2 59 74 ((aT ⟨ax X,[],0⟩ (16+a.no) (bV (X.H.getD (aZ X a.no) aD).1 a.l a.d X.M.now)).n++[({(my a.no (aT ⟨ax X,[],0⟩ (16+a.no) (bV (X.H.getD (aZ X a.no) aD).1 a.l a.d X.M.now)).no a.d) with tm:=(aT ⟨ax X,[],0⟩ (16+a.no) (bV (X.H.getD (aZ X a.no) aD).1 a.l a.d X.M.now)).w.ml.now}:Nt)]).length (aH ((aT ⟨ax X,[],0⟩ (16+a.no) (bV (X.H.getD (aZ X a.no) aD).1 a.l a.d X.M.now)).n++[({(my a.no (aT ⟨ax X,[],0⟩ (16+a.no) (bV (X.H.getD (aZ X a.no) aD).1 a.l a.d X.M.now)).no a.d) with tm:=(aT ⟨ax X,[],0⟩ (16+a.no) (bV (X.H.getD (aZ X a.no) aD).1 a.l a.d X.M.now)).w.ml.now}:Nt)])),.grp kn (λw9=>RdC w9 vo vx {X with M:=(aT ⟨ax X,[],0⟩ (16+a.no) (bV (X.H.getD (aZ X a.no) aD).1 a.l a.d X.M.now)).w.ml})]])] _ h s rfl (by kernel_rfl) (by kernel_rfl) (by kernel_rfl) (kr ac h rfl rfl rfl (kr ac h rfl rfl rfl (kr ac h rfl rfl rfl (cp ?_ (cp ?_ (kr ac h rfl rfl rfl (kr ac h rfl rfl rfl (cp ?_ (cp ?_ (cp ?_ (trivial))))))))))) [0,1,2,3,4,5,6,7,8,9] (by kernel_rfl) ?_
    ·intro f9 w2 vl9 E9 hs9 hd9 hl hF s
     have h:=cG [(47,_)] h hs9 hd9 ⟨bg hl 47 2 (by kernel_rfl) (hF 2 (by decide)),trivial⟩
     refine ai h (aW mj (h.ev rfl) ((bp.of_own (s.getSl 4 rfl)).some (by omega))) rfl λf h=>ay ⟨(_,default),bk 48 h rfl rfl,rfl,s⟩
    ·intro f9 w2 vl9 E9 hs9 hd9 hl hF s
     have h:=cG [(48,_)] h hs9 hd9 ⟨bg hl 48 3 (by kernel_rfl) (hF 3 (by decide)),trivial⟩
     refine ag (V:=.int .i64 a.no) (cX (bp.of_own (s.getSl 4 rfl)) ((aZ X a.no)*5+0) ((zM hix).trans (by rw [hno]))) h bs rfl rfl λf h=>ay ⟨(_,default),bk 49 h rfl rfl,rfl,s⟩
    ·intro f9 w2 vl9 E9 hs9 hd9 hl hF s
     have h:=cG [(51,_)] h hs9 hd9 ⟨bg hl 51 6 (by kernel_rfl) (hF 6 (by decide)),trivial⟩
     refine ag (V:=.string a.d) (ae (aJ.of_own s 2 rfl) 37 (LQ _ _)) h hI rfl rfl λf h=>ay ⟨(_,default),bk 52 h rfl rfl,rfl,s⟩
    ·intro f9 w2 vl9 E9 hs9 hd9 hl hF s
     have h:=cG [(49,_),(50,_),(52,_)] h hs9 hd9 ⟨bg hl 49 4 (by kernel_rfl) (hF 4 (by decide)),bg hl 50 5 (by kernel_rfl) (hF 5 (by decide)),bg hl 52 7 (by kernel_rfl) (hF 7 (by decide)),trivial⟩
     refine ai h (oX L9 rfl (h.ev rfl) (h.ev rfl) (h.ev rfl)) rfl λf h=>ay ⟨(_,default),bk 53 h rfl rfl,rfl,s⟩
    ·intro f9 w2 vl9 E9 hs9 hd9 hl hF s
     have h:=cG [(45,_),(53,_)] h hs9 hd9 ⟨bg hl 45 0 (by kernel_rfl) (hF 0 (by decide)),bg hl 53 8 (by kernel_rfl) (hF 8 (by decide)),trivial⟩
     replace s:=s.untie9
     refine dI [.pointer (some ⟨bc,0,none⟩),.agg (qA 1 0 a.no 0 (aT ⟨ax X,[],0⟩ (16+a.no) (bV (X.H.getD (aZ X a.no) aD).1 a.l a.d X.M.now)).no eg a.d 0)] h MI (rx vo vs vh vx vm {X with M:=(aT ⟨ax X,[],0⟩ (16+a.no) (bV (X.H.getD (aZ X a.no) aD).1 a.l a.d X.M.now)).w.ml} (aT ⟨ax X,[],0⟩ (16+a.no) (bV (X.H.getD (aZ X a.no) aD).1 a.l a.d X.M.now)).n kn bc _ (my a.no (aT ⟨ax X,[],0⟩ (16+a.no) (bV (X.H.getD (aZ X a.no) aD).1 a.l a.d X.M.now)).no a.d) _ _ s hnl) rfl rfl ?_;rintro f w1 v54 ⟨vq,s⟩ h
     replace s:=St.tie9 [.blk bc (.cells (ef vo vs vh vx (aT ⟨ax X,[],0⟩ (16+a.no) (bV (X.H.getD (aZ X a.no) aD).1 a.l a.d X.M.now)).w.ml.last (aT ⟨ax X,[],0⟩ (16+a.no) (bV (X.H.getD (aZ X a.no) aD).1 a.l a.d X.M.now)).w.ml.now vq) 83),.sl vq 59 74 ((aT ⟨ax X,[],0⟩ (16+a.no) (bV (X.H.getD (aZ X a.no) aD).1 a.l a.d X.M.now)).n++[({(my a.no (aT ⟨ax X,[],0⟩ (16+a.no) (bV (X.H.getD (aZ X a.no) aD).1 a.l a.d X.M.now)).no a.d) with tm:=(aT ⟨ax X,[],0⟩ (16+a.no) (bV (X.H.getD (aZ X a.no) aD).1 a.l a.d X.M.now)).w.ml.now}:Nt)]).length (aH ((aT ⟨ax X,[],0⟩ (16+a.no) (bV (X.H.getD (aZ X a.no) aD).1 a.l a.d X.M.now)).n++[({(my a.no (aT ⟨ax X,[],0⟩ (16+a.no) (bV (X.H.getD (aZ X a.no) aD).1 a.l a.d X.M.now)).no a.d) with tm:=(aT ⟨ax X,[],0⟩ (16+a.no) (bV (X.H.getD (aZ X a.no) aD).1 a.l a.d X.M.now)).w.ml.now}:Nt)])),.grp kn (λw9=>RdC w9 vo vx {X with M:=(aT ⟨ax X,[],0⟩ (16+a.no) (bV (X.H.getD (aZ X a.no) aD).1 a.l a.d X.M.now)).w.ml})] s
     exact ay ⟨(_,vq),bk 54 h rfl rfl,trivial,s⟩
    intro f w1 vl9 hs9 hd9 hv hr hF s
    replace h:=G9 (ops:=_) [(45,_),(46,_),(47,_),(48,_),(49,_),(50,_),(51,_),(52,_),(53,_),(54,(vl9 9).1)] h hs9 hd9 hr ⟨(hv 0 45 rfl).trans (hF 0 rfl),(hv 1 46 rfl).trans (hF 1 rfl),(hv 2 47 rfl).trans (hF 2 rfl),(hv 3 48 rfl).trans (hF 3 rfl),(hv 4 49 rfl).trans (hF 4 rfl),(hv 5 50 rfl).trans (hF 5 rfl),(hv 6 51 rfl).trans (hF 6 rfl),(hv 7 52 rfl).trans (hF 7 rfl),(hv 8 53 rfl).trans (hF 8 rfl),hv 9 54 rfl,trivial⟩ (by kernel_rfl)
    replace s:St w0 (Own.tie9 w0 [.blk bc (.cells (ef vo vs vh vx (aT ⟨ax X,[],0⟩ (16+a.no) (bV (X.H.getD (aZ X a.no) aD).1 a.l a.d X.M.now)).w.ml.last (aT ⟨ax X,[],0⟩ (16+a.no) (bV (X.H.getD (aZ X a.no) aD).1 a.l a.d X.M.now)).w.ml.now (vl9 9).2) 83),.sl (vl9 9).2 59 74 ((aT ⟨ax X,[],0⟩ (16+a.no) (bV (X.H.getD (aZ X a.no) aD).1 a.l a.d X.M.now)).n++[({(my a.no (aT ⟨ax X,[],0⟩ (16+a.no) (bV (X.H.getD (aZ X a.no) aD).1 a.l a.d X.M.now)).no a.d) with tm:=(aT ⟨ax X,[],0⟩ (16+a.no) (bV (X.H.getD (aZ X a.no) aD).1 a.l a.d X.M.now)).w.ml.now}:Nt)]).length (aH ((aT ⟨ax X,[],0⟩ (16+a.no) (bV (X.H.getD (aZ X a.no) aD).1 a.l a.d X.M.now)).n++[({(my a.no (aT ⟨ax X,[],0⟩ (16+a.no) (bV (X.H.getD (aZ X a.no) aD).1 a.l a.d X.M.now)).no a.d) with tm:=(aT ⟨ax X,[],0⟩ (16+a.no) (bV (X.H.getD (aZ X a.no) aD).1 a.l a.d X.M.now)).w.ml.now}:Nt)])),.grp kn (λw9=>RdC w9 vo vx {X with M:=(aT ⟨ax X,[],0⟩ (16+a.no) (bV (X.H.getD (aZ X a.no) aD).1 a.l a.d X.M.now)).w.ml})]::(.grp (vl4 13).2.1 (λw9=>ez w9 va a.l->ez w9 (ft (vl4 13).2.2) (bV (X.H.getD (aZ X a.no) aD).1 a.l a.d X.M.now).2.1.l))::.blk b6 (.cells (bK (bV (X.H.getD (aZ X a.no) aD).1 a.l a.d X.M.now).1 (bV (X.H.getD (aZ X a.no) aD).1 a.l a.d X.M.now).2.1 (ft (vl4 13).2.2) (bV (X.H.getD (aZ X a.no) aD).1 a.l a.d X.M.now).2.2) 166)::.blk b3 (.cells (bO a va) 36)::.sl vs 46 3 X.S.length (aQ X.S)::.sl vh 66 5 X.H.length (aC X.H)::B9) _:=s
    obtain ⟨vq,hvq⟩:∃ z,z=(vl9 9).2:=⟨_,rfl⟩
    rw [← hvq] at s
    replace s:=s.untie9
    replace s:St w0 (.blk bc (.cells (ef vo vs vh vx (aT ⟨ax X,[],0⟩ (16+a.no) (bV (X.H.getD (aZ X a.no) aD).1 a.l a.d X.M.now)).w.ml.last (aT ⟨ax X,[],0⟩ (16+a.no) (bV (X.H.getD (aZ X a.no) aD).1 a.l a.d X.M.now)).w.ml.now vq) 83)::.sl vq 59 74 ((aT ⟨ax X,[],0⟩ (16+a.no) (bV (X.H.getD (aZ X a.no) aD).1 a.l a.d X.M.now)).n++[({(my a.no (aT ⟨ax X,[],0⟩ (16+a.no) (bV (X.H.getD (aZ X a.no) aD).1 a.l a.d X.M.now)).no a.d) with tm:=(aT ⟨ax X,[],0⟩ (16+a.no) (bV (X.H.getD (aZ X a.no) aD).1 a.l a.d X.M.now)).w.ml.now}:Nt)]).length (aH ((aT ⟨ax X,[],0⟩ (16+a.no) (bV (X.H.getD (aZ X a.no) aD).1 a.l a.d X.M.now)).n++[({(my a.no (aT ⟨ax X,[],0⟩ (16+a.no) (bV (X.H.getD (aZ X a.no) aD).1 a.l a.d X.M.now)).no a.d) with tm:=(aT ⟨ax X,[],0⟩ (16+a.no) (bV (X.H.getD (aZ X a.no) aD).1 a.l a.d X.M.now)).w.ml.now}:Nt)]))::(.grp kn (λw9=>RdC w9 vo vx {X with M:=(aT ⟨ax X,[],0⟩ (16+a.no) (bV (X.H.getD (aZ X a.no) aD).1 a.l a.d X.M.now)).w.ml}))::(.grp (vl4 13).2.1 (λw9=>ez w9 va a.l->ez w9 (ft (vl4 13).2.2) (bV (X.H.getD (aZ X a.no) aD).1 a.l a.d X.M.now).2.1.l))::.blk b6 (.cells (bK (bV (X.H.getD (aZ X a.no) aD).1 a.l a.d X.M.now).1 (bV (X.H.getD (aZ X a.no) aD).1 a.l a.d X.M.now).2.1 (ft (vl4 13).2.2) (bV (X.H.getD (aZ X a.no) aD).1 a.l a.d X.M.now).2.2) 166)::.blk b3 (.cells (bO a va) 36)::.sl vs 46 3 X.S.length (aQ X.S)::.sl vh 66 5 X.H.length (aC X.H)::B9) _:=s
    refine aO (bF ac 1 h rfl λf h=>Y8 (d6 rfl h rfl (by replace s:=s.bring 2 rfl;replace s:=s.bring 2 rfl;replace s:=s.bring 7 rfl;replace s:=s.bring 7 rfl;replace s:=s.bring 4 rfl;exact ⟨_,rfl,su (Y:={X with M:=(aT ⟨ax X,[],0⟩ (16+a.no) (bV (X.H.getD (aZ X a.no) aD).1 a.l a.d X.M.now)).w.ml}) _ (PS hge (by rw [hget];exact e0) (by rw [hsp];exact hp9)) (by rw [hsp];exact(sA hx0).symm) (by rw [hsp];rfl) (s.pick _ (Yo _ (Yo _ (Yo _ (Yo _ (Yo _ (Yp _ (Yp _ (Yp _ (List.Sublist.refl _))))))))))⟩)))
   ·have hp9:¬ 0<(aT ⟨ax X,[],0⟩ (16+a.no) (bV (X.H.getD (aZ X a.no) aD).1 a.l a.d X.M.now)).no:=Yr hc
    refine kt (bF ac 1 h rfl λf h=>Y8 (d6 rfl h rfl (by replace s:=s.bring 2 rfl;replace s:=s.bring 2 rfl;replace s:=s.bring 7 rfl;replace s:=s.bring 7 rfl;replace s:=s.bring 4 rfl;exact ⟨_,rfl,su (Y:={X with M:=(aT ⟨ax X,[],0⟩ (16+a.no) (bV (X.H.getD (aZ X a.no) aD).1 a.l a.d X.M.now)).w.ml}) _ (QE hge (by rw [hget];exact e0) (by rw [hsp];exact hp9)) (by rw [hsp];exact(sA hx0).symm) (by rw [hsp]) (s.pick _ (Yo _ (Yo _ (Yo _ (Yo _ (Yo _ (Yp _ (Yp _ (Yp _ (List.Sublist.refl _))))))))))⟩)))
set_option maxHeartbeats 4000000 in
theorem Cg (vo vs vh vl vn:Value) (X:Wx) (kk:List Nat) (bc:Nat) (B9:List Own) (a:Ac) (va:Value)  (w0 w:World) (s:St w0 (.blk bc (.cells (ef vo vs vh vl X.M.last X.M.now vn) 83)::.sl vs 46 3 X.S.length (aQ X.S)::.sl vh 66 5 X.H.length (aC X.H)::.sl vn 59 74 ([]:List Nt).length (aH ([]:List Nt))::.grp kk (λw9=>RdC w9 vo vl X)::B9) w) (hbd:BdW (ax X)) (hrt:cj (ax X)=true) (hU:∀ w9,St w0 B9 w9->ez w9 va a.l):Calls Tryz.prog 42 [.pointer (some ⟨bc,0,none⟩),.agg (bO a va)].toArray w (λe w9=>∃ v,e=.returned v/\Jd w0 bc 83 46 66 59 (lA (ax X) a.no) B9 v w9):=by
 have hbM:X.M.l.length<=100:=hbd.ml
 have hbH:=hbd.hx
 refine dG Tryz.func42 rfl Tryz.ntmps42 rfl [(0,.pointer (some ⟨bc,0,none⟩)),(1,.agg (bO a va))] (by simp) λf h=>?_
 refine qr (bh (bO a va) h s rfl rfl rfl λf w1 b3 h s=>e9 ac 1 h rfl λf h=>ah ?_)
 cases l0:(decide ((aZ X a.no)<X.H.length):Bool)
 ·refine rs ac 2 h rfl λf h=>ag (V:=.int .i64 a.no) (ae (aJ.of_own s 0 rfl) 1 (w6 _ _)) h bs rfl rfl λf h=>da h s u5 (aX (.pointer none) (hQ vo vs vh vl vn X.M.last X.M.now bc X.H a.no _ (iF.of_own s 1 rfl) (bp.of_own (s.getSl 3 rfl)) (λx hx=>⟨bf ((s.getG 5 rfl).hw x hx).1,bf ((s.getG 5 rfl).hw x hx).2.1,bf ((s.getG 5 rfl).hw x hx).2.2⟩) (by omega)) (pO (Yr l0))) rfl rfl λf w1 h s=>e9 ac 1 h rfl λf h=>ah (cu ac 1 h rfl λf h=>ai h (bq (.bool true) (eX ac8 (h.ev rfl) (h.ev rfl)) (rfl)) rfl λf h=>ie h rfl (bF ac 1 h rfl λf h=>rt (d6 rfl h rfl (by replace s:=s.bring 5 rfl;replace s:=s.bring 5 rfl;replace s:=s.bring 5 rfl;replace s:=s.bring 5 rfl;replace s:=s.bring 5 rfl;exact ⟨_,rfl,iV (PV (by rw [rb (Yr l0)];decide)) (by decide) (s.pick _ (Yo _ (Yo _ (Yo _ (Yo _ (Yo _ (Yp _ (List.Sublist.refl _))))))))⟩))))
 ·refine rs ac 2 h rfl λf h=>ag (V:=.int .i64 a.no) (ae (aJ.of_own s 0 rfl) 1 (w6 _ _)) h bs rfl rfl λf h=>da h s u5 (aX (.pointer (some (bI vh ((aZ X a.no)*5)))) (hQ vo vs vh vl vn X.M.last X.M.now bc X.H a.no _ (iF.of_own s 1 rfl) (bp.of_own (s.getSl 3 rfl)) (λx hx=>⟨bf ((s.getG 5 rfl).hw x hx).1,bf ((s.getG 5 rfl).hw x hx).2.1,bf ((s.getG 5 rfl).hw x hx).2.2⟩) (by omega)) (AK (Yq l0))) rfl rfl λf w1 h s=>e9 ac 1 h rfl λf h=>ah (qr ?_)
  have hix:=Yq l0
  have hget:=Ar hix
  have hno:=AV hix
  have hri:=vB hrt hix
  have hge:¬ (cQ (ax X) a.no).no<0:=by rw [hget];have:=(gb.1 hri).no;omega
  refine ap ac 1 h rfl λf h=>ai h (bq (.bool false) (eX ac8 (h.ev rfl) (h.ev rfl)) (rfl)) rfl λf h=>f7 h rfl (ah (ow (γ:=List Nat × Value × List S2) 0 14 [[],[0],[0,1],[],[3],[3,4],[3,4,5],[3,4,5,6],[3,4,5,6,7],[0,1,2,3,4,5,6,7,8],[0,1,2,3,4,5,6,7,8,9],[0,1,2,3,4,5,6,7,8,9,10],[0,1,2,3,4,5,6,7,8,9,10],[0,1,2,3,4,5,6,7,8,9,10,11],[0,1,2,3,4,5,6,7,8,9,10,11,12,13]] [[],[],[],[],[],[],[],[],[],[],[],[],[],[],[]] [] [.v _,.v _,.v (.agg (a8 (X.H.getD (aZ X a.no) aD).1.no (X.H.getD (aZ X a.no) aD).1.gt (X.H.getD (aZ X a.no) aD).2.1 (X.H.getD (aZ X a.no) aD).2.2.1 (X.H.getD (aZ X a.no) aD).2.2.2)),.v _,.v _,.v _,.v _,.v _,.v (.int .i64 X.M.now),.r (λv=>[.grp (v 9).2.1 (λw9=>iq (v 9).2.2.2=(eB (X.H.getD (aZ X a.no) aD).1 X.M.now)/\(gn w9 (X.H.getD (aZ X a.no) aD).2.1 (X.H.getD (aZ X a.no) aD).2.2.1 (X.H.getD (aZ X a.no) aD).2.2.2 (X.H.getD (aZ X a.no) aD).1->zZ w9 (ft (v 9).2.2.1) (v 9).2.2.2))]) (λv=>(v 9).1=.tuple #[(ft (v 9).2.2.1),.int .i64 (uU (X.H.getD (aZ X a.no) aD).1 X.M.now)]),.f (λv=>(v 10).1=.tuple #[(ft (v 9).2.2.1),.int .i64 (uU (X.H.getD (aZ X a.no) aD).1 X.M.now)]),.f (λv=>(v 11).1=(ft (v 9).2.2.1)),.v (.int .i64 (uU (X.H.getD (aZ X a.no) aD).1 X.M.now)),.f (λv=>(v 13).1=(ft (v 9).2.2.1)),.n] _ h s rfl (by kernel_rfl) (by kernel_rfl) (by kernel_rfl) (kr ac h rfl rfl rfl (kr ac h rfl rfl rfl (cp ?_ (kr ac h rfl rfl rfl (kr ac h rfl rfl rfl (kr ac h rfl rfl rfl (kr ac h rfl rfl rfl (kr ac h rfl rfl rfl (cp ?_ (cp ?_ (cp ?_ (cp ?_ (cp ?_ (cp ?_ (trivial))))))))))))))) [0,1,2,3,4,5,6,7,8,9,10,11,12,13] (by kernel_rfl) ?_))
  ·intro f9 w2 vl4 E9 hs9 hd9 hl hF s
   have h:=cG [(18,_)] h hs9 hd9 ⟨bg hl 18 1 (by kernel_rfl) (hF 1 (by decide)),trivial⟩
   refine aB ((bp.of_own (s.getSl 3 rfl)).el ((aZ X a.no)) (by omega) (by decide) (D:=a8 (X.H.getD (aZ X a.no) aD).1.no (X.H.getD (aZ X a.no) aD).1.gt (X.H.getD (aZ X a.no) aD).2.1 (X.H.getD (aZ X a.no) aD).2.2.1 (X.H.getD (aZ X a.no) aD).2.2.2) (pE _ _ hix)) h dY rfl (aN _ _ _ _ _) rfl λf h=>ay ⟨(_,default),bk 19 h rfl rfl,rfl,s⟩
  ·intro f9 w2 vl4 E9 hs9 hd9 hl hF s
   have h:=cG [(24,_)] h hs9 hd9 ⟨bg hl 24 7 (by kernel_rfl) (hF 7 (by decide)),trivial⟩
   refine ag (V:=.int .i64 X.M.now) (ae (aJ.of_own s 1 rfl) 5 (GZ _ _ _ _ _ _ _)) h bs rfl rfl λf h=>ay ⟨(_,default),bk 25 h rfl rfl,rfl,s⟩
  ·intro f9 w2 vl4 E9 hs9 hd9 hl hF s
   have h:=cG [(19,_),(25,_)] h hs9 hd9 ⟨bg hl 19 2 (by kernel_rfl) (hF 2 (by decide)),bg hl 25 8 (by kernel_rfl) (hF 8 (by decide)),trivial⟩
   have hcQ:=(s.getG 5 rfl)
   refine bB h s S5 (HO (X.H.getD (aZ X a.no) aD).1 (X.H.getD (aZ X a.no) aD).2.1 (X.H.getD (aZ X a.no) aD).2.2.1 (X.H.getD (aZ X a.no) aD).2.2.2 X.M.now _ (hcQ.hw _ (cr hix)) (hbd.he hix)) rfl rfl ?_;rintro f w1 v26 ⟨ul,K,ks,hv26,hKL,hG⟩ hE h sq;replace s:=s.add hG;clear hG
   have p1:=yt ((s.getG 0 rfl) ((RdC.keep hcQ hE).hw _ (cr hix))).1
   replace s:=s.weak (S':=λw9=>iq K=(eB (X.H.getD (aZ X a.no) aD).1 X.M.now)/\(gn w9 (X.H.getD (aZ X a.no) aD).2.1 (X.H.getD (aZ X a.no) aD).2.2.1 (X.H.getD (aZ X a.no) aD).2.2.2 (X.H.getD (aZ X a.no) aD).1->zZ w9 (ft ul) K)) (λw9 b=>⟨hKL,by rw [p1];exact b⟩)
   rw [← p1] at hv26
   exact ay ⟨(_,(ks,ul,K)),bk 26 h rfl rfl,hv26,s⟩
  ·intro f9 w2 vl4 E9 hs9 hd9 hl hF s
   have h:=cG [(26,.tuple #[(ft (vl4 9).2.2.1),.int .i64 (uU (X.H.getD (aZ X a.no) aD).1 X.M.now)])] h hs9 hd9 ⟨bg hl 26 9 (by kernel_rfl) (hF 9 (by decide)),trivial⟩
   refine ap ac 1 h rfl λf h=>ay ⟨(_,default),bk 16 h rfl rfl,rfl,s⟩
  ·intro f9 w2 vl4 E9 hs9 hd9 hl hF s
   have h:=cG [(16,.tuple #[(ft (vl4 9).2.2.1),.int .i64 (uU (X.H.getD (aZ X a.no) aD).1 X.M.now)])] h hs9 hd9 ⟨bg hl 16 10 (by kernel_rfl) (hF 10 (by decide)),trivial⟩
   refine ap ac 1 h rfl λf h=>ay ⟨(_,default),bk 27 h rfl rfl,rfl,s⟩
  ·intro f9 w2 vl4 E9 hs9 hd9 hl hF s
   have h:=cG [(16,.tuple #[(ft (vl4 9).2.2.1),.int .i64 (uU (X.H.getD (aZ X a.no) aD).1 X.M.now)])] h hs9 hd9 ⟨bg hl 16 10 (by kernel_rfl) (hF 10 (by decide)),trivial⟩
   refine ap ac 1 h rfl λf h=>ay ⟨(_,default),bk 28 h rfl rfl,rfl,s⟩
  ·intro f9 w2 vl4 E9 hs9 hd9 hl hF s
   have h:=cG [(27,(ft (vl4 9).2.2.1))] h hs9 hd9 ⟨bg hl 27 11 (by kernel_rfl) (hF 11 (by decide)),trivial⟩
   refine ap ac 1 h rfl λf h=>ay ⟨(_,default),bk 6 h rfl rfl,rfl,s⟩
  intro f w1 vl4 hs9 hd9 hv hr hF s
  replace hv:=λi d h9=>hv i d (show Nat.blt i 14=true from h9)
  replace h:=dN 14 (ops:=_) [(17,_),(18,_),(19,_),(20,_),(21,_),(22,_),(23,_),(24,_),(25,_),(26,.tuple #[(ft (vl4 9).2.2.1),.int .i64 (uU (X.H.getD (aZ X a.no) aD).1 X.M.now)]),(16,.tuple #[(ft (vl4 9).2.2.1),.int .i64 (uU (X.H.getD (aZ X a.no) aD).1 X.M.now)]),(27,(ft (vl4 9).2.2.1)),(28,_),(6,(ft (vl4 9).2.2.1))] h hs9 hd9 hr ⟨(hv 0 17 rfl rfl).trans (hF 0 rfl),(hv 1 18 rfl rfl).trans (hF 1 rfl),(hv 2 19 rfl rfl).trans (hF 2 rfl),(hv 3 20 rfl rfl).trans (hF 3 rfl),(hv 4 21 rfl rfl).trans (hF 4 rfl),(hv 5 22 rfl rfl).trans (hF 5 rfl),(hv 6 23 rfl rfl).trans (hF 6 rfl),(hv 7 24 rfl rfl).trans (hF 7 rfl),(hv 8 25 rfl rfl).trans (hF 8 rfl),(hv 9 26 rfl rfl).trans (hF 9 rfl),(hv 10 16 rfl rfl).trans (hF 10 rfl),(hv 11 27 rfl rfl).trans (hF 11 rfl),(hv 12 28 rfl rfl).trans (hF 12 rfl),(hv 13 6 rfl rfl).trans (hF 13 rfl),trivial⟩ (by kernel_rfl)
  replace s:St w0 (.grp (vl4 9).2.1 (λw9=>iq (vl4 9).2.2.2=(eB (X.H.getD (aZ X a.no) aD).1 X.M.now)/\(gn w9 (X.H.getD (aZ X a.no) aD).2.1 (X.H.getD (aZ X a.no) aD).2.2.1 (X.H.getD (aZ X a.no) aD).2.2.2 (X.H.getD (aZ X a.no) aD).1->zZ w9 (ft (vl4 9).2.2.1) (vl4 9).2.2.2))::.blk b3 (.cells (bO a va) 36)::.blk bc (.cells (ef vo vs vh vl X.M.last X.M.now vn) 83)::.sl vs 46 3 X.S.length (aQ X.S)::.sl vh 66 5 X.H.length (aC X.H)::.sl vn 59 74 ([]:List Nt).length (aH ([]:List Nt))::(.grp kk (λw9=>RdC w9 vo vl X))::B9) _:=s
  refine e9 ac 1 h rfl λf h=>ah (qr ?_)
  have hKs:=(s.getG 0 rfl).1
  have hak:=L6 (h:=(X.H.getD (aZ X a.no) aD).1) (now:=X.M.now) ⟨hri,((fG X.M).1 (xv hrt)).2.2.1⟩
  have hkl9:(eB (X.H.getD (aZ X a.no) aD).1 X.M.now).length=(vl4 9).2.2.2.length:=by rw [← hKs];exact Y6 _
  have hwl:=(gb.1 hri).wl
  have hk8:(vl4 9).2.2.2.length<=8:=by rw [← hkl9,hak.2];unfold iu;rw [Y6];exact hwl
  have h0L:∀ x∈(eB (X.H.getD (aZ X a.no) aD).1 X.M.now),0<=x.1:=λx hx=>(AD hri (by rw [hak.2] at hx;exact hx)).1
  refine ap ac 1 h rfl λf h=>ce h (((s.getG 0 rfl).2 ((s.getG 6 rfl).hw _ (cr hix))).1) ac4 rfl rfl λf h=>e9 ac 1 h rfl λf h=>Y9 (Zb (λnn aa ww=>∃ k:Nat,∃ vx:Value,∃ vm:Value,∃ kn:List Nat,Sl 45 aa [(0,.pointer (some ⟨bc,0,none⟩)),(1,.agg (bO a va)),(3,.pointer (some ⟨b3,0,none⟩)),(10,.pointer (some ⟨bc,0,none⟩)),(20,.pointer (some ⟨bc,0,none⟩)),(21,.pointer (some ⟨bc,0,none⟩)),(5,.pointer (some (bI vh ((aZ X a.no)*5)))),(7,.int .i64 (uU (X.H.getD (aZ X a.no) aD).1 X.M.now)),(29,(ft (vl4 9).2.2.1)),(30,.int .i64 ((vl4 9).2.2.2.length:Int)),(31,.int .i64 (k:Int))]/\St w0 ((.grp (vl4 9).2.1 (λw9=>iq (vl4 9).2.2.2=(eB (X.H.getD (aZ X a.no) aD).1 X.M.now)/\(gn w9 (X.H.getD (aZ X a.no) aD).2.1 (X.H.getD (aZ X a.no) aD).2.2.1 (X.H.getD (aZ X a.no) aD).2.2.2 (X.H.getD (aZ X a.no) aD).1->zZ w9 (ft (vl4 9).2.2.1) (vl4 9).2.2.2)))::.blk b3 (.cells (bO a va) 36)::.blk bc (.cells (ef vo vs vh vx (cS X (16+a.no) (eB (X.H.getD (aZ X a.no) aD).1 X.M.now) k).w.ml.last (cS X (16+a.no) (eB (X.H.getD (aZ X a.no) aD).1 X.M.now) k).w.ml.now vm) 83)::.sl vs 46 3 X.S.length (aQ X.S)::.sl vh 66 5 X.H.length (aC X.H)::.sl vm 59 74 (cS X (16+a.no) (eB (X.H.getD (aZ X a.no) aD).1 X.M.now) k).n.length (aH (cS X (16+a.no) (eB (X.H.getD (aZ X a.no) aD).1 X.M.now) k).n)::(.grp kn (λw9=>RdC w9 vo vx {X with M:=(cS X (16+a.no) (eB (X.H.getD (aZ X a.no) aD).1 X.M.now) k).w.ml}))::B9) ww/\nn=(vl4 9).2.2.2.length - k/\k<=(vl4 9).2.2.2.length) ((vl4 9).2.2.2.length - (0)) ⟨0,vl,vn,kk,h.only ⟨rfl,rfl,rfl,rfl,rfl,rfl,rfl,rfl,rfl,rfl,av rfl (by omega),trivial⟩,s.as ⟨rfl,rfl,rfl,rfl,rfl,rfl,rfl,mN _⟩,rfl,YO _⟩ ?_)
  rintro _ f w1 ⟨k,vx,vm,kn,h,s,hnn,hp0⟩
  refine bF ac 1 h rfl λf h=>ah (dq h rfl (λhc=>?_) (λhc=>?_))
  ·refine kt (ah (Y9 (qr ?_)))
   have hks9:k<(vl4 9).2.2.2.length:=by omega
   refine ai h (bz (((s.getG 0 rfl).2 ((s.getG 6 rfl).hw _ (cr hix))).1) (k) ac4 Ph (h.ev rfl) (h.ev rfl) (by omega) (by omega)) rfl λf h=>aB ((((s.getG 0 rfl).2 ((s.getG 6 rfl).hw _ (cr hix))).1).el (k) (by omega) (by decide) (D:=bK ((vl4 9).2.2.2.getD k gM).1.1 ((vl4 9).2.2.2.getD k gM).1.2.1 ((vl4 9).2.2.2.getD k gM).2 ((vl4 9).2.2.2.getD k gM).1.2.2) (Ul _ k hks9)) h dZ rfl (bC _ _ _ _) rfl λf h=>aS (bK 0 mZ aj eg) h s tE rfl rfl λf w1 b9 h s=>ak 0 h s dZ rfl rfl rfl (bC _ _ _ _) (bC _ _ _ _) (d7 _ _ _ (bf (((s.getG 1 rfl).2 ((s.getG 7 rfl).hw _ (cr hix))).2 _ (ym hks9)))) λw1 s=>nt ?_
   have hpx:(eB (X.H.getD (aZ X a.no) aD).1 X.M.now).getD k Du=((vl4 9).2.2.2.getD k gM).1:=Fm hKs k
   have hmx:((vl4 9).2.2.2.getD k gM).1∈iu (X.H.getD (aZ X a.no) aD).1 X.M.now:=by rw [← hak.2,← hKs];exact Ze.2 ⟨_,ym hks9,rfl⟩
   obtain ⟨hx0,hxm,hxl⟩:=AD hri hmx
   have han:=QL (X:=X) (fr:=16+a.no) (L:=(eB (X.H.getD (aZ X a.no) aD).1 X.M.now)) (k:=k) (by omega)
   have hTk:=Qn (X:=X) (fr:=16+a.no) h0L (k:=k) (by omega)
   rw [hpx] at hTk
   have hUa:∀ w9,ez w9 ((vl4 9).2.2.2.getD k gM).2 ((vl4 9).2.2.2.getD k gM).1.2.1.l:=λw9=>K1 (((s.getG 1 rfl).2 ((s.getG 7 rfl).hw _ (cr hix))).2 _ (ym hks9)) (Gc hmx)
   have hno15:=(gb.1 hri).no
   replace s:=s.bring 7 rfl
   replace s:=s.bring 7 rfl
   replace s:=s.bring 5 rfl
   replace s:St w0 (.blk bc (.cells (ef vo vs vh vx (cS X (16+a.no) (eB (X.H.getD (aZ X a.no) aD).1 X.M.now) k).w.ml.last (cS X (16+a.no) (eB (X.H.getD (aZ X a.no) aD).1 X.M.now) k).w.ml.now vm) 83)::.sl vm 59 74 (cS X (16+a.no) (eB (X.H.getD (aZ X a.no) aD).1 X.M.now) k).n.length (aH (cS X (16+a.no) (eB (X.H.getD (aZ X a.no) aD).1 X.M.now) k).n)::(.grp kn (λw9=>RdC w9 vo vx {X with M:=(cS X (16+a.no) (eB (X.H.getD (aZ X a.no) aD).1 X.M.now) k).w.ml}))::.blk b9 (.cells (bK ((vl4 9).2.2.2.getD k gM).1.1 ((vl4 9).2.2.2.getD k gM).1.2.1 ((vl4 9).2.2.2.getD k gM).2 ((vl4 9).2.2.2.getD k gM).1.2.2) 166)::(.grp (vl4 9).2.1 (λw9=>iq (vl4 9).2.2.2=(eB (X.H.getD (aZ X a.no) aD).1 X.M.now)/\(gn w9 (X.H.getD (aZ X a.no) aD).2.1 (X.H.getD (aZ X a.no) aD).2.2.1 (X.H.getD (aZ X a.no) aD).2.2.2 (X.H.getD (aZ X a.no) aD).1->zZ w9 (ft (vl4 9).2.2.1) (vl4 9).2.2.2)))::.blk b3 (.cells (bO a va) 36)::.sl vs 46 3 X.S.length (aQ X.S)::.sl vh 66 5 X.H.length (aC X.H)::B9) _:=s
   replace s:=St.tie9 [.blk bc (.cells (ef vo vs vh vx (cS X (16+a.no) (eB (X.H.getD (aZ X a.no) aD).1 X.M.now) k).w.ml.last (cS X (16+a.no) (eB (X.H.getD (aZ X a.no) aD).1 X.M.now) k).w.ml.now vm) 83),.sl vm 59 74 (cS X (16+a.no) (eB (X.H.getD (aZ X a.no) aD).1 X.M.now) k).n.length (aH (cS X (16+a.no) (eB (X.H.getD (aZ X a.no) aD).1 X.M.now) k).n),(.grp kn (λw9=>RdC w9 vo vx {X with M:=(cS X (16+a.no) (eB (X.H.getD (aZ X a.no) aD).1 X.M.now) k).w.ml}))] s
   refine F4 (γ:=Value × Value × List Nat) 1 [[],[],[1],[1,2],[1,2,3],[1,2,3,4],[],[0,1,2,3,4,5,6]] [[],[],[],[],[],[],[],[8]] [[_]] [.v _,.v _,.v _,.v (.pointer (some (bI vh ((aZ X a.no)*5+0)))),.v (.int .i64 a.no),.v (.int .i64 (16+a.no)),.v (.agg (bK ((vl4 9).2.2.2.getD k gM).1.1 ((vl4 9).2.2.2.getD k gM).1.2.1 ((vl4 9).2.2.2.getD k gM).2 ((vl4 9).2.2.2.getD k gM).1.2.2)),.w (λv=>[Own.tie9 w0 [.blk bc (.cells (ef vo vs vh (v 7).2.1 (cS X (16+a.no) (eB (X.H.getD (aZ X a.no) aD).1 X.M.now) (k+1)).w.ml.last (cS X (16+a.no) (eB (X.H.getD (aZ X a.no) aD).1 X.M.now) (k+1)).w.ml.now (v 7).2.2.1) 83),.sl (v 7).2.2.1 59 74 (cS X (16+a.no) (eB (X.H.getD (aZ X a.no) aD).1 X.M.now) (k+1)).n.length (aH (cS X (16+a.no) (eB (X.H.getD (aZ X a.no) aD).1 X.M.now) (k+1)).n),.grp (v 7).2.2.2 (λw9=>RdC w9 vo (v 7).2.1 {X with M:=(cS X (16+a.no) (eB (X.H.getD (aZ X a.no) aD).1 X.M.now) (k+1)).w.ml})]]) (.int .i64 (aT ⟨ax ({X with M:=(cS X (16+a.no) (eB (X.H.getD (aZ X a.no) aD).1 X.M.now) k).w.ml}),(cS X (16+a.no) (eB (X.H.getD (aZ X a.no) aD).1 X.M.now) k).n,0⟩ (16+a.no) ((vl4 9).2.2.2.getD k gM).1).no)] _ h s rfl (by kernel_rfl) (by kernel_rfl) (by kernel_rfl) (kr ac h rfl rfl rfl (kr ac h rfl rfl rfl (kr ac h rfl rfl rfl (cp ?_ (cp ?_ (cp ?_ (cp ?_ (cp ?_ (trivial))))))))) [0,1,2,3,4,5,6,7] (by kernel_rfl) ?_
   ·intro f9 w2 vl8 E9 hs9 hd9 hl hF s
    have h:=cG [(37,_)] h hs9 hd9 ⟨bg hl 37 2 (by kernel_rfl) (hF 2 (by decide)),trivial⟩
    refine ai h (aW mj (h.ev rfl) ((bp.of_own (s.getSl 4 rfl)).some (by omega))) rfl λf h=>ay ⟨(_,default),bk 38 h rfl rfl,rfl,s⟩
   ·intro f9 w2 vl8 E9 hs9 hd9 hl hF s
    have h:=cG [(38,_)] h hs9 hd9 ⟨bg hl 38 3 (by kernel_rfl) (hF 3 (by decide)),trivial⟩
    refine ag (V:=.int .i64 a.no) (cX (bp.of_own (s.getSl 4 rfl)) ((aZ X a.no)*5+0) ((zM hix).trans (by rw [hno]))) h bs rfl rfl λf h=>ay ⟨(_,default),bk 39 h rfl rfl,rfl,s⟩
   ·intro f9 w2 vl8 E9 hs9 hd9 hl hF s
    have h:=cG [(39,_)] h hs9 hd9 ⟨bg hl 39 4 (by kernel_rfl) (hF 4 (by decide)),trivial⟩
    refine da h s MF (rl a.no (by omega) _) rfl rfl λf w1 h s=>ay ⟨(_,default),bk 40 h rfl rfl,rfl,s⟩
   ·intro f9 w2 vl8 E9 hs9 hd9 hl hF s
    have h:=cG [(9,_)] h hs9 hd9 ⟨fh hl 9 (by kernel_rfl) (h.holds 9 _ rfl),trivial⟩
    refine al 0 h s dZ rfl rfl (bC _ _ _ _) rfl λf h=>ay ⟨(_,default),bk 41 h rfl rfl,rfl,s⟩
   ·intro f9 w2 vl8 E9 hs9 hd9 hl hF s
    have h:=cG [(35,_),(40,_),(41,.agg (bK ((vl4 9).2.2.2.getD k gM).1.1 ((vl4 9).2.2.2.getD k gM).1.2.1 ((vl4 9).2.2.2.getD k gM).2 ((vl4 9).2.2.2.getD k gM).1.2.2))] h hs9 hd9 ⟨bg hl 35 0 (by kernel_rfl) (hF 0 (by decide)),bg hl 40 5 (by kernel_rfl) (hF 5 (by decide)),bg hl 41 6 (by kernel_rfl) (hF 6 (by decide)),trivial⟩
    replace s:=s.untie9
    refine dI [.pointer (some ⟨bc,0,none⟩),.int .i64 (16+a.no),.agg (bK ((vl4 9).2.2.2.getD k gM).1.1 ((vl4 9).2.2.2.getD k gM).1.2.1 ((vl4 9).2.2.2.getD k gM).2 ((vl4 9).2.2.2.getD k gM).1.2.2)] h Mx (rg vo vs vh vx vm ({X with M:=(cS X (16+a.no) (eB (X.H.getD (aZ X a.no) aD).1 X.M.now) k).w.ml}) (cS X (16+a.no) (eB (X.H.getD (aZ X a.no) aD).1 X.M.now) k).n kn bc _ (16+a.no) ((vl4 9).2.2.2.getD k gM).1 ((vl4 9).2.2.2.getD k gM).2 _ _ s (by show (cS X (16+a.no) (eB (X.H.getD (aZ X a.no) aD).1 X.M.now) k).w.ml.l.length<=900;omega) hx0 hxm hxl (by exact λw9 _=>hUa w9) (by omega)) rfl rfl ?_;rintro f w1 v42 ⟨rfl,vx2,vm2,kn2,s⟩ h
    rw [hTk] at s
    replace s:=St.tie9 [.blk bc (.cells (ef vo vs vh vx2 (cS X (16+a.no) (eB (X.H.getD (aZ X a.no) aD).1 X.M.now) (k+1)).w.ml.last (cS X (16+a.no) (eB (X.H.getD (aZ X a.no) aD).1 X.M.now) (k+1)).w.ml.now vm2) 83),.sl vm2 59 74 (cS X (16+a.no) (eB (X.H.getD (aZ X a.no) aD).1 X.M.now) (k+1)).n.length (aH (cS X (16+a.no) (eB (X.H.getD (aZ X a.no) aD).1 X.M.now) (k+1)).n),.grp kn2 (λw9=>RdC w9 vo vx2 {X with M:=(cS X (16+a.no) (eB (X.H.getD (aZ X a.no) aD).1 X.M.now) (k+1)).w.ml})] s
    exact ay ⟨(_,(vx2,vm2,kn2)),bk 42 h rfl rfl,rfl,s⟩
   intro f w1 vl8 hs9 hd9 hv hr hF s
   replace h:=G9 (ops:=_) [(35,_),(36,_),(37,_),(38,_),(39,_),(40,_),(41,_),(42,_)] h hs9 hd9 hr ⟨(hv 0 35 rfl).trans (hF 0 rfl),(hv 1 36 rfl).trans (hF 1 rfl),(hv 2 37 rfl).trans (hF 2 rfl),(hv 3 38 rfl).trans (hF 3 rfl),(hv 4 39 rfl).trans (hF 4 rfl),(hv 5 40 rfl).trans (hF 5 rfl),(hv 6 41 rfl).trans (hF 6 rfl),(hv 7 42 rfl).trans (hF 7 rfl),trivial⟩ (by kernel_rfl)
   replace s:St w0 (Own.tie9 w0 [.blk bc (.cells (ef vo vs vh (vl8 7).2.1 (cS X (16+a.no) (eB (X.H.getD (aZ X a.no) aD).1 X.M.now) (k+1)).w.ml.last (cS X (16+a.no) (eB (X.H.getD (aZ X a.no) aD).1 X.M.now) (k+1)).w.ml.now (vl8 7).2.2.1) 83),.sl (vl8 7).2.2.1 59 74 (cS X (16+a.no) (eB (X.H.getD (aZ X a.no) aD).1 X.M.now) (k+1)).n.length (aH (cS X (16+a.no) (eB (X.H.getD (aZ X a.no) aD).1 X.M.now) (k+1)).n),.grp (vl8 7).2.2.2 (λw9=>RdC w9 vo (vl8 7).2.1 {X with M:=(cS X (16+a.no) (eB (X.H.getD (aZ X a.no) aD).1 X.M.now) (k+1)).w.ml})]::.blk b9 (.cells (bK ((vl4 9).2.2.2.getD k gM).1.1 ((vl4 9).2.2.2.getD k gM).1.2.1 ((vl4 9).2.2.2.getD k gM).2 ((vl4 9).2.2.2.getD k gM).1.2.2) 166)::(.grp (vl4 9).2.1 (λw9=>iq (vl4 9).2.2.2=(eB (X.H.getD (aZ X a.no) aD).1 X.M.now)/\(gn w9 (X.H.getD (aZ X a.no) aD).2.1 (X.H.getD (aZ X a.no) aD).2.2.1 (X.H.getD (aZ X a.no) aD).2.2.2 (X.H.getD (aZ X a.no) aD).1->zZ w9 (ft (vl4 9).2.2.1) (vl4 9).2.2.2)))::.blk b3 (.cells (bO a va) 36)::.sl vs 46 3 X.S.length (aQ X.S)::.sl vh 66 5 X.H.length (aC X.H)::B9) _:=s
   obtain ⟨vx2,hvx⟩:∃ z,z=(vl8 7).2.1:=⟨_,rfl⟩
   obtain ⟨vm2,hvm⟩:∃ z,z=(vl8 7).2.2.1:=⟨_,rfl⟩
   obtain ⟨kn2,hkn⟩:∃ z,z=(vl8 7).2.2.2:=⟨_,rfl⟩
   rw [← hvx,← hvm,← hkn] at s
   replace s:=s.untie9
   replace s:St w0 (.blk bc (.cells (ef vo vs vh vx2 (cS X (16+a.no) (eB (X.H.getD (aZ X a.no) aD).1 X.M.now) (k+1)).w.ml.last (cS X (16+a.no) (eB (X.H.getD (aZ X a.no) aD).1 X.M.now) (k+1)).w.ml.now vm2) 83)::.sl vm2 59 74 (cS X (16+a.no) (eB (X.H.getD (aZ X a.no) aD).1 X.M.now) (k+1)).n.length (aH (cS X (16+a.no) (eB (X.H.getD (aZ X a.no) aD).1 X.M.now) (k+1)).n)::(.grp kn2 (λw9=>RdC w9 vo vx2 {X with M:=(cS X (16+a.no) (eB (X.H.getD (aZ X a.no) aD).1 X.M.now) (k+1)).w.ml}))::.blk b9 (.cells (bK ((vl4 9).2.2.2.getD k gM).1.1 ((vl4 9).2.2.2.getD k gM).1.2.1 ((vl4 9).2.2.2.getD k gM).2 ((vl4 9).2.2.2.getD k gM).1.2.2) 166)::(.grp (vl4 9).2.1 (λw9=>iq (vl4 9).2.2.2=(eB (X.H.getD (aZ X a.no) aD).1 X.M.now)/\(gn w9 (X.H.getD (aZ X a.no) aD).2.1 (X.H.getD (aZ X a.no) aD).2.2.1 (X.H.getD (aZ X a.no) aD).2.2.2 (X.H.getD (aZ X a.no) aD).1->zZ w9 (ft (vl4 9).2.2.1) (vl4 9).2.2.2)))::.blk b3 (.cells (bO a va) 36)::.sl vs 46 3 X.S.length (aQ X.S)::.sl vh 66 5 X.H.length (aC X.H)::B9) _:=s
   refine bw (aO (aG (ai h (bS (h.ev rfl) (h.ev rfl) (by omega)) rfl λf h=>e9 ac 1 h rfl λf h=>?_)))
   replace s:=s.bring 2 rfl
   replace s:=s.bring 2 rfl
   replace s:=s.bring 7 rfl
   replace s:=s.bring 7 rfl
   replace s:=s.bring 4 rfl
   replace s:=s.bring 7 rfl
   replace s:=s.bring 7 rfl
   replace s:St w0 ((.grp (vl4 9).2.1 (λw9=>iq (vl4 9).2.2.2=(eB (X.H.getD (aZ X a.no) aD).1 X.M.now)/\(gn w9 (X.H.getD (aZ X a.no) aD).2.1 (X.H.getD (aZ X a.no) aD).2.2.1 (X.H.getD (aZ X a.no) aD).2.2.2 (X.H.getD (aZ X a.no) aD).1->zZ w9 (ft (vl4 9).2.2.1) (vl4 9).2.2.2)))::.blk b3 (.cells (bO a va) 36)::.blk bc (.cells (ef vo vs vh vx2 (cS X (16+a.no) (eB (X.H.getD (aZ X a.no) aD).1 X.M.now) (k+1)).w.ml.last (cS X (16+a.no) (eB (X.H.getD (aZ X a.no) aD).1 X.M.now) (k+1)).w.ml.now vm2) 83)::.sl vs 46 3 X.S.length (aQ X.S)::.sl vh 66 5 X.H.length (aC X.H)::.sl vm2 59 74 (cS X (16+a.no) (eB (X.H.getD (aZ X a.no) aD).1 X.M.now) (k+1)).n.length (aH (cS X (16+a.no) (eB (X.H.getD (aZ X a.no) aD).1 X.M.now) (k+1)).n)::(.grp kn2 (λw9=>RdC w9 vo vx2 {X with M:=(cS X (16+a.no) (eB (X.H.getD (aZ X a.no) aD).1 X.M.now) (k+1)).w.ml}))::.blk b9 (.cells (bK ((vl4 9).2.2.2.getD k gM).1.1 ((vl4 9).2.2.2.getD k gM).1.2.1 ((vl4 9).2.2.2.getD k gM).2 ((vl4 9).2.2.2.getD k gM).1.2.2) 166)::B9) _:=s
   exact ⟨_,by omega,⟨k+1,vx2,vm2,kn2,h.only ⟨rfl,rfl,rfl,rfl,rfl,rfl,rfl,rfl,rfl,rfl,av rfl (by omega),trivial⟩,St.as (s.pick _ (Yo _ (Yo _ (Yo _ (Yo _ (Yo _ (Yo _ (Yo _ (Yp _ (List.Sublist.refl _)))))))))) ⟨rfl,rfl,rfl,rfl,rfl,rfl,rfl,mN _⟩,rfl,by omega⟩⟩
  ·refine Za (a7 (a7 (cd (aO (qr ?_)))))
   have hend:(cS X (16+a.no) (eB (X.H.getD (aZ X a.no) aD).1 X.M.now) k)=fC ⟨ax X,[],0⟩ (16+a.no) (iu (cQ (ax X) a.no) (ax X).ml.now):=by rw [HD (show k=(eB (X.H.getD (aZ X a.no) aD).1 X.M.now).length by omega),hget,hak.2];rfl
   refine e9 ac 2 h rfl λf h=>Y8 (d6 rfl h rfl (by replace s:=s.bring 6 rfl;replace s:=s.bring 6 rfl;replace s:=s.bring 6 rfl;replace s:=s.bring 6 rfl;replace s:=s.bring 6 rfl;exact ⟨_,rfl,by rw [hak.1];exact su (Y:={X with M:=(cS X (16+a.no) (eB (X.H.getD (aZ X a.no) aD).1 X.M.now) k).w.ml}) _ (PU hge) (by rw [← zv h0L (by omega)];exact Yu Pt.w hend) (Yu Pt.n hend) (s.pick _ (Yo _ (Yo _ (Yo _ (Yo _ (Yo _ (Yp _ (Yp _ (List.Sublist.refl _)))))))))⟩))
end Go.Proofs.YtkhepdpfdhdlaaaGreatDoor
