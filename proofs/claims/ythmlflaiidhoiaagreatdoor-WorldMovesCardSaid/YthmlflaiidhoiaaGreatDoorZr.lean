/- Package world: what its functions answer. -/
import Derived.Test.YthmlflaiidhoiaaGreatDoorZi
import Derived.Test.YthmlflaiidhoiaaGreatDoorZn
import Derived.Test.YthmlflaiidhoiaaGreatDoorZc
import Derived.Test.YthmlflaiidhoiaaGreatDoorZj
set_option linter.unusedVariables false
namespace Go.Proofs.YthmlflaiidhoiaaGreatDoor
open Go.RowKit
set_option maxHeartbeats 1000000 in
theorem AS (vo vs vh vl vn:Value) (X:Wx) (N:List Nt) (kk:List Nat) (bc:Nat) (B9:List Own) (fr:Int) (x:Se) (us:Value)  (w0 w:World) (s:St w0 (.blk bc (.cells (gJ vo vs vh vl X.M.last X.M.now vn) 84)::.sl vn 91 74 N.length (bM N)::.grp kk (λw9=>RdC w9 vo vl X)::B9) w) (hMl:X.M.l.length<=900) (h0:0<=x.1) (hxm:ey x.2.1=true) (hxl:x.2.1.l.length<=1000) (hU:∀ w9,St w0 B9 w9->iJ w9 us x.2.1.l):Calls Tryz.prog 174 [.pointer (some ⟨bc,0,none⟩),.int .i64 fr,.agg (dP x.1 x.2.1 us x.2.2)].toArray w (λe w9=>∃ v,e=.returned v/\(((dw X.M fr x.1 (db x.2.1))=0/\v=.tuple #[.int .i64 (lQ X.M fr x.1 (db x.2.1)),.int .i64 0]/\∃ vx kn,St w0 (.blk bc (.cells (gJ vo vs vh vx (iX X.M fr x.1 (db x.2.1)).last (iX X.M fr x.1 (db x.2.1)).now vn) 84)::.sl vn 91 74 N.length (bM N)::.grp kn (λw9=>RdC w9 vo vx {X with M:=(iX X.M fr x.1 (db x.2.1))})::B9) w9)∨(¬ (dw X.M fr x.1 (db x.2.1))=0/\v=.tuple #[.int .i64 0,.int .i64 (dw X.M fr x.1 (db x.2.1))]/\St w0 (.blk bc (.cells (gJ vo vs vh vl X.M.last X.M.now vn) 84)::.sl vn 91 74 N.length (bM N)::.grp kk (λw9=>RdC w9 vo vl X)::B9) w9))):=by
 have hu1:=bI (hU _ (s.dropN 3))
 refine c7 Tryz.func174 rfl Tryz.ntmps174 rfl [(0,.pointer (some ⟨bc,0,none⟩)),(1,.int .i64 fr),(2,.agg (dP x.1 x.2.1 us x.2.2))] (by simp) λf h=>?_
 refine qr (aV (dP x.1 x.2.1 us x.2.2) h s rfl rfl rfl λf w1 b5 h s=>e9 ac 2 h rfl λf h=>bU ac 2 h rfl λf h=>ak 0 h s gk rfl rfl (co _ _ _ _) rfl λf h=>dF h s UX (Ia x us fr bc h0 _ hu1) rfl rfl λf w1 h s=>e9 ac 5 h rfl λf h=>ah (bU ac 1 h rfl λf h=>gW ac (.bool false) h rfl (rfl) rfl λf h=>gS h rfl (bU ac 1 h rfl λf h=>ap (aJ.subL (aJ.of_own s 0 rfl) 1 71 (D:=eG x.2.1 us) (at8 _ _ _ _)) h qf rfl (eV _ _) rfl λf h=>aY h s Uw (M7 x.2.1 hxm us _ (hU _ (s.dropN 4)) (by omega)) rfl rfl ?_)));intro f w1 v9 hT hE h s;obtain rfl:=hT
 refine e9 ac 5 h rfl λf h=>bU ac 4 h rfl λf h=>ap (aJ.subL (aJ.of_own s 1 rfl) 3 3 (D:=#[vl,.int .i64 X.M.last,.int .i64 X.M.now]) (az0 _ _ _ _ _ _ _)) h eS rfl (rfl) rfl λf h=>am ac 3 h rfl λf h=>aY h s WR (KV X.M vl fr x.1 (db x.2.1) _ (s.getG 3 rfl).ml (by omega)) rfl rfl ?_;rintro f w1 v39 ⟨vx,rfl,hT⟩ hE h sq;replace s:=s.sl_new hE hT
 refine am ac 4 h rfl λf h=>aK (#[ax,.int .i64 0,.int .i64 0]) h s Es rfl rfl λf w1 b12 h s=>al 0 h s eS rfl rfl rfl (rfl) (rfl) (AV _ _ (bk (s.getSl 1 rfl))) λw1 s=>e9 ac 2 h rfl λf h=>ah (bE ac 2 h rfl λf h=>bV h rfl (λhc=>?_) (λhc=>?_))
 ·have e0:¬ (dw X.M fr x.1 (db x.2.1))=0:=aG9 hc
  refine bE ac 3 h rfl λf h=>rt ?_
  exact Fu rfl h rfl rfl (by replace s:=s.bring 5 rfl;replace s:=s.bring 5 rfl;replace s:=s.bring 5 rfl;exact ⟨_,rfl,.inr ⟨e0,rfl,(s.pick _ (aG7 _ (aG7 _ (aG7 _ (aG8 _ (aG8 _ (aG8 _ (List.Sublist.refl _))))))))⟩⟩)
 ·have e0:(dw X.M fr x.1 (db x.2.1))=0:=Decidable.of_not_not (aH0 hc)
  refine kt (bU ac 1 h rfl λf h=>ak 0 h s eS rfl rfl (rfl) rfl λf h=>am ac 3 h rfl λf h=>iP 3 h s eS rfl rfl rfl (rfl) (by rw [fR];omega) (AV _ _ (bk (s.getSl 1 rfl))) λw1 s=>?_)
  replace s:=s.recell (D:=gJ vo vs vh vx ((iX X.M fr x.1 (db x.2.1)).last) ((iX X.M fr x.1 (db x.2.1)).now) vn) 3 rfl rfl
  refine nt (bE ac 3 h rfl λf h=>aL3 ?_)
  exact Fu rfl h rfl rfl (by replace s:=s.bring 4 rfl;replace s:=s.bring 4 rfl;replace s:=s.bring 5 rfl;replace s:=s.bring 4 rfl;exact(have ⟨kn,z9⟩:=YO (X:=X) (m:=(iX X.M fr x.1 (db x.2.1))) (s.pick _ (aG7 _ (aG7 _ (aG7 _ (aG7 _ (aG8 _ (aG8 _ (List.Sublist.refl _))))))));⟨_,rfl,.inl ⟨e0,rfl,vx,kn,z9.perm (aO2 (l₁:=[_,_])).symm⟩⟩))
theorem zE (vo vs vh vl vn:Value) (X:Wx) (N:List Nt) (kk:List Nat) (bc:Nat) (B9:List Own) (fr:Int) (x:Se) (us:Value) (w0 w:World) (s:St w0 (.blk bc (.cells (gJ vo vs vh vl X.M.last X.M.now vn) 84)::.sl vn 91 74 N.length (bM N)::.grp kk (λw9=>RdC w9 vo vl X)::B9) w) (hMl:X.M.l.length<=900) (h0:0<=x.1) (hxm:ey x.2.1=true) (hxl:x.2.1.l.length<=1000) (hU:∀ w9,St w0 B9 w9->iJ w9 us x.2.1.l):Calls Tryz.prog 174 [.pointer (some ⟨bc,0,none⟩),.int .i64 fr,.agg (dP x.1 x.2.1 us x.2.2)].toArray w (λe w9=>∃ v,e=.returned v/\v=.tuple #[.int .i64 (SV X.M fr x.1 (db x.2.1)),.int .i64 (dw X.M fr x.1 (db x.2.1))]/\∃ vx kn,St w0 (.blk bc (.cells (gJ vo vs vh vx (IN X.M fr x.1 (db x.2.1)).last (IN X.M fr x.1 (db x.2.1)).now vn) 84)::.sl vn 91 74 N.length (bM N)::.grp kn (λw9=>RdC w9 vo vx {X with M:=(IN X.M fr x.1 (db x.2.1))})::B9) w9):=by
 refine(AS vo vs vh vl vn X N kk bc B9 fr x us w0 w s hMl h0 hxm hxl hU).mono ?_
 rintro e w9 ⟨v,rfl,⟨e0,rfl,vx,kn,s⟩|⟨e0,rfl,s⟩⟩
 ·exact ⟨_,rfl,by rw [(Kt e0).2,e0],vx,kn,by rw [(Kt e0).1];exact s⟩
 ·exact ⟨_,rfl,by rw [(C8 e0).2],vl,kk,by rw [(C8 e0).1];exact s⟩
set_option maxHeartbeats 2000000 in
theorem G5 (vo vs vh vl vn:Value) (X:Wx) (N:List Nt) (kk:List Nat) (bc:Nat) (B9:List Own) (fr:Int) (x:Se) (us:Value)  (w0 w:World) (s:St w0 (.blk bc (.cells (gJ vo vs vh vl X.M.last X.M.now vn) 84)::.sl vn 91 74 N.length (bM N)::.grp kk (λw9=>RdC w9 vo vl X)::B9) w) (hMl:X.M.l.length<=900) (h0:0<=x.1) (hxm:ey x.2.1=true) (hxl:x.2.1.l.length<=1000) (hU:∀ w9,St w0 B9 w9->iJ w9 us x.2.1.l) (hNl:N.length<=100000):Calls Tryz.prog 114 [.pointer (some ⟨bc,0,none⟩),.int .i64 fr,.agg (dP x.1 x.2.1 us x.2.2)].toArray w (λe w9=>∃ v,e=.returned v/\v=.int .i64 (bT ⟨aC X,N,0⟩ fr x).no/\∃ vx vm kn,St w0 (.blk bc (.cells (gJ vo vs vh vx (bT ⟨aC X,N,0⟩ fr x).w.ml.last (bT ⟨aC X,N,0⟩ fr x).w.ml.now vm) 84)::.sl vm 91 74 (bT ⟨aC X,N,0⟩ fr x).n.length (bM (bT ⟨aC X,N,0⟩ fr x).n)::.grp kn (λw9=>RdC w9 vo vx {X with M:=(bT ⟨aC X,N,0⟩ fr x).w.ml})::B9) w9):=by
 have hu1:=bI (hU _ (s.dropN 3))
 refine c7 Tryz.func114 rfl Tryz.ntmps114 rfl [(0,.pointer (some ⟨bc,0,none⟩)),(1,.int .i64 fr),(2,.agg (dP x.1 x.2.1 us x.2.2))] (by simp) λf h=>?_
 refine qr (aV (dP x.1 x.2.1 us x.2.2) h s rfl rfl rfl λf w1 b5 h s=>e9 ac 1 h rfl λf h=>bU ac 2 h rfl λf h=>ak 0 h s gk rfl rfl (co _ _ _ _) rfl λf h=>?_)
 replace s:=s.bring 3 rfl
 replace s:=s.bring 3 rfl
 replace s:=s.bring 3 rfl
 refine cM [.pointer (some ⟨bc,0,none⟩),.int .i64 fr,.agg (dP x.1 x.2.1 us x.2.2)] h X3 (zE vo vs vh vl vn X N kk bc _ fr x us _ _ s hMl h0 hxm hxl (by exact λw9 s9=>hU _ (s9.dropN 1))) rfl rfl ?_;rintro f w1 v13 ⟨rfl,vx,kn,s⟩ h
 refine e9 ac 5 h rfl λf h=>ah (bE ac 2 h rfl λf h=>bV h rfl (λhc=>?_) (λhc=>?_))
 ·have e0:¬ (dw X.M fr x.1 (db x.2.1))=0:=aG9 hc
  refine rs ac 3 h rfl λf h=>ai h (vz TK rfl (h.ev rfl) (h.ev rfl)) rfl λf h=>?_
  replace s:=s.bring 2 rfl
  replace s:=s.bring 2 rfl
  replace s:=s.bring 2 rfl
  refine cM [.pointer (some ⟨bc,0,none⟩),.agg (zG 5 0 fr 0 0 cr ByteArray.empty (dw X.M fr x.1 (db x.2.1)))] h KR (xd vo vs vh vx vn {X with M:=(IN X.M fr x.1 (db x.2.1))} N kn bc _ (A5 fr 0 (dw X.M fr x.1 (db x.2.1))) _ _ s (by omega)) rfl rfl ?_;rintro f w1 v22 ⟨vm,s⟩ h
  refine nt (bE ac 2 h rfl λf h=>aL3 (dK rfl h rfl (by replace s:=s.bring 2 rfl;replace s:=s.bring 2 rfl;replace s:=s.bring 2 rfl;exact ⟨_,rfl,by rw [(sP (W:=aC X) (N:=N) (z:=0) h0 e0).2.2];rfl,vx,vm,kn,by rw [(sP (W:=aC X) (N:=N) (z:=0) h0 e0).1,(sP (W:=aC X) (N:=N) (z:=0) h0 e0).2.1];rw [show IN X.M fr x.1 (db x.2.1)=X.M from (C8 e0).1] at s;rw [show IN (aC X).ml fr x.1 (db x.2.1)=X.M from (C8 e0).1];exact(s.pick _ (aG7 _ (aG7 _ (aG7 _ (aG8 _ (List.Sublist.refl _))))))⟩)))
 ·have e0:(dw X.M fr x.1 (db x.2.1))=0:=Decidable.of_not_not (aH0 hc)
  refine kt (bE ac 2 h rfl λf h=>aL3 (dK rfl h rfl (by replace s:=s.bring 2 rfl;replace s:=s.bring 2 rfl;replace s:=s.bring 2 rfl;exact ⟨_,rfl,by rw [(sT (W:=aC X) (N:=N) (z:=0) h0 e0).2.2];rfl,vx,vn,kn,by rw [(sT (W:=aC X) (N:=N) (z:=0) h0 e0).1,(sT (W:=aC X) (N:=N) (z:=0) h0 e0).2.1];exact(s.pick _ (aG7 _ (aG7 _ (aG7 _ (aG8 _ (List.Sublist.refl _))))))⟩)))
set_option maxHeartbeats 4000000 in
theorem C7 (vo vs vh vl vn:Value) (X:Wx) (kk:List Nat) (bc:Nat) (B9:List Own) (a:Ac) (va:Value)  (w0 w:World) (s:St w0 (.blk bc (.cells (gJ vo vs vh vl X.M.last X.M.now vn) 84)::.sl vs 54 3 X.S.length (a8 X.S)::.sl vh 68 5 X.H.length (bB X.H)::.sl vn 91 74 ([]:List Nt).length (bM ([]:List Nt))::.grp kk (λw9=>RdC w9 vo vl X)::B9) w) (hbd:BdW (aC X)) (hrt:bZ (aC X)=true) (hal:a.l.length<=1000) (hU:∀ w9,St w0 B9 w9->iJ w9 va a.l):Calls Tryz.prog 56 [.pointer (some ⟨bc,0,none⟩),.agg (bQ a va)].toArray w (λe w9=>∃ v,e=.returned v/\IS w0 bc 84 54 68 91 (pV (aC X) a) B9 v w9):=by
 have hbM:X.M.l.length<=100:=hbd.ml
 have hbH:=hbd.hx
 refine c7 Tryz.func56 rfl Tryz.ntmps56 rfl [(0,.pointer (some ⟨bc,0,none⟩)),(1,.agg (bQ a va))] (by simp) λf h=>?_
 refine qr (aV (bQ a va) h s rfl rfl rfl λf w1 b3 h s=>e9 ac 1 h rfl λf h=>ah ?_)
 cases l0:(decide ((df X a.no)<X.H.length):Bool)
 ·refine rs ac 2 h rfl λf h=>ag (V:=.int .i64 a.no) (ae (aJ.of_own s 0 rfl) 1 (vG _ _)) h bJ rfl rfl λf h=>dF h s CL (aR (.pointer none) (qO vo vs vh vl vn X.M.last X.M.now bc X.H a.no _ (gq.of_own s 1 rfl) (bs.of_own (s.getSl 3 rfl)) (λx hx=>⟨bI ((s.getG 5 rfl).hw x hx).1,bI ((s.getG 5 rfl).hw x hx).2.1,bI ((s.getG 5 rfl).hw x hx).2.2⟩) (by omega)) (uQ (aH0 l0))) rfl rfl λf w1 h s=>e9 ac 1 h rfl λf h=>ah (bU ac 1 h rfl λf h=>ai h (bz (.bool true) (gO aU7 (h.ev rfl) (h.ev rfl)) (rfl)) rfl λf h=>iY h rfl (bE ac 1 h rfl λf h=>rt (dK rfl h rfl (by replace s:=s.bring 5 rfl;replace s:=s.bring 5 rfl;replace s:=s.bring 5 rfl;replace s:=s.bring 5 rfl;replace s:=s.bring 5 rfl;exact ⟨_,rfl,kU (U5 (by rw [Hx (aH0 l0)];decide)) (by decide) (s.pick _ (aG7 _ (aG7 _ (aG7 _ (aG7 _ (aG7 _ (aG8 _ (List.Sublist.refl _))))))))⟩))))
 ·refine rs ac 2 h rfl λf h=>ag (V:=.int .i64 a.no) (ae (aJ.of_own s 0 rfl) 1 (vG _ _)) h bJ rfl rfl λf h=>dF h s CL (aR (.pointer (some (bO vh ((df X a.no)*5)))) (qO vo vs vh vl vn X.M.last X.M.now bc X.H a.no _ (gq.of_own s 1 rfl) (bs.of_own (s.getSl 3 rfl)) (λx hx=>⟨bI ((s.getG 5 rfl).hw x hx).1,bI ((s.getG 5 rfl).hw x hx).2.1,bI ((s.getG 5 rfl).hw x hx).2.2⟩) (by omega)) (sg (aG9 l0))) rfl rfl λf w1 h s=>e9 ac 1 h rfl λf h=>ah (qr ?_)
  have hix:=aG9 l0
  have hget:=P6 hix
  have hno:=Pv hix
  have hri:=Np hrt hix
  have hge:¬ (fQ (aC X) a.no).no<0:=by rw [hget];have:=(Lj.1 hri).no;omega
  refine am ac 1 h rfl λf h=>ai h (bz (.bool false) (gO aU7 (h.ev rfl) (h.ev rfl)) (rfl)) rfl λf h=>gS h rfl (ah (m7 (γ:=List Nat × Value) 0 19 [[],[0],[0,1],[],[3],[],[5],[],[7],[7,8],[7,8,9],[7,8,9,10],[7,8,9,10,11],[0,1,2,3,4,5,6,7,8,9,10,11,12],[0,1,2,3,4,5,6,7,8,9,10,11,12,13],[0,1,2,3,4,5,6,7,8,9,10,11,12,13,14],[0,1,2,3,4,5,6,7,8,9,10,11,12,13,14],[],[0,1,2,3,4,5,6,7,8,9,10,11,12,13,14,15,17],[0,1,2,3,4,5,6,7,8,9,10,11,12,13,14,15,16,17,18]] [[],[],[],[],[],[],[],[],[],[],[],[],[],[],[],[],[],[],[17],[]] [] [.v _,.v _,.v (.agg (ca (X.H.getD (df X a.no) bX).1.no (X.H.getD (df X a.no) bX).1.gt (X.H.getD (df X a.no) bX).2.1 (X.H.getD (df X a.no) bX).2.2.1 (X.H.getD (df X a.no) bX).2.2.2)),.v _,.v va,.v _,.v (.string a.d),.v _,.v _,.v _,.v _,.v _,.v (.int .i64 X.M.now),.r (λv=>[.grp (v 13).2.1 (λw9=>iJ w9 va a.l->iJ w9 (g7 (v 13).2.2) (dM (X.H.getD (df X a.no) bX).1 a.l a.d X.M.now).2.1.l)]) (λv=>(v 13).1=.tuple #[.agg (dP (dM (X.H.getD (df X a.no) bX).1 a.l a.d X.M.now).1 (dM (X.H.getD (df X a.no) bX).1 a.l a.d X.M.now).2.1 (g7 (v 13).2.2) (dM (X.H.getD (df X a.no) bX).1 a.l a.d X.M.now).2.2),.int .i64 (oA (X.H.getD (df X a.no) bX).1 a.l a.d X.M.now)]),.f (λv=>(v 14).1=.tuple #[.agg (dP (dM (X.H.getD (df X a.no) bX).1 a.l a.d X.M.now).1 (dM (X.H.getD (df X a.no) bX).1 a.l a.d X.M.now).2.1 (g7 (v 13).2.2) (dM (X.H.getD (df X a.no) bX).1 a.l a.d X.M.now).2.2),.int .i64 (oA (X.H.getD (df X a.no) bX).1 a.l a.d X.M.now)]),.f (λv=>(v 15).1=.agg (dP (dM (X.H.getD (df X a.no) bX).1 a.l a.d X.M.now).1 (dM (X.H.getD (df X a.no) bX).1 a.l a.d X.M.now).2.1 (g7 (v 13).2.2) (dM (X.H.getD (df X a.no) bX).1 a.l a.d X.M.now).2.2)),.v (.int .i64 (oA (X.H.getD (df X a.no) bX).1 a.l a.d X.M.now)),.q (λv=>[.blk (vV (v 17).1) (.cells (dP 0 mZ ax cr) 186)]),.m (λv=>[.blk (vV (v 17).1) (.cells (dP (dM (X.H.getD (df X a.no) bX).1 a.l a.d X.M.now).1 (dM (X.H.getD (df X a.no) bX).1 a.l a.d X.M.now).2.1 (g7 (v 13).2.2) (dM (X.H.getD (df X a.no) bX).1 a.l a.d X.M.now).2.2) 186)]),.n] _ h s rfl (by kernel_rfl) (by kernel_rfl) (by kernel_rfl) (jo ac h rfl rfl rfl (jo ac h rfl rfl rfl (cm ?_ (jo ac h rfl rfl rfl (cm ?_ (jo ac h rfl rfl rfl (cm ?_ (jo ac h rfl rfl rfl (jo ac h rfl rfl rfl (jo ac h rfl rfl rfl (jo ac h rfl rfl rfl (jo ac h rfl rfl rfl (cm ?_ (cm ?_ (cm ?_ (cm ?_ (cm ?_ (cm ?_ (cm ?_ (trivial)))))))))))))))))))) [0,1,2,3,4,5,6,7,8,9,10,11,12,13,14,15,16,18] (by kernel_rfl) ?_))
  ·intro f9 w2 vl4 E9 hs9 hd9 hl hF s
   have h:=cq [(17,_)] h hs9 hd9 ⟨a7 hl 17 1 (by kernel_rfl) (hF 1 (by decide)),trivial⟩
   refine ap ((bs.of_own (s.getSl 3 rfl)).el ((df X a.no)) (by omega) (by decide) (D:=ca (X.H.getD (df X a.no) bX).1.no (X.H.getD (df X a.no) bX).1.gt (X.H.getD (df X a.no) bX).2.1 (X.H.getD (df X a.no) bX).2.2.1 (X.H.getD (df X a.no) bX).2.2.2) (Bi _ _ hix)) h gc rfl (bG _ _ _ _ _) rfl λf h=>az ⟨(_,default),br 18 h rfl rfl,rfl,s⟩
  ·intro f9 w2 vl4 E9 hs9 hd9 hl hF s
   have h:=cq [(19,_)] h hs9 hd9 ⟨a7 hl 19 3 (by kernel_rfl) (hF 3 (by decide)),trivial⟩
   refine ag (V:=va) (ae (aJ.of_own s 0 rfl) 36 (WV _ _)) h jA rfl rfl λf h=>az ⟨(_,default),br 20 h rfl rfl,rfl,s⟩
  ·intro f9 w2 vl4 E9 hs9 hd9 hl hF s
   have h:=cq [(21,_)] h hs9 hd9 ⟨a7 hl 21 5 (by kernel_rfl) (hF 5 (by decide)),trivial⟩
   refine ag (V:=.string a.d) (ae (aJ.of_own s 0 rfl) 37 (H7 _ _)) h jv rfl rfl λf h=>az ⟨(_,default),br 22 h rfl rfl,rfl,s⟩
  ·intro f9 w2 vl4 E9 hs9 hd9 hl hF s
   have h:=cq [(27,_)] h hs9 hd9 ⟨a7 hl 27 11 (by kernel_rfl) (hF 11 (by decide)),trivial⟩
   refine ag (V:=.int .i64 X.M.now) (ae (aJ.of_own s 1 rfl) 5 (TH _ _ _ _ _ _ _)) h bJ rfl rfl λf h=>az ⟨(_,default),br 28 h rfl rfl,rfl,s⟩
  ·intro f9 w2 vl4 E9 hs9 hd9 hl hF s
   have h:=cq [(18,_),(20,_),(22,_),(28,_)] h hs9 hd9 ⟨a7 hl 18 2 (by kernel_rfl) (hF 2 (by decide)),a7 hl 20 4 (by kernel_rfl) (hF 4 (by decide)),a7 hl 22 6 (by kernel_rfl) (hF 6 (by decide)),a7 hl 28 12 (by kernel_rfl) (hF 12 (by decide)),trivial⟩
   have hua:=(hU _ ((s.dropN 6).pick _ (List.sublist_append_left _ _)))
   refine aY h s UR (H6 (X.H.getD (df X a.no) bX).1 (X.H.getD (df X a.no) bX).2.1 (X.H.getD (df X a.no) bX).2.2.1 (X.H.getD (df X a.no) bX).2.2.2 a.l va a.d X.M.now _ ((s.getG 5 rfl).hw _ (eB hix)) (hbd.he hix) hua hal) rfl rfl ?_;rintro f w1 v29 ⟨us,ks,hv29,hG⟩ hE h sq;replace s:=s.add hG;clear hG
   have p1:=ot ((s.getG 0 rfl) (bs.keep hua hE))
   replace s:=s.weak (S':=λw9=>iJ w9 va a.l->iJ w9 (g7 us) (dM (X.H.getD (df X a.no) bX).1 a.l a.d X.M.now).2.1.l) (λw9 b=>by rw [p1];exact b)
   rw [← p1] at hv29
   exact az ⟨(_,(ks,us)),br 29 h rfl rfl,hv29,s⟩
  ·intro f9 w2 vl4 E9 hs9 hd9 hl hF s
   have h:=cq [(29,_)] h hs9 hd9 ⟨a7 hl 29 13 (by kernel_rfl) (hF 13 (by decide)),trivial⟩
   refine am ac 1 h rfl λf h=>az ⟨(_,default),br 15 h rfl rfl,rfl,s⟩
  ·intro f9 w2 vl4 E9 hs9 hd9 hl hF s
   have h:=cq [(15,_)] h hs9 hd9 ⟨a7 hl 15 14 (by kernel_rfl) (hF 14 (by decide)),trivial⟩
   refine am ac 1 h rfl λf h=>az ⟨(_,default),br 30 h rfl rfl,rfl,s⟩
  ·intro f9 w2 vl4 E9 hs9 hd9 hl hF s
   have h:=cq [(15,_)] h hs9 hd9 ⟨a7 hl 15 14 (by kernel_rfl) (hF 14 (by decide)),trivial⟩
   refine am ac 1 h rfl λf h=>az ⟨(_,default),br 31 h rfl rfl,rfl,s⟩
  ·intro f9 w2 vl4 E9 hs9 hd9 hl hF s
   have h:=ia [] (hs9.trans h.size) (hd9.trans h.defers) (holds_lk trivial)
   refine aK (dP 0 mZ ax cr) h s F6 rfl rfl λf w1 b6 h s=>az ⟨(_,default),br 6 h rfl rfl,⟨_,rfl⟩,s⟩
  ·intro f9 w2 vl4 E9 hs9 hd9 hl hF s
   obtain ⟨b6,hb6⟩:∃ b,(vl4 17).1=.pointer (some ⟨b,0,none⟩):=hF 17 (by decide)
   have h:=cq [(6,_),(30,_)] h hs9 hd9 ⟨(ff hl 6 17 (by kernel_rfl) (by kernel_rfl)).trans hb6,a7 hl 30 15 (by kernel_rfl) (hF 15 (by decide)),trivial⟩
   replace s:=s.pbi 0 hb6 rfl
   refine al 0 h s gk rfl rfl rfl (co _ _ _ _) (co _ _ _ _) (gH _ _ _ (jW _)) λw1 s=>az ⟨(undef,default),gV rfl,trivial,s.pbj 0 hb6 rfl⟩
  intro f w1 vl4 hs9 hd9 hv hr hF s
  replace hv:=λi d h9=>hv i d (show Nat.blt i 19=true from h9)
  obtain ⟨b6,hb6⟩:∃ b,(vl4 17).1=.pointer (some ⟨b,0,none⟩):=hF 17 (by kernel_rfl)
  replace h:=ew 19 (ops:=_) [(16,_),(17,_),(18,_),(19,_),(20,_),(21,_),(22,_),(23,_),(24,_),(25,_),(26,_),(27,_),(28,_),(29,.tuple #[.agg (dP (dM (X.H.getD (df X a.no) bX).1 a.l a.d X.M.now).1 (dM (X.H.getD (df X a.no) bX).1 a.l a.d X.M.now).2.1 (g7 (vl4 13).2.2) (dM (X.H.getD (df X a.no) bX).1 a.l a.d X.M.now).2.2),.int .i64 (oA (X.H.getD (df X a.no) bX).1 a.l a.d X.M.now)]),(15,.tuple #[.agg (dP (dM (X.H.getD (df X a.no) bX).1 a.l a.d X.M.now).1 (dM (X.H.getD (df X a.no) bX).1 a.l a.d X.M.now).2.1 (g7 (vl4 13).2.2) (dM (X.H.getD (df X a.no) bX).1 a.l a.d X.M.now).2.2),.int .i64 (oA (X.H.getD (df X a.no) bX).1 a.l a.d X.M.now)]),(30,.agg (dP (dM (X.H.getD (df X a.no) bX).1 a.l a.d X.M.now).1 (dM (X.H.getD (df X a.no) bX).1 a.l a.d X.M.now).2.1 (g7 (vl4 13).2.2) (dM (X.H.getD (df X a.no) bX).1 a.l a.d X.M.now).2.2)),(31,_),(6,.pointer (some ⟨b6,0,none⟩))] h hs9 hd9 hr ⟨(hv 0 16 rfl rfl).trans (hF 0 rfl),(hv 1 17 rfl rfl).trans (hF 1 rfl),(hv 2 18 rfl rfl).trans (hF 2 rfl),(hv 3 19 rfl rfl).trans (hF 3 rfl),(hv 4 20 rfl rfl).trans (hF 4 rfl),(hv 5 21 rfl rfl).trans (hF 5 rfl),(hv 6 22 rfl rfl).trans (hF 6 rfl),(hv 7 23 rfl rfl).trans (hF 7 rfl),(hv 8 24 rfl rfl).trans (hF 8 rfl),(hv 9 25 rfl rfl).trans (hF 9 rfl),(hv 10 26 rfl rfl).trans (hF 10 rfl),(hv 11 27 rfl rfl).trans (hF 11 rfl),(hv 12 28 rfl rfl).trans (hF 12 rfl),(hv 13 29 rfl rfl).trans (hF 13 rfl),(hv 14 15 rfl rfl).trans (hF 14 rfl),(hv 15 30 rfl rfl).trans (hF 15 rfl),(hv 16 31 rfl rfl).trans (hF 16 rfl),(hv 17 6 rfl rfl).trans hb6,trivial⟩ (by kernel_rfl)
  replace s:St w0 (.grp (vl4 13).2.1 (λw9=>iJ w9 va a.l->iJ w9 (g7 (vl4 13).2.2) (dM (X.H.getD (df X a.no) bX).1 a.l a.d X.M.now).2.1.l)::.blk (vV (vl4 17).1) (.cells (dP (dM (X.H.getD (df X a.no) bX).1 a.l a.d X.M.now).1 (dM (X.H.getD (df X a.no) bX).1 a.l a.d X.M.now).2.1 (g7 (vl4 13).2.2) (dM (X.H.getD (df X a.no) bX).1 a.l a.d X.M.now).2.2) 186)::.blk b3 (.cells (bQ a va) 45)::.blk bc (.cells (gJ vo vs vh vl X.M.last X.M.now vn) 84)::.sl vs 54 3 X.S.length (a8 X.S)::.sl vh 68 5 X.H.length (bB X.H)::.sl vn 91 74 ([]:List Nt).length (bM ([]:List Nt))::(.grp kk (λw9=>RdC w9 vo vl X))::B9) _:=s
  replace s:=s.pbi 1 hb6 rfl
  refine e9 ac 1 h rfl λf h=>ah (bE ac 2 h rfl λf h=>bV h rfl (λhc=>?_) (λhc=>?_))
  ·have e0:¬ (oA (X.H.getD (df X a.no) bX).1 a.l a.d X.M.now)=0:=aG9 hc
   refine bE ac 2 h rfl λf h=>rt (dK rfl h rfl (by replace s:=s.bring 7 rfl;replace s:=s.bring 7 rfl;replace s:=s.bring 7 rfl;replace s:=s.bring 7 rfl;replace s:=s.bring 7 rfl;exact ⟨_,rfl,kU (R:=pV (aC X) a) ((WK hge (by rw [hget];exact e0)).trans (by rw [hget];rfl)) e0 (s.pick _ (aG7 _ (aG7 _ (aG7 _ (aG7 _ (aG7 _ (aG8 _ (aG8 _ (aG8 _ (List.Sublist.refl _))))))))))⟩))
  ·have e0:(oA (X.H.getD (df X a.no) bX).1 a.l a.d X.M.now)=0:=Decidable.of_not_not (aH0 hc)
   refine kt (ah (ah ?_))
   have hno15:=(Lj.1 hri).no
   have hxx:=aj0 e0
   have hx0:0<=(dM (X.H.getD (df X a.no) bX).1 a.l a.d X.M.now).1:=by rw [hxx];exact(SB hri _ _).1
   have hxm:ey (dM (X.H.getD (df X a.no) bX).1 a.l a.d X.M.now).2.1=true:=by rw [hxx];exact Js e0
   have hxl:(dM (X.H.getD (df X a.no) bX).1 a.l a.d X.M.now).2.1.l.length<=1000:=by rw [hxx];exact hal
   replace s:=s.bring 7 rfl
   replace s:=s.bring 7 rfl
   replace s:=s.bring 5 rfl
   replace s:=St.tie9 [.blk bc (.cells (gJ vo vs vh vl X.M.last X.M.now vn) 84),.sl vn 91 74 ([]:List Nt).length (bM ([]:List Nt)),(.grp kk (λw9=>RdC w9 vo vl X))] s
   refine m7 (γ:=Value × Value × List Nat) 1 8 [[],[],[1],[1,2],[1,2,3],[1,2,3,4],[],[0,1,2,3,4,5,6],[0,1,2,3,4,5,6,7]] [[],[],[],[],[],[],[],[9],[]] [[_]] [.v _,.v _,.v _,.v (.pointer (some (bO vh ((df X a.no)*5+0)))),.v (.int .i64 a.no),.v (.int .i64 (16+a.no)),.v (.agg (dP (dM (X.H.getD (df X a.no) bX).1 a.l a.d X.M.now).1 (dM (X.H.getD (df X a.no) bX).1 a.l a.d X.M.now).2.1 (g7 (vl4 13).2.2) (dM (X.H.getD (df X a.no) bX).1 a.l a.d X.M.now).2.2)),.w (λv=>[Own.tie9 w0 [.blk bc (.cells (gJ vo vs vh (v 7).2.1 (bT ⟨aC X,[],0⟩ (16+a.no) (dM (X.H.getD (df X a.no) bX).1 a.l a.d X.M.now)).w.ml.last (bT ⟨aC X,[],0⟩ (16+a.no) (dM (X.H.getD (df X a.no) bX).1 a.l a.d X.M.now)).w.ml.now (v 7).2.2.1) 84),.sl (v 7).2.2.1 91 74 (bT ⟨aC X,[],0⟩ (16+a.no) (dM (X.H.getD (df X a.no) bX).1 a.l a.d X.M.now)).n.length (bM (bT ⟨aC X,[],0⟩ (16+a.no) (dM (X.H.getD (df X a.no) bX).1 a.l a.d X.M.now)).n),.grp (v 7).2.2.2 (λw9=>RdC w9 vo (v 7).2.1 {X with M:=(bT ⟨aC X,[],0⟩ (16+a.no) (dM (X.H.getD (df X a.no) bX).1 a.l a.d X.M.now)).w.ml})]]) (.int .i64 (bT ⟨aC X,[],0⟩ (16+a.no) (dM (X.H.getD (df X a.no) bX).1 a.l a.d X.M.now)).no),.n] _ h s rfl (by kernel_rfl) (by kernel_rfl) (by kernel_rfl) (jo ac h rfl rfl rfl (jo ac h rfl rfl rfl (jo ac h rfl rfl rfl (cm ?_ (cm ?_ (cm ?_ (cm ?_ (cm ?_ (trivial))))))))) [0,1,2,3,4,5,6,7] (by kernel_rfl) ?_
   ·intro f9 w2 vl7 E9 hs9 hd9 hl hF s
    have h:=cq [(37,_)] h hs9 hd9 ⟨a7 hl 37 2 (by kernel_rfl) (hF 2 (by decide)),trivial⟩
    refine ai h (bq sD (h.ev rfl) ((bs.of_own (s.getSl 4 rfl)).some (by omega))) rfl λf h=>az ⟨(_,default),br 38 h rfl rfl,rfl,s⟩
   ·intro f9 w2 vl7 E9 hs9 hd9 hl hF s
    have h:=cq [(38,_)] h hs9 hd9 ⟨a7 hl 38 3 (by kernel_rfl) (hF 3 (by decide)),trivial⟩
    refine ag (V:=.int .i64 a.no) (er (bs.of_own (s.getSl 4 rfl)) ((df X a.no)*5+0) ((MG hix).trans (by rw [hno]))) h bJ rfl rfl λf h=>az ⟨(_,default),br 39 h rfl rfl,rfl,s⟩
   ·intro f9 w2 vl7 E9 hs9 hd9 hl hF s
    have h:=cq [(39,_)] h hs9 hd9 ⟨a7 hl 39 4 (by kernel_rfl) (hF 4 (by decide)),trivial⟩
    refine dF h s X6 (HB a.no (by omega) _) rfl rfl λf w1 h s=>az ⟨(_,default),br 40 h rfl rfl,rfl,s⟩
   ·intro f9 w2 vl7 E9 hs9 hd9 hl hF s
    have h:=cq [(6,_)] h hs9 hd9 ⟨fu hl 6 (by kernel_rfl) (h.holds 6 _ rfl),trivial⟩
    refine ak 1 h s gk rfl rfl (co _ _ _ _) rfl λf h=>az ⟨(_,default),br 41 h rfl rfl,rfl,s⟩
   ·intro f9 w2 vl7 E9 hs9 hd9 hl hF s
    have h:=cq [(35,_),(40,_),(41,_)] h hs9 hd9 ⟨a7 hl 35 0 (by kernel_rfl) (hF 0 (by decide)),a7 hl 40 5 (by kernel_rfl) (hF 5 (by decide)),a7 hl 41 6 (by kernel_rfl) (hF 6 (by decide)),trivial⟩
    replace s:=s.untie9
    refine cM [.pointer (some ⟨bc,0,none⟩),.int .i64 (16+a.no),.agg (dP (dM (X.H.getD (df X a.no) bX).1 a.l a.d X.M.now).1 (dM (X.H.getD (df X a.no) bX).1 a.l a.d X.M.now).2.1 (g7 (vl4 13).2.2) (dM (X.H.getD (df X a.no) bX).1 a.l a.d X.M.now).2.2)] h WD (G5 vo vs vh vl vn X [] kk bc _ (16+a.no) (dM (X.H.getD (df X a.no) bX).1 a.l a.d X.M.now) (g7 (vl4 13).2.2) _ _ s (by omega) hx0 hxm hxl (by exact λw9 s9=>(s9.getG 0 rfl) (hU _ ((s9.dropN 5).pick _ (List.sublist_append_left _ _)))) (aJ3 _)) rfl rfl ?_;rintro f w1 v42 ⟨rfl,vx,vm,kn,s⟩ h
    replace s:=St.tie9 [.blk bc (.cells (gJ vo vs vh vx (bT ⟨aC X,[],0⟩ (16+a.no) (dM (X.H.getD (df X a.no) bX).1 a.l a.d X.M.now)).w.ml.last (bT ⟨aC X,[],0⟩ (16+a.no) (dM (X.H.getD (df X a.no) bX).1 a.l a.d X.M.now)).w.ml.now vm) 84),.sl vm 91 74 (bT ⟨aC X,[],0⟩ (16+a.no) (dM (X.H.getD (df X a.no) bX).1 a.l a.d X.M.now)).n.length (bM (bT ⟨aC X,[],0⟩ (16+a.no) (dM (X.H.getD (df X a.no) bX).1 a.l a.d X.M.now)).n),.grp kn (λw9=>RdC w9 vo vx {X with M:=(bT ⟨aC X,[],0⟩ (16+a.no) (dM (X.H.getD (df X a.no) bX).1 a.l a.d X.M.now)).w.ml})] s
    exact az ⟨(_,(vx,vm,kn)),br 42 h rfl rfl,rfl,s⟩
   intro f w1 vl7 hs9 hd9 hv hr hF s
   replace hv:=λi d h9=>hv i d (show Nat.blt i 8=true from h9)
   replace h:=ew 8 (ops:=_) [(35,_),(36,_),(37,_),(38,_),(39,_),(40,_),(41,_),(42,_)] h hs9 hd9 hr ⟨(hv 0 35 rfl rfl).trans (hF 0 rfl),(hv 1 36 rfl rfl).trans (hF 1 rfl),(hv 2 37 rfl rfl).trans (hF 2 rfl),(hv 3 38 rfl rfl).trans (hF 3 rfl),(hv 4 39 rfl rfl).trans (hF 4 rfl),(hv 5 40 rfl rfl).trans (hF 5 rfl),(hv 6 41 rfl rfl).trans (hF 6 rfl),(hv 7 42 rfl rfl).trans (hF 7 rfl),trivial⟩ (by kernel_rfl)
   replace s:St w0 (Own.tie9 w0 [.blk bc (.cells (gJ vo vs vh (vl7 7).2.1 (bT ⟨aC X,[],0⟩ (16+a.no) (dM (X.H.getD (df X a.no) bX).1 a.l a.d X.M.now)).w.ml.last (bT ⟨aC X,[],0⟩ (16+a.no) (dM (X.H.getD (df X a.no) bX).1 a.l a.d X.M.now)).w.ml.now (vl7 7).2.2.1) 84),.sl (vl7 7).2.2.1 91 74 (bT ⟨aC X,[],0⟩ (16+a.no) (dM (X.H.getD (df X a.no) bX).1 a.l a.d X.M.now)).n.length (bM (bT ⟨aC X,[],0⟩ (16+a.no) (dM (X.H.getD (df X a.no) bX).1 a.l a.d X.M.now)).n),.grp (vl7 7).2.2.2 (λw9=>RdC w9 vo (vl7 7).2.1 {X with M:=(bT ⟨aC X,[],0⟩ (16+a.no) (dM (X.H.getD (df X a.no) bX).1 a.l a.d X.M.now)).w.ml})]::(.grp (vl4 13).2.1 (λw9=>iJ w9 va a.l->iJ w9 (g7 (vl4 13).2.2) (dM (X.H.getD (df X a.no) bX).1 a.l a.d X.M.now).2.1.l))::.blk b6 (.cells (dP (dM (X.H.getD (df X a.no) bX).1 a.l a.d X.M.now).1 (dM (X.H.getD (df X a.no) bX).1 a.l a.d X.M.now).2.1 (g7 (vl4 13).2.2) (dM (X.H.getD (df X a.no) bX).1 a.l a.d X.M.now).2.2) 186)::.blk b3 (.cells (bQ a va) 45)::.sl vs 54 3 X.S.length (a8 X.S)::.sl vh 68 5 X.H.length (bB X.H)::B9) _:=s
   refine am ac 1 h rfl λf h=>az ?_
   obtain ⟨vx,hvx⟩:∃ z,z=(vl7 7).2.1:=⟨_,rfl⟩
   obtain ⟨vm,hvm⟩:∃ z,z=(vl7 7).2.2.1:=⟨_,rfl⟩
   obtain ⟨kn,hkn⟩:∃ z,z=(vl7 7).2.2.2:=⟨_,rfl⟩
   rw [← hvx,← hvm,← hkn] at s
   replace s:=s.untie9
   refine aD (qr ?_)
   have hpg:=Nr (N:=[]) (fr:=16+a.no) hx0 (I4 hrt)
   have hsp:lK (aC X) a=(bT ⟨aC X,[],0⟩ (16+a.no) (dM (X.H.getD (df X a.no) bX).1 a.l a.d X.M.now)):=by unfold lK;rw [hget,hxx];rfl
   refine am ac 1 h rfl λf h=>gW ac (.bool (decide (0<(bT ⟨aC X,[],0⟩ (16+a.no) (dM (X.H.getD (df X a.no) bX).1 a.l a.d X.M.now)).no))) h rfl (aH3 Value.bool (aI3.2 (by omega))) rfl λf h=>nt (bV h rfl (λhc=>?_) (λhc=>?_))
   ·have hp9:0<(bT ⟨aC X,[],0⟩ (16+a.no) (dM (X.H.getD (df X a.no) bX).1 a.l a.d X.M.now)).no:=aG9 hc
    have hnl:(bT ⟨aC X,[],0⟩ (16+a.no) (dM (X.H.getD (df X a.no) bX).1 a.l a.d X.M.now)).n.length<=100000:=aM5 (Px hx0) (by decide)
    replace s:=s.bring 2 rfl
    replace s:=s.bring 2 rfl
    replace s:=s.bring 2 rfl
    replace s:=St.tie9 [.blk bc (.cells (gJ vo vs vh vx (bT ⟨aC X,[],0⟩ (16+a.no) (dM (X.H.getD (df X a.no) bX).1 a.l a.d X.M.now)).w.ml.last (bT ⟨aC X,[],0⟩ (16+a.no) (dM (X.H.getD (df X a.no) bX).1 a.l a.d X.M.now)).w.ml.now vm) 84),.sl vm 91 74 (bT ⟨aC X,[],0⟩ (16+a.no) (dM (X.H.getD (df X a.no) bX).1 a.l a.d X.M.now)).n.length (bM (bT ⟨aC X,[],0⟩ (16+a.no) (dM (X.H.getD (df X a.no) bX).1 a.l a.d X.M.now)).n),(.grp kn (λw9=>RdC w9 vo vx {X with M:=(bT ⟨aC X,[],0⟩ (16+a.no) (dM (X.H.getD (df X a.no) bX).1 a.l a.d X.M.now)).w.ml}))] s
    refine Em (γ:=Value) 1 [[],[],[1],[1,2],[1,2,3],[],[],[6],[1,2,3,4,5,6,7],[0,1,2,3,4,5,6,7,8]] [[],[],[],[],[],[],[],[],[],[10]] [[_]] [.v _,.v _,.v _,.v (.pointer (some (bO vh ((df X a.no)*5+0)))),.v (.int .i64 a.no),.v _,.v _,.v (.string a.d),.v (.agg (zG 1 0 a.no 0 (bT ⟨aC X,[],0⟩ (16+a.no) (dM (X.H.getD (df X a.no) bX).1 a.l a.d X.M.now)).no cr a.d 0)),.m (λv=>[Own.tie9 w0 [.blk bc (.cells (gJ vo vs vh vx (bT ⟨aC X,[],0⟩ (16+a.no) (dM (X.H.getD (df X a.no) bX).1 a.l a.d X.M.now)).w.ml.last (bT ⟨aC X,[],0⟩ (16+a.no) (dM (X.H.getD (df X a.no) bX).1 a.l a.d X.M.now)).w.ml.now (v 9).2) 84),.sl (v 9).2 91 74 ((bT ⟨aC X,[],0⟩ (16+a.no) (dM (X.H.getD (df X a.no) bX).1 a.l a.d X.M.now)).n++[({(uS a.no (bT ⟨aC X,[],0⟩ (16+a.no) (dM (X.H.getD (df X a.no) bX).1 a.l a.d X.M.now)).no a.d) with tm:=(bT ⟨aC X,[],0⟩ (16+a.no) (dM (X.H.getD (df X a.no) bX).1 a.l a.d X.M.now)).w.ml.now}:Nt)]).length (bM ((bT ⟨aC X,[],0⟩ (16+a.no) (dM (X.H.getD (df X a.no) bX).1 a.l a.d X.M.now)).n++[({(uS a.no (bT ⟨aC X,[],0⟩ (16+a.no) (dM (X.H.getD (df X a.no) bX).1 a.l a.d X.M.now)).no a.d) with tm:=(bT ⟨aC X,[],0⟩ (16+a.no) (dM (X.H.getD (df X a.no) bX).1 a.l a.d X.M.now)).w.ml.now}:Nt)])),.grp kn (λw9=>RdC w9 vo vx {X with M:=(bT ⟨aC X,[],0⟩ (16+a.no) (dM (X.H.getD (df X a.no) bX).1 a.l a.d X.M.now)).w.ml})]])] _ h s rfl (by kernel_rfl) (by kernel_rfl) (by kernel_rfl) (jo ac h rfl rfl rfl (jo ac h rfl rfl rfl (jo ac h rfl rfl rfl (cm ?_ (cm ?_ (jo ac h rfl rfl rfl (jo ac h rfl rfl rfl (cm ?_ (cm ?_ (cm ?_ (trivial))))))))))) [0,1,2,3,4,5,6,7,8,9] (by kernel_rfl) ?_
    ·intro f9 w2 vl9 E9 hs9 hd9 hl hF s
     have h:=cq [(47,_)] h hs9 hd9 ⟨a7 hl 47 2 (by kernel_rfl) (hF 2 (by decide)),trivial⟩
     refine ai h (bq sD (h.ev rfl) ((bs.of_own (s.getSl 4 rfl)).some (by omega))) rfl λf h=>az ⟨(_,default),br 48 h rfl rfl,rfl,s⟩
    ·intro f9 w2 vl9 E9 hs9 hd9 hl hF s
     have h:=cq [(48,_)] h hs9 hd9 ⟨a7 hl 48 3 (by kernel_rfl) (hF 3 (by decide)),trivial⟩
     refine ag (V:=.int .i64 a.no) (er (bs.of_own (s.getSl 4 rfl)) ((df X a.no)*5+0) ((MG hix).trans (by rw [hno]))) h bJ rfl rfl λf h=>az ⟨(_,default),br 49 h rfl rfl,rfl,s⟩
    ·intro f9 w2 vl9 E9 hs9 hd9 hl hF s
     have h:=cq [(51,_)] h hs9 hd9 ⟨a7 hl 51 6 (by kernel_rfl) (hF 6 (by decide)),trivial⟩
     refine ag (V:=.string a.d) (ae (aJ.of_own s 2 rfl) 37 (H7 _ _)) h jv rfl rfl λf h=>az ⟨(_,default),br 52 h rfl rfl,rfl,s⟩
    ·intro f9 w2 vl9 E9 hs9 hd9 hl hF s
     have h:=cq [(49,_),(50,_),(52,_)] h hs9 hd9 ⟨a7 hl 49 4 (by kernel_rfl) (hF 4 (by decide)),a7 hl 50 5 (by kernel_rfl) (hF 5 (by decide)),a7 hl 52 7 (by kernel_rfl) (hF 7 (by decide)),trivial⟩
     refine ai h (sS TK rfl (h.ev rfl) (h.ev rfl) (h.ev rfl)) rfl λf h=>az ⟨(_,default),br 53 h rfl rfl,rfl,s⟩
    ·intro f9 w2 vl9 E9 hs9 hd9 hl hF s
     have h:=cq [(45,_),(53,_)] h hs9 hd9 ⟨a7 hl 45 0 (by kernel_rfl) (hF 0 (by decide)),a7 hl 53 8 (by kernel_rfl) (hF 8 (by decide)),trivial⟩
     replace s:=s.untie9
     refine cM [.pointer (some ⟨bc,0,none⟩),.agg (zG 1 0 a.no 0 (bT ⟨aC X,[],0⟩ (16+a.no) (dM (X.H.getD (df X a.no) bX).1 a.l a.d X.M.now)).no cr a.d 0)] h KR (xd vo vs vh vx vm {X with M:=(bT ⟨aC X,[],0⟩ (16+a.no) (dM (X.H.getD (df X a.no) bX).1 a.l a.d X.M.now)).w.ml} (bT ⟨aC X,[],0⟩ (16+a.no) (dM (X.H.getD (df X a.no) bX).1 a.l a.d X.M.now)).n kn bc _ (uS a.no (bT ⟨aC X,[],0⟩ (16+a.no) (dM (X.H.getD (df X a.no) bX).1 a.l a.d X.M.now)).no a.d) _ _ s hnl) rfl rfl ?_;rintro f w1 v54 ⟨vq,s⟩ h
     replace s:=St.tie9 [.blk bc (.cells (gJ vo vs vh vx (bT ⟨aC X,[],0⟩ (16+a.no) (dM (X.H.getD (df X a.no) bX).1 a.l a.d X.M.now)).w.ml.last (bT ⟨aC X,[],0⟩ (16+a.no) (dM (X.H.getD (df X a.no) bX).1 a.l a.d X.M.now)).w.ml.now vq) 84),.sl vq 91 74 ((bT ⟨aC X,[],0⟩ (16+a.no) (dM (X.H.getD (df X a.no) bX).1 a.l a.d X.M.now)).n++[({(uS a.no (bT ⟨aC X,[],0⟩ (16+a.no) (dM (X.H.getD (df X a.no) bX).1 a.l a.d X.M.now)).no a.d) with tm:=(bT ⟨aC X,[],0⟩ (16+a.no) (dM (X.H.getD (df X a.no) bX).1 a.l a.d X.M.now)).w.ml.now}:Nt)]).length (bM ((bT ⟨aC X,[],0⟩ (16+a.no) (dM (X.H.getD (df X a.no) bX).1 a.l a.d X.M.now)).n++[({(uS a.no (bT ⟨aC X,[],0⟩ (16+a.no) (dM (X.H.getD (df X a.no) bX).1 a.l a.d X.M.now)).no a.d) with tm:=(bT ⟨aC X,[],0⟩ (16+a.no) (dM (X.H.getD (df X a.no) bX).1 a.l a.d X.M.now)).w.ml.now}:Nt)])),.grp kn (λw9=>RdC w9 vo vx {X with M:=(bT ⟨aC X,[],0⟩ (16+a.no) (dM (X.H.getD (df X a.no) bX).1 a.l a.d X.M.now)).w.ml})] s
     exact az ⟨(_,vq),br 54 h rfl rfl,trivial,s⟩
    intro f w1 vl9 hs9 hd9 hv hr hF s
    replace h:=wu (ops:=_) [(45,_),(46,_),(47,_),(48,_),(49,_),(50,_),(51,_),(52,_),(53,_),(54,(vl9 9).1)] h hs9 hd9 hr ⟨(hv 0 45 rfl).trans (hF 0 rfl),(hv 1 46 rfl).trans (hF 1 rfl),(hv 2 47 rfl).trans (hF 2 rfl),(hv 3 48 rfl).trans (hF 3 rfl),(hv 4 49 rfl).trans (hF 4 rfl),(hv 5 50 rfl).trans (hF 5 rfl),(hv 6 51 rfl).trans (hF 6 rfl),(hv 7 52 rfl).trans (hF 7 rfl),(hv 8 53 rfl).trans (hF 8 rfl),hv 9 54 rfl,trivial⟩ (by kernel_rfl)
    replace s:St w0 (Own.tie9 w0 [.blk bc (.cells (gJ vo vs vh vx (bT ⟨aC X,[],0⟩ (16+a.no) (dM (X.H.getD (df X a.no) bX).1 a.l a.d X.M.now)).w.ml.last (bT ⟨aC X,[],0⟩ (16+a.no) (dM (X.H.getD (df X a.no) bX).1 a.l a.d X.M.now)).w.ml.now (vl9 9).2) 84),.sl (vl9 9).2 91 74 ((bT ⟨aC X,[],0⟩ (16+a.no) (dM (X.H.getD (df X a.no) bX).1 a.l a.d X.M.now)).n++[({(uS a.no (bT ⟨aC X,[],0⟩ (16+a.no) (dM (X.H.getD (df X a.no) bX).1 a.l a.d X.M.now)).no a.d) with tm:=(bT ⟨aC X,[],0⟩ (16+a.no) (dM (X.H.getD (df X a.no) bX).1 a.l a.d X.M.now)).w.ml.now}:Nt)]).length (bM ((bT ⟨aC X,[],0⟩ (16+a.no) (dM (X.H.getD (df X a.no) bX).1 a.l a.d X.M.now)).n++[({(uS a.no (bT ⟨aC X,[],0⟩ (16+a.no) (dM (X.H.getD (df X a.no) bX).1 a.l a.d X.M.now)).no a.d) with tm:=(bT ⟨aC X,[],0⟩ (16+a.no) (dM (X.H.getD (df X a.no) bX).1 a.l a.d X.M.now)).w.ml.now}:Nt)])),.grp kn (λw9=>RdC w9 vo vx {X with M:=(bT ⟨aC X,[],0⟩ (16+a.no) (dM (X.H.getD (df X a.no) bX).1 a.l a.d X.M.now)).w.ml})]::(.grp (vl4 13).2.1 (λw9=>iJ w9 va a.l->iJ w9 (g7 (vl4 13).2.2) (dM (X.H.getD (df X a.no) bX).1 a.l a.d X.M.now).2.1.l))::.blk b6 (.cells (dP (dM (X.H.getD (df X a.no) bX).1 a.l a.d X.M.now).1 (dM (X.H.getD (df X a.no) bX).1 a.l a.d X.M.now).2.1 (g7 (vl4 13).2.2) (dM (X.H.getD (df X a.no) bX).1 a.l a.d X.M.now).2.2) 186)::.blk b3 (.cells (bQ a va) 45)::.sl vs 54 3 X.S.length (a8 X.S)::.sl vh 68 5 X.H.length (bB X.H)::B9) _:=s
    obtain ⟨vq,hvq⟩:∃ z,z=(vl9 9).2:=⟨_,rfl⟩
    rw [← hvq] at s
    replace s:=s.untie9
    refine aD (bE ac 1 h rfl λf h=>aL3 (dK rfl h rfl (by replace s:=s.bring 2 rfl;replace s:=s.bring 2 rfl;replace s:=s.bring 7 rfl;replace s:=s.bring 7 rfl;replace s:=s.bring 4 rfl;exact ⟨_,rfl,EK (Y:={X with M:=(bT ⟨aC X,[],0⟩ (16+a.no) (dM (X.H.getD (df X a.no) bX).1 a.l a.d X.M.now)).w.ml}) _ (Vp hge (by rw [hget];exact e0) (by rw [hsp];exact hp9)) (by rw [hsp];exact(ER hx0).symm) (by rw [hsp];rfl) (s.pick _ (aG7 _ (aG7 _ (aG7 _ (aG7 _ (aG7 _ (aG8 _ (aG8 _ (aG8 _ (List.Sublist.refl _))))))))))⟩)))
   ·have hp9:¬ 0<(bT ⟨aC X,[],0⟩ (16+a.no) (dM (X.H.getD (df X a.no) bX).1 a.l a.d X.M.now)).no:=aH0 hc
    refine kt (bE ac 1 h rfl λf h=>aL3 (dK rfl h rfl (by replace s:=s.bring 2 rfl;replace s:=s.bring 2 rfl;replace s:=s.bring 7 rfl;replace s:=s.bring 7 rfl;replace s:=s.bring 4 rfl;exact ⟨_,rfl,EK (Y:={X with M:=(bT ⟨aC X,[],0⟩ (16+a.no) (dM (X.H.getD (df X a.no) bX).1 a.l a.d X.M.now)).w.ml}) _ (W7 hge (by rw [hget];exact e0) (by rw [hsp];exact hp9)) (by rw [hsp];exact(ER hx0).symm) (by rw [hsp]) (s.pick _ (aG7 _ (aG7 _ (aG7 _ (aG7 _ (aG7 _ (aG8 _ (aG8 _ (aG8 _ (List.Sublist.refl _))))))))))⟩)))
end Go.Proofs.YthmlflaiidhoiaaGreatDoor
