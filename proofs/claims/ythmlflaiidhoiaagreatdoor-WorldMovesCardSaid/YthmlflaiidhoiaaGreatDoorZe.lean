/- Package ring: what its functions answer. -/
import Derived.Test.YthmlflaiidhoiaaGreatDoorCon
set_option linter.unusedVariables false
namespace Go.Proofs.YthmlflaiidhoiaaGreatDoor
open Go.RowKit
theorem BV (m:Mb) (w:World):Calls Tryz.prog 86 [.agg (ar m)].toArray w (cb w (λv w9=>∃ bx,v=.func (.func 140) #[] #[.pointer (some ⟨bx,0,none⟩)]/\St w [.blk bx (.cells (ar m) 60)] w9)):=by
 refine bK Tryz.func86 rfl Tryz.ntmps86 rfl λf h s=>qr (aV ((ar m)) h s rfl rfl rfl λf w1 b1 h s=>e9 ac 1 h rfl λf h=>qr (ai h (cO [.pointer (some ⟨b1,0,none⟩)] (ke h rfl)) rfl λf h=>e9 ac 1 h rfl λf h=>aL3 (av rfl h s rfl (⟨b1,rfl,s.sel [0] rfl (by decide)⟩))))
theorem Ec (x m:Mb) (bx:Nat) (w:World) (hb:gq w bx (ar m)):Calls Tryz.prog 140 [.agg (ar x),.pointer (some ⟨bx,0,none⟩)].toArray w (cb w (is (.bool (mi m x)))):=by
 refine bK Tryz.func140 rfl Tryz.ntmps140 rfl λf h s=>qr (aV ((ar x)) h s rfl rfl rfl λf w1 b2 h s=>e9 ac 1 h rfl λf h=>ah ?_)
 refine rs ac 1 h rfl λf h=>ag (ae (aJ.of_own s 0 rfl) 0 (cp _)) h bJ rfl rfl λf h=>am ac 1 h rfl λf h=>ag (V:=.int .i64 m.1) (ae (aJ.of_tab (hb.keep s.ext)) 0 (cp _)) h bJ rfl rfl λf h=>lL ac h rfl (λh0 f h=>?_) (λh0 f h=>?_)
 ·refine am ac 2 h rfl λf h=>cy h rfl (ap (aJ.subL (aJ.of_own s 0 rfl) 1 32 (D:=aH (_)) (fv _)) h bW rfl (by first|exact aA _|exact au _ _) rfl λf h=>am ac 1 h rfl λf h=>cy h rfl (ap (aJ.subL (aJ.of_tab (hb.keep s.ext)) 1 32 (D:=aH (_)) (fv _)) h bW rfl (by first|exact aA _|exact au _ _) rfl λf h=>cy h rfl (ai h (dC gE (h.ev rfl) (h.ev rfl)) rfl λf h=>e9 ac 2 h rfl λf h=>aL3 (av rfl h s rfl (by show _=_;rw [Rz h0]<;>rfl)))))
 ·refine e9 ac 8 h rfl λf h=>aL3 (av rfl h s rfl (by show _=_;rw [Ru h0]<;>rfl))
theorem qC (x9:Id) (w:World):Calls Tryz.prog 39 [iy x9].toArray w (cb w (λv w9=>∃ bx,v=.func (.func 87) #[] #[.pointer (some ⟨bx,0,none⟩)]/\gq w9 bx (aH x9))):=by
 refine bK Tryz.func39 rfl Tryz.ntmps39 rfl λf h s=>qr (aV (aH x9) h s rfl rfl rfl λf w1 b1 h s=>e9 ac 1 h rfl λf h=>qr (ai h (cO [.pointer (some ⟨b1,0,none⟩)] (ke h rfl)) rfl λf h=>e9 ac 1 h rfl λf h=>aL3 (av rfl h s rfl (⟨b1,rfl,gq.of_own s 0 rfl⟩))))
theorem sE (a b:Id) (w:World):Calls Tryz.prog 89 [iy a,iy b].toArray w (cb w (is (iy (b - a)))):=by
 refine bK Tryz.func89 rfl Tryz.ntmps89 rfl λf h s=>qr (aV (aH a) h s rfl rfl rfl λf w1 b2 h s=>aV (aH b) h s rfl rfl rfl λf w1 b3 h s=>aK (aH 0#256) h s zn rfl rfl λf w1 b4 h s=>nt (qr (aK (aH 0#256) h s zn rfl rfl λf w1 b5 h s=>nt (bE ac 1 h rfl λf h=>ah (bE ac 1 h rfl λf h=>aL4 (aL6 (λnn aa ww=>∃ k:Nat,Sl 31 aa [(0,iy a),(1,iy b),(2,.pointer (some ⟨b2,0,none⟩)),(3,.pointer (some ⟨b3,0,none⟩)),(4,.pointer (some ⟨b4,0,none⟩)),(5,.pointer (some ⟨b5,0,none⟩)),(6,.int .i64 (ma a.toNat b.toNat (32 - k):Int)),(7,.int .i64 ((k:Int) - 1))]/\St w [.blk b5 (.cells (aH (yj a b (32 - k))) 42),.blk b4 (.cells (aH 0#256) 42),.blk b3 (.cells (aH b) 42),.blk b2 (.cells (aH a) 42)] ww/\nn=k/\k<=32) ((32)) ⟨32,h.only ⟨rfl,rfl,rfl,rfl,rfl,rfl,ao rfl (by rw [Nat.sub_self,Hh];rfl),ao rfl (by omega),trivial⟩,s.as ⟨fL (by rw [Nat.sub_self,Hm]),rfl,rfl,rfl,trivial⟩,rfl,by omega⟩ ?_))))))
 rintro _ f w1 ⟨k,h,s,hnn,hp0⟩
 have ha:=iu a (k - 1)
 have hb:=iu b (k - 1)
 have hc9:=RG a.toNat b.toNat (32 - k)
 refine ah (bE ac 2 h rfl λf h=>cB h rfl (λhc=>?_) (λhc=>?_))
 ·refine kt (ah (aL4 (ah (dJ 12 h (by kernel_rfl) (ay ac 1 h rfl λf h=>aF h (mt (k - 1) aO8 jE (h.ev rfl) (h.ev rfl) (by omega) (by omega)) rfl λf h=>eR 2 h s r2 rfl rfl (eH _ _ (by omega)) rfl λf h=>aF h (jr aO9 aR2 (h.ev rfl) (IntWalk.i64_in _ (by omega))) rfl λf h=>ay ac 1 h rfl λf h=>aF h (mt (k - 1) aO8 jE (h.ev rfl) (h.ev rfl) (by omega) (by omega)) rfl λf h=>eR 3 h s r2 rfl rfl (eH _ _ (by omega)) rfl λf h=>aF h (jr aO9 aR2 (h.ev rfl) (IntWalk.i64_in _ (by omega))) rfl λf h=>aF h (gj (h.ev rfl) (h.ev rfl) (by omega)) rfl λf h=>ay ac 1 h rfl λf h=>aF h (gj (h.ev rfl) (h.ev rfl) (by omega)) rfl λf h=>ay ac 1 h rfl λf h=>bY s λw1 s=>nt (bE ac 1 h rfl λf h=>ah (bE ac 2 h rfl λf h=>cB h rfl (λhc=>?_) (λhc=>?_))))))))
  ·refine re ac 1 h rfl λf h=>rs ac 2 h rfl λf h=>ai h (gB aR2 aO9 (h.ev rfl)) rfl λf h=>ai h (mt (k - 1) aO8 jE (h.ev rfl) (h.ev rfl) (by omega) (by omega)) rfl λf h=>aM 0 h s r2 rfl rfl rfl (by simp;omega) (rfl) λw1 s=>az (aW (aD (rs ac 1 h rfl λf h=>ai h (gj (h.ev rfl) (h.ev rfl) (by omega)) rfl λf h=>e9 ac 1 h rfl λf h=>?_)))
   exact ⟨_,by omega,⟨k - 1,h.only ⟨rfl,rfl,rfl,rfl,rfl,rfl,ao rfl (by rw [NX a b k (by omega) (by omega) hc];rfl),ao rfl (by omega),trivial⟩,St.as s ⟨fL (FE a b k (by omega) (by omega)),rfl,rfl,rfl,trivial⟩,rfl,by omega⟩⟩
  ·refine kt (rs ac 2 h rfl λf h=>ai h (gB aR2 aO9 (h.ev rfl)) rfl λf h=>ai h (mt (k - 1) aO8 jE (h.ev rfl) (h.ev rfl) (by omega) (by omega)) rfl λf h=>aM 0 h s r2 rfl rfl rfl (by simp;omega) (rfl) λw1 s=>az (aW (aD (rs ac 1 h rfl λf h=>ai h (gj (h.ev rfl) (h.ev rfl) (by omega)) rfl λf h=>e9 ac 1 h rfl λf h=>?_))))
   exact ⟨_,by omega,⟨k - 1,h.only ⟨rfl,rfl,rfl,rfl,rfl,rfl,ao rfl (by rw [J5 a b k (by omega) (by omega) hc];rfl),ao rfl (by omega),trivial⟩,St.as s ⟨fL (FE a b k (by omega) (by omega)),rfl,rfl,rfl,trivial⟩,rfl,by omega⟩⟩
 ·refine aL5 (aO (aO (bS (aD (qr (ak 0 h s bW rfl rfl (by first|exact aA _|exact au _ _) rfl λf h=>al 1 h s bW rfl rfl rfl (by first|exact aA _|exact au _ _) (by first|exact aA _|exact au _ _) (by first|exact k6 _|exact eE _ _) λw1 s=>nt (aL3 (lH 1 rfl h s bW rfl rfl (by first|exact aA _|exact au _ _) (by show _=_;rw [RA a b k (by omega)])))))))))
theorem sH (a:Id) (n:Nat) (hn:n<256) (w:World):Calls Tryz.prog 128 [iy a,.int .i64 (n:Int)].toArray w (cb w (is (.int .i64 (oF a.toNat n:Int)))):=by
 have ha:=iu a (n / 8)
 refine bK Tryz.func128 rfl Tryz.ntmps128 rfl λf h s=>qr (aV (aH a) h s rfl rfl rfl λf w1 b2 h s=>e9 ac 1 h rfl λf h=>bU ac 1 h rfl λf h=>ai h (Kb (h.ev rfl) (h.ev rfl) (by omega)) rfl λf h=>ai h (mt (n / 8) aO8 jE (h.ev rfl) (h.ev rfl) (by omega) (by omega)) rfl λf h=>cz 0 h s r2 rfl rfl (eH _ _ (by omega)) rfl λf h=>ai h (jr aO9 aR2 (h.ev rfl) (IntWalk.i64_in _ (by omega))) rfl λf h=>e9 ac 1 h rfl λf h=>ah (bE ac 1 h rfl λf h=>aL4 (aL6 (λnn aa ww=>∃ k:Nat,Sl 23 aa [(0,iy a),(1,.int .i64 (n:Int)),(2,.pointer (some ⟨b2,0,none⟩)),(5,.int .i64 ((bP a (n / 8) / 2 ^ k:Nat):Int)),(6,.int .i64 (k:Int))]/\St w [.blk b2 (.cells (aH a) 42)] ww/\nn=8 - k/\k<=7 - n % 8) (8 - (0)) ⟨0,h.only ⟨rfl,rfl,rfl,ao rfl (by simp),ao rfl (by omega),trivial⟩,s.as ⟨rfl,trivial⟩,rfl,by omega⟩ ?_)))
 rintro _ f w1 ⟨k,h,s,hnn,hp0⟩
 have hd:bP a (n / 8) / 2 ^ k<=bP a (n / 8):=Nat.div_le_self _ _
 have hd0:(0:Int)<=((bP a (n / 8) / 2 ^ k:Nat):Int):=Int.natCast_nonneg _
 refine ah (bU ac 2 h rfl λf h=>ai h (xX (h.ev rfl) (h.ev rfl) (by omega)) rfl λf h=>ai h (gj (h.ev rfl) (h.ev rfl) (by omega)) rfl λf h=>e9 ac 1 h rfl λf h=>cB h rfl (λhc=>?_) (λhc=>?_))
 ·refine kt (ah (aL4 (rs ac 1 h rfl λf h=>ai h (Kb (h.ev rfl) (h.ev rfl) (by omega)) rfl λf h=>am ac 1 h rfl λf h=>az (aW (aD (rs ac 1 h rfl λf h=>ai h (bo (h.ev rfl) (h.ev rfl) (by omega)) rfl λf h=>e9 ac 1 h rfl λf h=>?_))))))
  exact ⟨_,by omega,⟨k+1,h.only ⟨rfl,rfl,rfl,ao rfl (Io _ _),ao rfl (by omega),trivial⟩,St.as s ⟨rfl,trivial⟩,rfl,by omega⟩⟩
 ·refine aL5 (aO (aO (bS (aD (bU ac 1 h rfl λf h=>ai h (xX (h.ev rfl) (h.ev rfl) (by omega)) rfl λf h=>e9 ac 1 h rfl λf h=>aL3 ?_)))))
  have hk8:k=7 - n % 8:=by omega
  subst hk8
  exact av rfl h s rfl (by show _=_;rw [← Qq a n hn];rfl)
theorem pB (a b:Id) (w:World):Calls Tryz.prog 76 [iy a,iy b].toArray w (cb w (is (.int .i64 (ei a b)))):=by
 refine bK Tryz.func76 rfl Tryz.ntmps76 rfl λf h s=>qr (aV (aH a) h s rfl rfl rfl λf w1 b2 h s=>aV (aH b) h s rfl rfl rfl λf w1 b3 h s=>e9 ac 1 h rfl λf h=>ah (bE ac 1 h rfl λf h=>aL4 (aL6 (λnn aa ww=>∃ k:Nat,Sl 24 aa [(0,iy a),(1,iy b),(2,.pointer (some ⟨b2,0,none⟩)),(3,.pointer (some ⟨b3,0,none⟩)),(5,.int .i64 (k:Int))]/\St w [.blk b3 (.cells (aH b) 42),.blk b2 (.cells (aH a) 42)] ww/\nn=256 - k/\k<=256/\a.toNat / 2 ^ (256 - k)=b.toNat / 2 ^ (256 - k)) (256 - (0)) ⟨0,h.only ⟨rfl,rfl,rfl,rfl,ao rfl (by omega),trivial⟩,s.as ⟨rfl,rfl,trivial⟩,rfl,by omega,xi a b⟩ ?_)))
 rintro _ f w1 ⟨k,h,s,hnn,hp0,hp1⟩
 refine ah (bE ac 2 h rfl λf h=>cB h rfl (λhc=>?_) (λhc=>?_))
 ·refine kt (ah (aL4 (ah (ah (dJ 7 h (by kernel_rfl) (aT 1 h s bW rfl rfl (by first|exact aA _|exact au _ _) rfl λf h=>ay ac 1 h rfl λf h=>bF h xt (λw9 hE9=>sH _ _ (by omega) w9) rfl rfl λf h=>aT 0 h s bW rfl rfl (by first|exact aA _|exact au _ _) rfl λf h=>ay ac 1 h rfl λf h=>bF h xt (λw9 hE9=>sH _ _ (by omega) w9) rfl rfl λf h=>ay ac 1 h rfl λf h=>bY s λw1 s=>nt (cB h rfl (λhc=>?_) (λhc=>?_))))))))
  ·refine bE ac 1 h rfl λf h=>rt (bA (aS (aS (bA (aS (av rfl h s rfl (by show _=_;rw [Q1 a b k (by omega) hp1 hc])))))))
  ·refine kt (ah (dJ 7 h (by kernel_rfl) (aT 1 h s bW rfl rfl (by first|exact aA _|exact au _ _) rfl λf h=>ay ac 1 h rfl λf h=>bF h xt (λw9 hE9=>sH _ _ (by omega) w9) rfl rfl λf h=>aT 0 h s bW rfl rfl (by first|exact aA _|exact au _ _) rfl λf h=>ay ac 1 h rfl λf h=>bF h xt (λw9 hE9=>sH _ _ (by omega) w9) rfl rfl λf h=>ay ac 1 h rfl λf h=>bY s λw1 s=>nt (cB h rfl (λhc=>?_) (λhc=>?_)))))
   ·refine bE ac 1 h rfl λf h=>aL3 (bA (aS (aS (bA (aS (av rfl h s rfl (by show _=_;rw [Q4 a b k (by omega) hp1 hc])))))))
   ·refine wpIn_skip (aW (aD (rs ac 1 h rfl λf h=>ai h (bo (h.ev rfl) (h.ev rfl) (by omega)) rfl λf h=>e9 ac 1 h rfl λf h=>?_)))
    exact ⟨_,by omega,⟨k+1,h.only ⟨rfl,rfl,rfl,rfl,ao rfl (by omega),trivial⟩,St.as s ⟨rfl,rfl,trivial⟩,rfl,by omega,xf a b k (by omega) hp1 (by omega)⟩⟩
 ·refine aL5 (aO (aO (bS (aD (bE ac 1 h rfl λf h=>aL3 (av rfl h s rfl (by show _=_;rw [Ju a b k (by omega) hp1,wU])))))))
end Go.Proofs.YthmlflaiidhoiaaGreatDoor
