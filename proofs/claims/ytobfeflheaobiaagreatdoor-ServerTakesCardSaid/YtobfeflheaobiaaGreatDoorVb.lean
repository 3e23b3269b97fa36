/- The reference of layer 2: its sum is the same sum. -/
import Derived.Test.YtobfeflheaobiaaGreatDoorVa
set_option linter.unusedVariables false
set_option linter.unusedSimpArgs false
set_option linter.unusedSectionVars false
namespace Go.Proofs.YtobfeflheaobiaaGreatDoor
open Go.RowKit
theorem CW (x:eV) (n:Nat) (hn:n≤31) (w:World):Calls Tryz.prog 132 [wv x,.int .i64 (n:Int)].toArray w (cp w (is (wv (Kp x n)))):=by
 refine bF Tryz.func132 rfl Tryz.ntmps132 rfl fun f h s=>bH ab 1 h rfl fun f h=>al (bH ab 1 h rfl fun f h=>wpIn_block (wpIn_loop_ghost (fun nn aa ww=>∃ k:Nat,Sl 18 aa [(1,.int .i64 (n:Int)),(0,wv (Kp x k)),(5,.int .i64 (k:Int))]∧St w [] ww∧nn=n - k∧k≤n) (n - (0)) ⟨0,h.only ⟨rfl,rfl,aq rfl (by omega),trivial⟩,s.as trivial,rfl,Nat.zero_le _⟩ ?_))
 rintro _ f w1 ⟨k,h,s,hnn,hp0⟩
 refine al (bH ab 3 h rfl fun f h=>cV h rfl (fun hc=>?_) (fun hc=>?_))
 ·refine kt (al (wpIn_block (rs ab 1 h rfl fun f h=>ae h (rk (h.ev rfl) (h.ev rfl) (by have:=(Kp x k).isLt;omega)) rfl fun f h=>am ab 1 h rfl fun f h=>ae h (kD (h.ev rfl) (h.ev rfl) (by omega)) rfl fun f h=>ae h (nl (h.ev rfl) (h.ev rfl)) rfl fun f h=>ae h (aV (wv (r1 (Kp x k))) (nZ (h.ev rfl) (h.ev rfl)) (Ll _)) rfl fun f h=>am ab 1 h rfl fun f h=>av (ba (aE (rs ab 1 h rfl fun f h=>ae h (a6 (h.ev rfl) (h.ev rfl) (by omega)) rfl fun f h=>e9 ab 1 h rfl fun f h=>?_))))))
  exact ⟨_,by omega,⟨k+1,h.only ⟨rfl,rfl,aq rfl (by omega),trivial⟩,St.as s trivial,rfl,by omega⟩⟩
 ·refine wpIn_exit (aU (aU (bR (aE (qr ?_)))))
  obtain rfl:k=n:=by omega
  refine e9 ab 2 h rfl fun f h=>wpIn_ret (aH rfl h s rfl (rfl))
theorem Bg  (w:World):Calls Tryz.prog 121 [].toArray w (cp w (fun v w'=>cB w' w.heap.size 180 1 v 8 (wL jp 8))):=by
 refine bF Tryz.func121 rfl Tryz.ntmps121 rfl fun f h s=>bH ab 1 h rfl fun f h=>qr (bn (vs:=[.int .u32 1779033703,.int .u32 3144134277,.int .u32 1013904242,.int .u32 2773480762,.int .u32 1359893119,.int .u32 2600822924,.int .u32 528734635,.int .u32 1541459225]) [.const (.int .u32 (1779033703)),.const (.int .u32 (3144134277)),.const (.int .u32 (1013904242)),.const (.int .u32 (2773480762)),.const (.int .u32 (1359893119)),.const (.int .u32 (2600822924)),.const (.int .u32 (528734635)),.const (.int .u32 (1541459225))] h s Tryz.underlying176 iY rfl rfl (by simp [Value.cells]) rfl rfl rfl fun f w1 v1 h s=>e9 ab 1 h rfl fun f h=>wpIn_ret (aH rfl h s rfl (s.getSl 0 rfl)))
theorem C5  (w:World):Calls Tryz.prog 133 [].toArray w (cp w (fun v w'=>cB w' w.heap.size 180 1 v 64 (wL iJ 64))):=by
 refine bF Tryz.func133 rfl Tryz.ntmps133 rfl fun f h s=>bH ab 1 h rfl fun f h=>qr (bn (vs:=[.int .u32 1116352408,.int .u32 1899447441,.int .u32 3049323471,.int .u32 3921009573,.int .u32 961987163,.int .u32 1508970993,.int .u32 2453635748,.int .u32 2870763221,.int .u32 3624381080,.int .u32 310598401,.int .u32 607225278,.int .u32 1426881987,.int .u32 1925078388,.int .u32 2162078206,.int .u32 2614888103,.int .u32 3248222580,.int .u32 3835390401,.int .u32 4022224774,.int .u32 264347078,.int .u32 604807628,.int .u32 770255983,.int .u32 1249150122,.int .u32 1555081692,.int .u32 1996064986,.int .u32 2554220882,.int .u32 2821834349,.int .u32 2952996808,.int .u32 3210313671,.int .u32 3336571891,.int .u32 3584528711,.int .u32 113926993,.int .u32 338241895,.int .u32 666307205,.int .u32 773529912,.int .u32 1294757372,.int .u32 1396182291,.int .u32 1695183700,.int .u32 1986661051,.int .u32 2177026350,.int .u32 2456956037,.int .u32 2730485921,.int .u32 2820302411,.int .u32 3259730800,.int .u32 3345764771,.int .u32 3516065817,.int .u32 3600352804,.int .u32 4094571909,.int .u32 275423344,.int .u32 430227734,.int .u32 506948616,.int .u32 659060556,.int .u32 883997877,.int .u32 958139571,.int .u32 1322822218,.int .u32 1537002063,.int .u32 1747873779,.int .u32 1955562222,.int .u32 2024104815,.int .u32 2227730452,.int .u32 2361852424,.int .u32 2428436474,.int .u32 2756734187,.int .u32 3204031479,.int .u32 3329325298]) [.const (.int .u32 (1116352408)),.const (.int .u32 (1899447441)),.const (.int .u32 (3049323471)),.const (.int .u32 (3921009573)),.const (.int .u32 (961987163)),.const (.int .u32 (1508970993)),.const (.int .u32 (2453635748)),.const (.int .u32 (2870763221)),.const (.int .u32 (3624381080)),.const (.int .u32 (310598401)),.const (.int .u32 (607225278)),.const (.int .u32 (1426881987)),.const (.int .u32 (1925078388)),.const (.int .u32 (2162078206)),.const (.int .u32 (2614888103)),.const (.int .u32 (3248222580)),.const (.int .u32 (3835390401)),.const (.int .u32 (4022224774)),.const (.int .u32 (264347078)),.const (.int .u32 (604807628)),.const (.int .u32 (770255983)),.const (.int .u32 (1249150122)),.const (.int .u32 (1555081692)),.const (.int .u32 (1996064986)),.const (.int .u32 (2554220882)),.const (.int .u32 (2821834349)),.const (.int .u32 (2952996808)),.const (.int .u32 (3210313671)),.const (.int .u32 (3336571891)),.const (.int .u32 (3584528711)),.const (.int .u32 (113926993)),.const (.int .u32 (338241895)),.const (.int .u32 (666307205)),.const (.int .u32 (773529912)),.const (.int .u32 (1294757372)),.const (.int .u32 (1396182291)),.const (.int .u32 (1695183700)),.const (.int .u32 (1986661051)),.const (.int .u32 (2177026350)),.const (.int .u32 (2456956037)),.const (.int .u32 (2730485921)),.const (.int .u32 (2820302411)),.const (.int .u32 (3259730800)),.const (.int .u32 (3345764771)),.const (.int .u32 (3516065817)),.const (.int .u32 (3600352804)),.const (.int .u32 (4094571909)),.const (.int .u32 (275423344)),.const (.int .u32 (430227734)),.const (.int .u32 (506948616)),.const (.int .u32 (659060556)),.const (.int .u32 (883997877)),.const (.int .u32 (958139571)),.const (.int .u32 (1322822218)),.const (.int .u32 (1537002063)),.const (.int .u32 (1747873779)),.const (.int .u32 (1955562222)),.const (.int .u32 (2024104815)),.const (.int .u32 (2227730452)),.const (.int .u32 (2361852424)),.const (.int .u32 (2428436474)),.const (.int .u32 (2756734187)),.const (.int .u32 (3204031479)),.const (.int .u32 (3329325298))] h s Tryz.underlying176 iY rfl rfl (by simp [Value.cells]) rfl rfl rfl fun f w1 v1 h s=>e9 ab 1 h rfl fun f h=>wpIn_ret (aH rfl h s rfl (s.getSl 0 rfl)))
theorem fO (x:eV) (n:Nat) (hn:1≤n∧n≤31) (w:World):Calls Tryz.prog 132 [wv x,.int .i64 (n:Int)].toArray w (cp w (is (wv (ru x n)))):=by
 rw [← Hb x n hn]
 exact CW x n (by omega) w
theorem z7 (v9:V8) (kk xx:eV) (vh:Value) (w:World) (hh:bI w vh 1 8 (wL v9.at 8)):Calls Tryz.prog 134 [vh,wv kk,wv xx].toArray w (cp w (fun v w'=>cB w' w.heap.size 180 1 v 8 (wL (Cy v9 kk xx).at 8))):=by
 refine bF Tryz.func134 rfl Tryz.ntmps134 rfl fun f h s=>bH ab 1 h rfl fun f h=>bZ ab 1 h rfl fun f h=>ae h (a7 (hh.keep s.ext) (0) Tryz.underlying176 ej (h.ev rfl) (h.ev rfl) (by omega) (by omega)) rfl fun f h=>ag ((hh.keep s.ext).el1 (0) (V:=wv v9.a) (ef v9.at 8 0 (by decide))) h co rfl rfl fun f h=>e9 ab 1 h rfl fun f h=>bZ ab 1 h rfl fun f h=>ae h (a7 (hh.keep s.ext) (4) Tryz.underlying176 ej (h.ev rfl) (h.ev rfl) (by omega) (by omega)) rfl fun f h=>ag ((hh.keep s.ext).el1 (4) (V:=wv v9.e) (ef v9.at 8 4 (by decide))) h co rfl rfl fun f h=>e9 ab 1 h rfl fun f h=>al (eo 30 h (by kernel_rfl) (az ab 1 h rfl fun f h=>au h (a7 (hh.keep s.ext) (7) Tryz.underlying176 ej (h.ev rfl) (h.ev rfl) (by omega) (by omega)) rfl fun f h=>ay ((hh.keep s.ext).el1 (7) (V:=wv v9.h) (ef v9.at 8 7 (by decide))) h co rfl rfl fun f h=>az ab 1 h rfl fun f h=>aY h jx (fun w9 hE9=>fO _ 6 (by decide) w9) rfl rfl fun f h=>az ab 1 h rfl fun f h=>aY h jx (fun w9 hE9=>fO _ 11 (by decide) w9) rfl rfl fun f h=>au h (c8 (h.ev rfl) (h.ev rfl)) rfl fun f h=>az ab 1 h rfl fun f h=>aY h jx (fun w9 hE9=>fO _ 25 (by decide) w9) rfl rfl fun f h=>au h (c8 (h.ev rfl) (h.ev rfl)) rfl fun f h=>au h (dc (h.ev rfl) (h.ev rfl)) rfl fun f h=>az ab 2 h rfl fun f h=>au h (a7 (hh.keep s.ext) (5) Tryz.underlying176 ej (h.ev rfl) (h.ev rfl) (by omega) (by omega)) rfl fun f h=>ay ((hh.keep s.ext).el1 (5) (V:=wv v9.f) (ef v9.at 8 5 (by decide))) h co rfl rfl fun f h=>au h (fM (h.ev rfl) (h.ev rfl)) rfl fun f h=>az ab 1 h rfl fun f h=>au h (Ad (h.ev rfl) (h.ev rfl)) rfl fun f h=>az ab 1 h rfl fun f h=>au h (a7 (hh.keep s.ext) (6) Tryz.underlying176 ej (h.ev rfl) (h.ev rfl) (by omega) (by omega)) rfl fun f h=>ay ((hh.keep s.ext).el1 (6) (V:=wv v9.g) (ef v9.at 8 6 (by decide))) h co rfl rfl fun f h=>au h (fM (h.ev rfl) (h.ev rfl)) rfl fun f h=>au h (c8 (h.ev rfl) (h.ev rfl)) rfl fun f h=>au h (dc (h.ev rfl) (h.ev rfl)) rfl fun f h=>az ab 1 h rfl fun f h=>au h (dc (h.ev rfl) (h.ev rfl)) rfl fun f h=>az ab 1 h rfl fun f h=>au h (dc (h.ev rfl) (h.ev rfl)) rfl fun f h=>az ab 1 h rfl fun f h=>cj s fun w1 s=>nt (al (eo 29 h (by kernel_rfl) (az ab 1 h rfl fun f h=>aY h jx (fun w9 hE9=>fO _ 2 (by decide) w9) rfl rfl fun f h=>az ab 1 h rfl fun f h=>aY h jx (fun w9 hE9=>fO _ 13 (by decide) w9) rfl rfl fun f h=>au h (c8 (h.ev rfl) (h.ev rfl)) rfl fun f h=>az ab 1 h rfl fun f h=>aY h jx (fun w9 hE9=>fO _ 22 (by decide) w9) rfl rfl fun f h=>au h (c8 (h.ev rfl) (h.ev rfl)) rfl fun f h=>az ab 2 h rfl fun f h=>au h (a7 (hh.keep s.ext) (1) Tryz.underlying176 ej (h.ev rfl) (h.ev rfl) (by omega) (by omega)) rfl fun f h=>ay ((hh.keep s.ext).el1 (1) (V:=wv v9.b) (ef v9.at 8 1 (by decide))) h co rfl rfl fun f h=>au h (fM (h.ev rfl) (h.ev rfl)) rfl fun f h=>az ab 2 h rfl fun f h=>au h (a7 (hh.keep s.ext) (2) Tryz.underlying176 ej (h.ev rfl) (h.ev rfl) (by omega) (by omega)) rfl fun f h=>ay ((hh.keep s.ext).el1 (2) (V:=wv v9.c) (ef v9.at 8 2 (by decide))) h co rfl rfl fun f h=>au h (fM (h.ev rfl) (h.ev rfl)) rfl fun f h=>au h (c8 (h.ev rfl) (h.ev rfl)) rfl fun f h=>az ab 1 h rfl fun f h=>au h (a7 (hh.keep s.ext) (1) Tryz.underlying176 ej (h.ev rfl) (h.ev rfl) (by omega) (by omega)) rfl fun f h=>ay ((hh.keep s.ext).el1 (1) (V:=wv v9.b) (ef v9.at 8 1 (by decide))) h co rfl rfl fun f h=>az ab 1 h rfl fun f h=>au h (a7 (hh.keep s.ext) (2) Tryz.underlying176 ej (h.ev rfl) (h.ev rfl) (by omega) (by omega)) rfl fun f h=>ay ((hh.keep s.ext).el1 (2) (V:=wv v9.c) (ef v9.at 8 2 (by decide))) h co rfl rfl fun f h=>au h (fM (h.ev rfl) (h.ev rfl)) rfl fun f h=>au h (c8 (h.ev rfl) (h.ev rfl)) rfl fun f h=>au h (dc (h.ev rfl) (h.ev rfl)) rfl fun f h=>az ab 1 h rfl fun f h=>cj s fun w1 s=>nt (al (eo 22 h (by kernel_rfl) (az ab 2 h rfl fun f h=>au h (dc (h.ev rfl) (h.ev rfl)) rfl fun f h=>az ab 2 h rfl fun f h=>au h (a7 (hh.keep s.ext) (1) Tryz.underlying176 ej (h.ev rfl) (h.ev rfl) (by omega) (by omega)) rfl fun f h=>ay ((hh.keep s.ext).el1 (1) (V:=wv v9.b) (ef v9.at 8 1 (by decide))) h co rfl rfl fun f h=>az ab 1 h rfl fun f h=>au h (a7 (hh.keep s.ext) (2) Tryz.underlying176 ej (h.ev rfl) (h.ev rfl) (by omega) (by omega)) rfl fun f h=>ay ((hh.keep s.ext).el1 (2) (V:=wv v9.c) (ef v9.at 8 2 (by decide))) h co rfl rfl fun f h=>az ab 1 h rfl fun f h=>au h (a7 (hh.keep s.ext) (3) Tryz.underlying176 ej (h.ev rfl) (h.ev rfl) (by omega) (by omega)) rfl fun f h=>ay ((hh.keep s.ext).el1 (3) (V:=wv v9.d) (ef v9.at 8 3 (by decide))) h co rfl rfl fun f h=>az ab 1 h rfl fun f h=>au h (dc (h.ev rfl) (h.ev rfl)) rfl fun f h=>az ab 2 h rfl fun f h=>au h (a7 (hh.keep s.ext) (5) Tryz.underlying176 ej (h.ev rfl) (h.ev rfl) (by omega) (by omega)) rfl fun f h=>ay ((hh.keep s.ext).el1 (5) (V:=wv v9.f) (ef v9.at 8 5 (by decide))) h co rfl rfl fun f h=>az ab 1 h rfl fun f h=>au h (a7 (hh.keep s.ext) (6) Tryz.underlying176 ej (h.ev rfl) (h.ev rfl) (by omega) (by omega)) rfl fun f h=>ay ((hh.keep s.ext).el1 (6) (V:=wv v9.g) (ef v9.at 8 6 (by decide))) h co rfl rfl fun f h=>cj s fun w1 s=>bn (vs:=[wv (Cy v9 kk xx).a,wv (Cy v9 kk xx).b,wv (Cy v9 kk xx).c,wv (Cy v9 kk xx).d,wv (Cy v9 kk xx).e,wv (Cy v9 kk xx).f,wv (Cy v9 kk xx).g,wv (Cy v9 kk xx).h]) [.tmp 76,.tmp 77,.tmp 80,.tmp 83,.tmp 88,.tmp 89,.tmp 92,.tmp 95] h s Tryz.underlying176 iY rfl rfl (by simp [Value.cells,wv]) rfl rfl rfl fun f w1 v96 h s=>?_))))))))
 replace s:=s.as (B':=[.sl v96 180 1 8 (wL (Cy v9 kk xx).at 8)]) ⟨eJ rfl rfl,trivial⟩
 refine e9 ab 1 h rfl fun f h=>wpIn_ret (aH rfl h s rfl (s.getSl 0 rfl))
set_option maxHeartbeats 4000000 in
theorem AL (s9:Nat→eV) (vh:Value) (cx:ByteArray) (hcx:cx.size=64) (w:World) (hh:bI w vh 1 8 (wL s9 8)):Calls Tryz.prog 123 [vh,.string cx].toArray w (cp w (fun v w'=>cB w' w.heap.size 180 1 v 8 (wL (pg s9 (cA (sb cx))) 8))):=by
 refine bF Tryz.func123 rfl Tryz.ntmps123 rfl fun f h s=>bH ab 1 h rfl fun f h=>qr (bn (vs:=[]) [] h s Tryz.underlying176 iY rfl rfl (by simp) rfl rfl rfl fun f w1 v17 h s=>e9 ab 1 h rfl fun f h=>al (bH ab 1 h rfl fun f h=>wpIn_block (wpIn_loop_ghost (fun nn aa ww=>∃ t:Nat,∃ vb:Value,Sl 122 aa [(0,vh),(1,.string cx),(5,vb),(6,.int .i64 (t:Int))]∧St w [.sl vb 180 1 t (wL (fun i=>rr (sb cx) i 4) t)] ww∧nn=16 - t∧t≤16) (16 - (0)) ⟨0,v17,h.only ⟨rfl,rfl,rfl,aq rfl (by omega),trivial⟩,s.as ⟨eJ rfl rfl,trivial⟩,rfl,Nat.zero_le _⟩ ?_)))
 rintro _ f w1 ⟨t,vb,h,s,hnn,hp0⟩
 refine al (bH ab 2 h rfl fun f h=>cV h rfl (fun hc=>?_) (fun hc=>?_))
 ·refine kt (al (wpIn_block (bH ab 1 h rfl fun f h=>al (bH ab 1 h rfl fun f h=>wpIn_block (wpIn_loop_ghost (fun nn aa ww=>∃ j:Nat,Sl 122 aa [(0,vh),(1,.string cx),(5,vb),(6,.int .i64 (t:Int)),(7,wv (rr (sb cx) t j)),(8,.int .i64 (j:Int))]∧St w [.sl vb 180 1 t (wL (fun i=>rr (sb cx) i 4) t)] ww∧nn=4 - j∧j≤4) (4 - (0)) ⟨0,h.only ⟨rfl,rfl,rfl,aq rfl (by omega),rfl,aq rfl (by omega),trivial⟩,s.as ⟨rfl,trivial⟩,rfl,Nat.zero_le _⟩ ?_)))))
  rintro _ f w1 ⟨j,h,s,hnn,hp0⟩
  refine al (bH ab 2 h rfl fun f h=>cV h rfl (fun hc=>?_) (fun hc=>?_))
  ·refine kt (al (wpIn_block (rs ab 1 h rfl fun f h=>ae h (nl (h.ev rfl) (h.ev rfl)) rfl fun f h=>am ab 2 h rfl fun f h=>ae h (mP (h.ev rfl) (h.ev rfl) (by omega)) rfl fun f h=>am ab 1 h rfl fun f h=>ae h (a6 (h.ev rfl) (h.ev rfl) (by omega)) rfl fun f h=>ae h (vd Tryz.underlying9 (4*t+j) (h.ev rfl) (h.ev rfl) (by omega) (by omega)) rfl fun f h=>ae h (oY _ Tryz.underlying5 Tryz.underlying180 (h.ev rfl)) rfl fun f h=>ae h (aV (wv (rr (sb cx) t (j+1))) (nZ (h.ev rfl) (h.ev rfl)) (HH _ _ _ (Ij _ _))) rfl fun f h=>am ab 1 h rfl fun f h=>av (ba (aE (rs ab 1 h rfl fun f h=>ae h (a6 (h.ev rfl) (h.ev rfl) (by omega)) rfl fun f h=>e9 ab 1 h rfl fun f h=>?_))))))
   exact ⟨_,by omega,⟨j+1,h.only ⟨rfl,rfl,rfl,aq rfl (by omega),rfl,aq rfl (by omega),trivial⟩,St.as s ⟨rfl,trivial⟩,rfl,by omega⟩⟩
  ·refine wpIn_exit (aU (aU (bR (aE (aF ?_)))))
   obtain rfl:j=4:=by omega
   refine am ab 2 h rfl fun f h=>bn (vs:=[wv (rr (sb cx) t 4)]) [.tmp 37] h s Tryz.underlying176 iY rfl rfl (by simp [Value.cells,wv]) rfl rfl rfl fun f w1 v38 h s=>cq 1 0 h s Tryz.underlying176 iY rfl rfl rfl rfl (by decide) (by simp [Value.oneCell',Value.cells,wv]) (by unfold maxLen;omega) (by omega) rfl fun f w1 v39 h s=>?_
   replace s:=s.pick _ (List.sublist_cons_self _ _)
   refine am ab 1 h rfl fun f h=>av (ba (aE (rs ab 1 h rfl fun f h=>ae h (a6 (h.ev rfl) (h.ev rfl) (by omega)) rfl fun f h=>e9 ab 1 h rfl fun f h=>?_)))
   exact ⟨_,by omega,⟨t+1,v39,h.only ⟨rfl,rfl,rfl,aq rfl (by omega),trivial⟩,St.as s ⟨eJ (by omega) (sZ _ t).symm,trivial⟩,rfl,by omega⟩⟩
 ·refine wpIn_exit (aU (aU (bR (aE (al (bH ab 1 h rfl fun f h=>wpIn_block (wpIn_loop_ghost (fun nn aa ww=>∃ t2:Nat,∃ vc:Value,Sl 122 aa [(0,vh),(1,.string cx),(5,vc),(9,.int .i64 (t2:Int))]∧St w [.sl vc 180 1 t2 (wL (cA (sb cx)) t2)] ww∧nn=64 - t2∧16≤t2∧t2≤64) (64 - (16)) ⟨16,vb,h.only ⟨rfl,rfl,rfl,aq rfl (by omega),trivial⟩,s.as ⟨eJ (by omega) (by rw [show t=16 from by omega];exact Bw fun i hi=>(AD _ (Ij _) i hi).symm),trivial⟩,rfl,by omega,by omega⟩ ?_)))))))
  rintro _ f w1 ⟨t2,vc,h,s,hnn,hp0,hp1⟩
  refine al (bH ab 2 h rfl fun f h=>cV h rfl (fun hc=>?_) (fun hc=>?_))
  ·refine kt (al (wpIn_block (bZ ab 2 h rfl fun f h=>ae h (ea (h.ev rfl) (h.ev rfl) (by omega)) rfl fun f h=>ae h (a7 (bI.of_own (s.getSl 0 rfl)) (t2 - 15) Tryz.underlying176 ej (h.ev rfl) (h.ev rfl) (by omega) (by omega)) rfl fun f h=>ag ((bI.of_own (s.getSl 0 rfl)).el1 (t2 - 15) (V:=wv (cA (sb cx) (t2 - 15))) (ef _ _ _ (by omega))) h co rfl rfl fun f h=>e9 ab 1 h rfl fun f h=>bZ ab 2 h rfl fun f h=>ae h (ea (h.ev rfl) (h.ev rfl) (by omega)) rfl fun f h=>ae h (a7 (bI.of_own (s.getSl 0 rfl)) (t2 - 2) Tryz.underlying176 ej (h.ev rfl) (h.ev rfl) (by omega) (by omega)) rfl fun f h=>ag ((bI.of_own (s.getSl 0 rfl)).el1 (t2 - 2) (V:=wv (cA (sb cx) (t2 - 2))) (ef _ _ _ (by omega))) h co rfl rfl fun f h=>e9 ab 1 h rfl fun f h=>?_)))
   have hbs:=s.ext.le
   refine' tP 29 [0,1,3,6,7,9,10,11,12,15,17,20,21,24,25,26,27] [] [[],[],[1],[],[1,2,3],[1,2,3,4],[],[6],[1,2,3,4,5,6,7],[],[],[10],[9,10,11],[9,10,11,12],[1,2,3,4,5,6,7,8,9,10,11,12,13],[],[1,2,3,4,15],[],[1,2,3,4,15,16,17],[1,2,3,4,15,16,17,18],[],[20],[1,2,3,4,15,16,17,18,19,20,21],[1,2,3,4,5,6,7,8,9,10,11,12,13,14,15,16,17,18,19,20,21,22],[],[],[25],[24,25,26],[24,25,26,27],[1,2,3,4,5,6,7,8,9,10,11,12,13,14,15,16,17,18,19,20,21,22,23,24,25,26,27,28],[1,2,3,4,5,6,7,8,9,10,11,12,13,14,15,16,17,18,19,20,21,22,23,24,25,26,27,28,29],[0,1,2,3,4,5,6,7,8,9,10,11,12,13,14,15,16,17,18,19,20,21,22,23,24,25,26,27,28,29,30],[0,1,2,3,4,5,6,7,8,9,10,11,12,13,14,15,16,17,18,19,20,21,22,23,24,25,26,27,28,29,30,31]] (is _::is _::is _::is _::is _::is _::is _::is _::is _::is _::is _::is _::is _::is _::is _::is _::is _::is _::is _::is _::is _::is _::is _::is _::is _::is _::is _::is _::is _::is undef::is undef::is undef::is undef::[]) (fun _=>True) h s (by kernel_rfl) (by kernel_rfl) (by kernel_rfl) (by kernel_rfl) rfl (fun _ _ h _=>h) (trivial) ⟨⟨_,rfl⟩,⟨_,rfl⟩,⟨_,rfl⟩,⟨_,rfl⟩,⟨_,rfl⟩,⟨_,rfl⟩,⟨_,rfl⟩,⟨_,rfl⟩,⟨_,rfl⟩,⟨_,rfl⟩,⟨_,rfl⟩,⟨_,rfl⟩,⟨_,rfl⟩,⟨_,rfl⟩,⟨_,rfl⟩,⟨_,rfl⟩,⟨_,rfl⟩,trivial⟩ ⟨aR _,aR _,aR _,aR _,aR _,aR _,aR _,aR _,aR _,aR _,aR _,aR _,aR _,aR _,aR _,aR _,aR _,aR _,aR _,aR _,aR _,aR _,aR _,aR _,aR _,aR _,aR _,aR _,aR _,aR _,aR _,aR _,aR _,trivial⟩ (And.intro ?_ (And.intro ?_ (And.intro ?_ (And.intro ?_ (And.intro ?_ (And.intro ?_ (And.intro ?_ (And.intro ?_ (And.intro ?_ (And.intro ?_ (And.intro ?_ (And.intro ?_ (And.intro ?_ (And.intro ?_ (And.intro ?_ (And.intro ?_ (And.intro ?_ (And.intro ?_ (And.intro ?_ (And.intro ?_ (And.intro ?_ (And.intro ?_ (And.intro ?_ (And.intro ?_ (And.intro ?_ (And.intro ?_ (And.intro ?_ (And.intro ?_ (And.intro ?_ (And.intro ?_ (And.intro ?_ (And.intro ?_ (And.intro ?_ (trivial)))))))))))))))))))))))))))))))))) ?_
   rotate_left 29
   ·refine ca 54 rfl (by decide) ?_
    intro f9 w2 hE hs hl
    have e5:f9.tmps.getD 5 undef=_:=du hl 5 (by kernel_rfl) (by kernel_rfl) (h.holds 5 _ rfl)
    have h:=aD [(5,_)] hs rfl (holds_lk ⟨e5,trivial⟩)
    refine am ab 1 h rfl fun f h=>av ?_
    have e9:=h.holds 54 _ rfl
    refine ⟨?_,rfl⟩
    refine e9.trans ?_
    exact rfl
   ·refine ca 55 rfl (by decide) ?_
    intro f9 w2 hE hs hl
    have e11:f9.tmps.getD 11 undef=_:=du hl 11 (by kernel_rfl) (by kernel_rfl) (h.holds 11 _ rfl)
    have h:=aD [(11,_)] hs rfl (holds_lk ⟨e11,trivial⟩)
    refine am ab 1 h rfl fun f h=>av ?_
    have e9:=h.holds 55 _ rfl
    refine ⟨?_,rfl⟩
    refine e9.trans ?_
    exact rfl
   ·refine cM 56 rfl (by decide) (by decide) ?_
    intro f9 w2 hE hs hd9 hl
    have e55:f9.tmps.getD 55 undef=_:=bC hl 55 1 (by kernel_rfl) (by kernel_rfl)
    have h:=aD [(55,_)] hs hd9 (holds_lk ⟨e55,trivial⟩)
    have s:=s.more hE
    have z:=St.start w2
    refine bq h s jx (fO _ 17 (by decide) _) rfl rfl ?_;intro f w1 v9 hT hE h s;obtain rfl:=hT
    refine av ?_
    have e9:=h.holds 56 _ rfl
    refine ⟨?_,hE,fun h9=>absurd h9 (by decide)⟩
    refine e9.trans ?_
    exact rfl
   ·refine ca 57 rfl (by decide) ?_
    intro f9 w2 hE hs hl
    have e11:f9.tmps.getD 11 undef=_:=du hl 11 (by kernel_rfl) (by kernel_rfl) (h.holds 11 _ rfl)
    have h:=aD [(11,_)] hs rfl (holds_lk ⟨e11,trivial⟩)
    refine am ab 1 h rfl fun f h=>av ?_
    have e9:=h.holds 57 _ rfl
    refine ⟨?_,rfl⟩
    refine e9.trans ?_
    exact rfl
   ·refine cM 58 rfl (by decide) (by decide) ?_
    intro f9 w2 hE hs hd9 hl
    have e57:f9.tmps.getD 57 undef=_:=bC hl 57 3 (by kernel_rfl) (by kernel_rfl)
    have h:=aD [(57,_)] hs hd9 (holds_lk ⟨e57,trivial⟩)
    have s:=s.more hE
    have z:=St.start w2
    refine bq h s jx (fO _ 19 (by decide) _) rfl rfl ?_;intro f w1 v9 hT hE h s;obtain rfl:=hT
    refine av ?_
    have e9:=h.holds 58 _ rfl
    refine ⟨?_,hE,fun h9=>absurd h9 (by decide)⟩
    refine e9.trans ?_
    exact rfl
   ·refine cM 59 rfl (by decide) (by decide) ?_
    intro f9 w2 hE hs hd9 hl
    have e56:f9.tmps.getD 56 undef=_:=bC hl 56 2 (by kernel_rfl) (by kernel_rfl)
    have e58:f9.tmps.getD 58 undef=_:=bC hl 58 4 (by kernel_rfl) (by kernel_rfl)
    have h:=aD [(56,_),(58,_)] hs hd9 (holds_lk ⟨e56,e58,trivial⟩)
    have s:=s.more hE
    have z:=St.start w2
    refine ae h (c8 (h.ev rfl) (h.ev rfl)) rfl fun f h=>av ?_
    have e9:=h.holds 59 _ rfl
    refine ⟨?_,Ext.refl _,fun h9=>absurd h9 (by decide)⟩
    refine e9.trans ?_
    exact rfl
   ·refine ca 60 rfl (by decide) ?_
    intro f9 w2 hE hs hl
    have e11:f9.tmps.getD 11 undef=_:=du hl 11 (by kernel_rfl) (by kernel_rfl) (h.holds 11 _ rfl)
    have h:=aD [(11,_)] hs rfl (holds_lk ⟨e11,trivial⟩)
    refine am ab 1 h rfl fun f h=>av ?_
    have e9:=h.holds 60 _ rfl
    refine ⟨?_,rfl⟩
    refine e9.trans ?_
    exact rfl
   ·refine ca 61 rfl (by decide) ?_
    intro f9 w2 hE hs hl
    have e60:f9.tmps.getD 60 undef=_:=bC hl 60 6 (by kernel_rfl) (by kernel_rfl)
    have h:=aD [(60,_)] hs rfl (holds_lk ⟨e60,trivial⟩)
    refine ae h (lP 10 1024 (h.ev rfl) (h.ev rfl) (by decide)) rfl fun f h=>av ?_
    have e9:=h.holds 61 _ rfl
    refine ⟨?_,rfl⟩
    refine e9.trans ?_
    exact rfl
   ·refine cM 62 rfl (by decide) (by decide) ?_
    intro f9 w2 hE hs hd9 hl
    have e59:f9.tmps.getD 59 undef=_:=bC hl 59 5 (by kernel_rfl) (by kernel_rfl)
    have e61:f9.tmps.getD 61 undef=_:=bC hl 61 7 (by kernel_rfl) (by kernel_rfl)
    have h:=aD [(59,_),(61,_)] hs hd9 (holds_lk ⟨e59,e61,trivial⟩)
    have s:=s.more hE
    have z:=St.start w2
    refine ae h (c8 (h.ev rfl) (h.ev rfl)) rfl fun f h=>av ?_
    have e9:=h.holds 62 _ rfl
    refine ⟨?_,Ext.refl _,fun h9=>absurd h9 (by decide)⟩
    refine e9.trans ?_
    exact rfl
   ·refine ca 63 rfl (by decide) ?_
    intro f9 w2 hE hs hl
    have e5:f9.tmps.getD 5 undef=_:=du hl 5 (by kernel_rfl) (by kernel_rfl) (h.holds 5 _ rfl)
    have h:=aD [(5,_)] hs rfl (holds_lk ⟨e5,trivial⟩)
    refine am ab 1 h rfl fun f h=>av ?_
    have e9:=h.holds 63 _ rfl
    refine ⟨?_,rfl⟩
    refine e9.trans ?_
    exact rfl
   ·refine ca 64 rfl (by decide) ?_
    intro f9 w2 hE hs hl
    have e9:f9.tmps.getD 9 undef=_:=du hl 9 (by kernel_rfl) (by kernel_rfl) (h.holds 9 _ rfl)
    have h:=aD [(9,_)] hs rfl (holds_lk ⟨e9,trivial⟩)
    refine am ab 1 h rfl fun f h=>av ?_
    have e9:=h.holds 64 _ rfl
    refine ⟨?_,rfl⟩
    refine e9.trans ?_
    exact rfl
   ·refine ca 65 rfl (by decide) ?_
    intro f9 w2 hE hs hl
    have e64:f9.tmps.getD 64 undef=_:=bC hl 64 10 (by kernel_rfl) (by kernel_rfl)
    have h:=aD [(64,_)] hs rfl (holds_lk ⟨e64,trivial⟩)
    refine ae h (ea (h.ev rfl) (h.ev rfl) (by omega)) rfl fun f h=>av ?_
    have e9:=h.holds 65 _ rfl
    refine ⟨?_,rfl⟩
    refine e9.trans ?_
    exact rfl
   ·refine ca 66 rfl (by decide) ?_
    intro f9 w2 hE hs hl
    have e63:f9.tmps.getD 63 undef=_:=bC hl 63 9 (by kernel_rfl) (by kernel_rfl)
    have e65:f9.tmps.getD 65 undef=_:=bC hl 65 11 (by kernel_rfl) (by kernel_rfl)
    have h:=aD [(63,_),(65,_)] hs rfl (holds_lk ⟨e63,e65,trivial⟩)
    refine ae h (a7 (bI.of_own (s.getSl 0 rfl)) (t2 - 7) Tryz.underlying176 ej (h.ev rfl) (h.ev rfl) (by omega) (by omega)) rfl fun f h=>av ?_
    have e9:=h.holds 66 _ rfl
    refine ⟨?_,rfl⟩
    refine e9.trans ?_
    exact rfl
   ·refine cM 67 rfl (by decide) (by decide) ?_
    intro f9 w2 hE hs hd9 hl
    have e66:f9.tmps.getD 66 undef=_:=bC hl 66 12 (by kernel_rfl) (by kernel_rfl)
    have h:=aD [(66,_)] hs hd9 (holds_lk ⟨e66,trivial⟩)
    have s:=s.more hE
    have z:=St.start w2
    refine ag ((bI.of_own (s.getSl 0 rfl)).el1 (t2 - 7) (V:=wv (cA (sb cx) (t2 - 7))) (ef _ _ _ (by omega))) h co rfl rfl fun f h=>av ?_
    have e9:=h.holds 67 _ rfl
    refine ⟨?_,Ext.refl _,fun h9=>absurd h9 (by decide)⟩
    refine e9.trans ?_
    exact rfl
   ·refine cM 68 rfl (by decide) (by decide) ?_
    intro f9 w2 hE hs hd9 hl
    have e62:f9.tmps.getD 62 undef=_:=bC hl 62 8 (by kernel_rfl) (by kernel_rfl)
    have e67:f9.tmps.getD 67 undef=_:=bC hl 67 13 (by kernel_rfl) (by kernel_rfl)
    have h:=aD [(62,_),(67,_)] hs hd9 (holds_lk ⟨e62,e67,trivial⟩)
    have s:=s.more hE
    have z:=St.start w2
    refine ae h (dc (h.ev rfl) (h.ev rfl)) rfl fun f h=>av ?_
    have e9:=h.holds 68 _ rfl
    refine ⟨?_,Ext.refl _,fun h9=>absurd h9 (by decide)⟩
    refine e9.trans ?_
    exact rfl
   ·refine ca 69 rfl (by decide) ?_
    intro f9 w2 hE hs hl
    have e10:f9.tmps.getD 10 undef=_:=du hl 10 (by kernel_rfl) (by kernel_rfl) (h.holds 10 _ rfl)
    have h:=aD [(10,_)] hs rfl (holds_lk ⟨e10,trivial⟩)
    refine am ab 1 h rfl fun f h=>av ?_
    have e9:=h.holds 69 _ rfl
    refine ⟨?_,rfl⟩
    refine e9.trans ?_
    exact rfl
   ·refine cM 70 rfl (by decide) (by decide) ?_
    intro f9 w2 hE hs hd9 hl
    have e69:f9.tmps.getD 69 undef=_:=bC hl 69 15 (by kernel_rfl) (by kernel_rfl)
    have h:=aD [(69,_)] hs hd9 (holds_lk ⟨e69,trivial⟩)
    have s:=s.more hE
    have z:=St.start w2
    refine bq h s jx (fO _ 7 (by decide) _) rfl rfl ?_;intro f w1 v9 hT hE h s;obtain rfl:=hT
    refine av ?_
    have e9:=h.holds 70 _ rfl
    refine ⟨?_,hE,fun h9=>absurd h9 (by decide)⟩
    refine e9.trans ?_
    exact rfl
   ·refine ca 71 rfl (by decide) ?_
    intro f9 w2 hE hs hl
    have e10:f9.tmps.getD 10 undef=_:=du hl 10 (by kernel_rfl) (by kernel_rfl) (h.holds 10 _ rfl)
    have h:=aD [(10,_)] hs rfl (holds_lk ⟨e10,trivial⟩)
    refine am ab 1 h rfl fun f h=>av ?_
    have e9:=h.holds 71 _ rfl
    refine ⟨?_,rfl⟩
    refine e9.trans ?_
    exact rfl
   ·refine cM 72 rfl (by decide) (by decide) ?_
    intro f9 w2 hE hs hd9 hl
    have e71:f9.tmps.getD 71 undef=_:=bC hl 71 17 (by kernel_rfl) (by kernel_rfl)
    have h:=aD [(71,_)] hs hd9 (holds_lk ⟨e71,trivial⟩)
    have s:=s.more hE
    have z:=St.start w2
    refine bq h s jx (fO _ 18 (by decide) _) rfl rfl ?_;intro f w1 v9 hT hE h s;obtain rfl:=hT
    refine av ?_
    have e9:=h.holds 72 _ rfl
    refine ⟨?_,hE,fun h9=>absurd h9 (by decide)⟩
    refine e9.trans ?_
    exact rfl
   ·refine cM 73 rfl (by decide) (by decide) ?_
    intro f9 w2 hE hs hd9 hl
    have e70:f9.tmps.getD 70 undef=_:=bC hl 70 16 (by kernel_rfl) (by kernel_rfl)
    have e72:f9.tmps.getD 72 undef=_:=bC hl 72 18 (by kernel_rfl) (by kernel_rfl)
    have h:=aD [(70,_),(72,_)] hs hd9 (holds_lk ⟨e70,e72,trivial⟩)
    have s:=s.more hE
    have z:=St.start w2
    refine ae h (c8 (h.ev rfl) (h.ev rfl)) rfl fun f h=>av ?_
    have e9:=h.holds 73 _ rfl
    refine ⟨?_,Ext.refl _,fun h9=>absurd h9 (by decide)⟩
    refine e9.trans ?_
    exact rfl
   ·refine ca 74 rfl (by decide) ?_
    intro f9 w2 hE hs hl
    have e10:f9.tmps.getD 10 undef=_:=du hl 10 (by kernel_rfl) (by kernel_rfl) (h.holds 10 _ rfl)
    have h:=aD [(10,_)] hs rfl (holds_lk ⟨e10,trivial⟩)
    refine am ab 1 h rfl fun f h=>av ?_
    have e9:=h.holds 74 _ rfl
    refine ⟨?_,rfl⟩
    refine e9.trans ?_
    exact rfl
   ·refine ca 75 rfl (by decide) ?_
    intro f9 w2 hE hs hl
    have e74:f9.tmps.getD 74 undef=_:=bC hl 74 20 (by kernel_rfl) (by kernel_rfl)
    have h:=aD [(74,_)] hs rfl (holds_lk ⟨e74,trivial⟩)
    refine ae h (lP 3 8 (h.ev rfl) (h.ev rfl) (by decide)) rfl fun f h=>av ?_
    have e9:=h.holds 75 _ rfl
    refine ⟨?_,rfl⟩
    refine e9.trans ?_
    exact rfl
   ·refine cM 76 rfl (by decide) (by decide) ?_
    intro f9 w2 hE hs hd9 hl
    have e73:f9.tmps.getD 73 undef=_:=bC hl 73 19 (by kernel_rfl) (by kernel_rfl)
    have e75:f9.tmps.getD 75 undef=_:=bC hl 75 21 (by kernel_rfl) (by kernel_rfl)
    have h:=aD [(73,_),(75,_)] hs hd9 (holds_lk ⟨e73,e75,trivial⟩)
    have s:=s.more hE
    have z:=St.start w2
    refine ae h (c8 (h.ev rfl) (h.ev rfl)) rfl fun f h=>av ?_
    have e9:=h.holds 76 _ rfl
    refine ⟨?_,Ext.refl _,fun h9=>absurd h9 (by decide)⟩
    refine e9.trans ?_
    exact rfl
   ·refine cM 77 rfl (by decide) (by decide) ?_
    intro f9 w2 hE hs hd9 hl
    have e68:f9.tmps.getD 68 undef=_:=bC hl 68 14 (by kernel_rfl) (by kernel_rfl)
    have e76:f9.tmps.getD 76 undef=_:=bC hl 76 22 (by kernel_rfl) (by kernel_rfl)
    have h:=aD [(68,_),(76,_)] hs hd9 (holds_lk ⟨e68,e76,trivial⟩)
    have s:=s.more hE
    have z:=St.start w2
    refine ae h (dc (h.ev rfl) (h.ev rfl)) rfl fun f h=>av ?_
    have e9:=h.holds 77 _ rfl
    refine ⟨?_,Ext.refl _,fun h9=>absurd h9 (by decide)⟩
    refine e9.trans ?_
    exact rfl
   ·refine ca 78 rfl (by decide) ?_
    intro f9 w2 hE hs hl
    have e5:f9.tmps.getD 5 undef=_:=du hl 5 (by kernel_rfl) (by kernel_rfl) (h.holds 5 _ rfl)
    have h:=aD [(5,_)] hs rfl (holds_lk ⟨e5,trivial⟩)
    refine am ab 1 h rfl fun f h=>av ?_
    have e9:=h.holds 78 _ rfl
    refine ⟨?_,rfl⟩
    refine e9.trans ?_
    exact rfl
   ·refine ca 79 rfl (by decide) ?_
    intro f9 w2 hE hs hl
    have e9:f9.tmps.getD 9 undef=_:=du hl 9 (by kernel_rfl) (by kernel_rfl) (h.holds 9 _ rfl)
    have h:=aD [(9,_)] hs rfl (holds_lk ⟨e9,trivial⟩)
    refine am ab 1 h rfl fun f h=>av ?_
    have e9:=h.holds 79 _ rfl
    refine ⟨?_,rfl⟩
    refine e9.trans ?_
    exact rfl
   ·refine ca 80 rfl (by decide) ?_
    intro f9 w2 hE hs hl
    have e79:f9.tmps.getD 79 undef=_:=bC hl 79 25 (by kernel_rfl) (by kernel_rfl)
    have h:=aD [(79,_)] hs rfl (holds_lk ⟨e79,trivial⟩)
    refine ae h (ea (h.ev rfl) (h.ev rfl) (by omega)) rfl fun f h=>av ?_
    have e9:=h.holds 80 _ rfl
    refine ⟨?_,rfl⟩
    refine e9.trans ?_
    exact rfl
   ·refine ca 81 rfl (by decide) ?_
    intro f9 w2 hE hs hl
    have e78:f9.tmps.getD 78 undef=_:=bC hl 78 24 (by kernel_rfl) (by kernel_rfl)
    have e80:f9.tmps.getD 80 undef=_:=bC hl 80 26 (by kernel_rfl) (by kernel_rfl)
    have h:=aD [(78,_),(80,_)] hs rfl (holds_lk ⟨e78,e80,trivial⟩)
    refine ae h (a7 (bI.of_own (s.getSl 0 rfl)) (t2 - 16) Tryz.underlying176 ej (h.ev rfl) (h.ev rfl) (by omega) (by omega)) rfl fun f h=>av ?_
    have e9:=h.holds 81 _ rfl
    refine ⟨?_,rfl⟩
    refine e9.trans ?_
    exact rfl
   ·refine cM 82 rfl (by decide) (by decide) ?_
    intro f9 w2 hE hs hd9 hl
    have e81:f9.tmps.getD 81 undef=_:=bC hl 81 27 (by kernel_rfl) (by kernel_rfl)
    have h:=aD [(81,_)] hs hd9 (holds_lk ⟨e81,trivial⟩)
    have s:=s.more hE
    have z:=St.start w2
    refine ag ((bI.of_own (s.getSl 0 rfl)).el1 (t2 - 16) (V:=wv (cA (sb cx) (t2 - 16))) (ef _ _ _ (by omega))) h co rfl rfl fun f h=>av ?_
    have e9:=h.holds 82 _ rfl
    refine ⟨?_,Ext.refl _,fun h9=>absurd h9 (by decide)⟩
    refine e9.trans ?_
    exact rfl
   ·exact gQ (by decide) (by decide)
   ·exact gQ (by decide) (by decide)
   ·exact gQ (by decide) (by decide)
   ·exact gQ (by decide) (by decide)
   ·intro f9 w2 hE hs hd9 hWp hT hR hFr hDj
    replace h:=sl_new (ops:=_) [(54,_),(55,_),(56,_),(57,_),(58,_),(59,_),(60,_),(61,_),(62,_),(63,_),(64,_),(65,_),(66,_),(67,_),(68,_),(69,_),(70,_),(71,_),(72,_),(73,_),(74,_),(75,_),(76,_),(77,_),(78,_),(79,_),(80,_),(81,_),(82,_)] h hs hd9 hR ⟨hT 0 54 (by decide) rfl,hT 1 55 (by decide) rfl,hT 2 56 (by decide) rfl,hT 3 57 (by decide) rfl,hT 4 58 (by decide) rfl,hT 5 59 (by decide) rfl,hT 6 60 (by decide) rfl,hT 7 61 (by decide) rfl,hT 8 62 (by decide) rfl,hT 9 63 (by decide) rfl,hT 10 64 (by decide) rfl,hT 11 65 (by decide) rfl,hT 12 66 (by decide) rfl,hT 13 67 (by decide) rfl,hT 14 68 (by decide) rfl,hT 15 69 (by decide) rfl,hT 16 70 (by decide) rfl,hT 17 71 (by decide) rfl,hT 18 72 (by decide) rfl,hT 19 73 (by decide) rfl,hT 20 74 (by decide) rfl,hT 21 75 (by decide) rfl,hT 22 76 (by decide) rfl,hT 23 77 (by decide) rfl,hT 24 78 (by decide) rfl,hT 25 79 (by decide) rfl,hT 26 80 (by decide) rfl,hT 27 81 (by decide) rfl,hT 28 82 (by decide) rfl,trivial⟩ (by kernel_rfl)
    replace s:=s.more hE
    clear hT hR hFr hDj
    refine kq.of ?_
    refine ae h (aV (wv (cA (sb cx) t2)) (dc (h.ev rfl) (h.ev rfl)) (congrArg wv (Aa _ t2 (by omega) (by omega)).symm)) rfl fun f h=>bn (vs:=[wv (cA (sb cx) t2)]) [.tmp 83] h s Tryz.underlying176 iY rfl rfl (by simp [Value.cells,wv]) rfl rfl rfl fun f w1 v84 h s=>cq 1 0 h s Tryz.underlying176 iY rfl rfl rfl rfl (by decide) (by simp [Value.oneCell',Value.cells,wv]) (by unfold maxLen;omega) (by omega) rfl fun f w1 v85 h s=>?_
    replace s:=s.pick _ (List.sublist_cons_self _ _)
    refine am ab 1 h rfl fun f h=>av (ba (aE (rs ab 1 h rfl fun f h=>ae h (a6 (h.ev rfl) (h.ev rfl) (by omega)) rfl fun f h=>e9 ab 1 h rfl fun f h=>?_)))
    exact ⟨_,by omega,⟨t2+1,v85,h.only ⟨rfl,rfl,rfl,aq rfl (by omega),trivial⟩,St.as s ⟨eJ (by omega) (sZ _ t2).symm,trivial⟩,rfl,by omega,by omega⟩⟩
  ·refine wpIn_exit (aU (aU (bR (aE (bH ab 2 h rfl fun f h=>qr (bq h s Kn (C5 _) rfl rfl ?_))))));intro f w1 vk hT hE h sq;replace s:=s.sl_new hE hT
   refine e9 ab 1 h rfl fun f h=>al (bH ab 1 h rfl fun f h=>wpIn_block (wpIn_loop_ghost (fun nn aa ww=>∃ k:Nat,∃ vv:Value,Sl 122 aa [(0,vh),(1,.string cx),(87,vk),(5,vc),(12,vv),(13,vk),(14,.int .i64 (k:Int))]∧St w [.sl vk 180 1 64 (wL iJ 64),.sl vc 180 1 64 (wL (cA (sb cx)) 64)] ww∧nn=64 - k∧k≤64∧bI ww vv 1 8 (wL (iq s9 (cA (sb cx)) k).at 8)) (64 - (0)) ⟨0,vh,h.only ⟨rfl,rfl,rfl,rfl,rfl,rfl,aq rfl (by omega),trivial⟩,s.as ⟨rfl,eJ (by omega) (by rw [show t2=64 from by omega]),trivial⟩,rfl,Nat.zero_le _,hh.keep s.ext⟩ ?_))
   rintro _ f w1 ⟨k,vv,h,s,hnn,hp0,hp1⟩
   refine al (bH ab 2 h rfl fun f h=>cV h rfl (fun hc=>?_) (fun hc=>?_))
   ·refine kt (al (wpIn_block (eo 9 h (by kernel_rfl) (az ab 3 h rfl fun f h=>au h (a7 (bI.of_own (s.getSl 0 rfl)) (k) Tryz.underlying176 ej (h.ev rfl) (h.ev rfl) (by omega) (by omega)) rfl fun f h=>ay ((bI.of_own (s.getSl 0 rfl)).el1 (k) (V:=wv (iJ k)) (ef _ _ _ (by omega))) h co rfl rfl fun f h=>az ab 2 h rfl fun f h=>au h (a7 (bI.of_own (s.getSl 1 rfl)) (k) Tryz.underlying176 ej (h.ev rfl) (h.ev rfl) (by omega) (by omega)) rfl fun f h=>ay ((bI.of_own (s.getSl 1 rfl)).el1 (k) (V:=wv (cA (sb cx) k)) (ef _ _ _ (by omega))) h co rfl rfl fun f h=>Jw s fun w1 hE9 s=>?_))))
    replace hp1:=hp1.keep hE9
    refine bq h s KK (z7 _ _ _ _ _ hp1) rfl rfl ?_;intro f w1 v101 hT hE h s
    refine am ab 1 h rfl fun f h=>av (ba (aE (rs ab 1 h rfl fun f h=>ae h (a6 (h.ev rfl) (h.ev rfl) (by omega)) rfl fun f h=>e9 ab 1 h rfl fun f h=>?_)))
    exact ⟨_,by omega,⟨k+1,v101,h.only ⟨rfl,rfl,rfl,rfl,rfl,rfl,aq rfl (by omega),trivial⟩,St.as s ⟨rfl,rfl,trivial⟩,rfl,by omega,bI.of_own hT⟩⟩
   ·refine wpIn_exit (aU (aU (bR (aE (qr ?_)))))
    obtain ⟨wm,hwm,hvm,s⟩:=St.fork (X:=fun w9=>bI w9 vv 1 8 (wL (iq s9 (cA (sb cx)) 64).at 8)) s (by rw [show k=64 from by omega] at hp1;exact hp1)
    refine bn (vs:=[]) [] h s Tryz.underlying176 iY rfl rfl (by simp) rfl rfl rfl fun f w1 v102 h s=>e9 ab 1 h rfl fun f h=>al (bZ ab 1 h rfl fun f h=>dN h (hh.keep (hwm.trans s.ext)) Tryz.underlying176 rfl rfl fun f h=>e9 ab 1 h rfl fun f h=>wpIn_block (wpIn_loop_ghost (fun nn aa ww=>∃ i:Nat,∃ vo:Value,Sl 122 aa [(0,vh),(1,.string cx),(12,vv),(15,vo),(104,.int .i64 8),(105,.int .i64 (i:Int))]∧St wm [.sl vo 180 1 i (wL (pg s9 (cA (sb cx))) i)] ww∧nn=8 - i∧i≤8) (8 - (0)) ⟨0,v102,h.only ⟨rfl,rfl,rfl,rfl,aq rfl (by omega),aq rfl (by omega),trivial⟩,s.as ⟨eJ rfl rfl,trivial⟩,rfl,Nat.zero_le _⟩ ?_))
    rintro _ f w1 ⟨i,vo,h,s,hnn,hp0⟩
    refine bH ab 1 h rfl fun f h=>al (cV h rfl (fun hc=>?_) (fun hc=>?_))
    ·refine kt (al (wpIn_block (bH ab 2 h rfl fun f h=>?_)))
     have hbs:=s.ext.le
     refine' tP 9 [0,1,2,3,5,6,7] [] [[],[],[],[1,2],[1,2,3],[],[],[5,6],[5,6,7],[1,2,3,4,5,6,7,8],[1,2,3,4,5,6,7,8,9],[0,1,2,3,4,5,6,7,8,9,10],[0,1,2,3,4,5,6,7,8,9,10,11]] (is _::is _::is _::is _::is _::is _::is _::is _::is _::is undef::is undef::is undef::is undef::[]) (fun _=>True) h s (by kernel_rfl) (by kernel_rfl) (by kernel_rfl) (by kernel_rfl) rfl (fun _ _ h _=>h) (trivial) ⟨⟨_,rfl⟩,⟨_,rfl⟩,⟨_,rfl⟩,⟨_,rfl⟩,⟨_,rfl⟩,⟨_,rfl⟩,⟨_,rfl⟩,trivial⟩ ⟨aR _,aR _,aR _,aR _,aR _,aR _,aR _,aR _,aR _,aR _,aR _,aR _,aR _,trivial⟩ (And.intro ?_ (And.intro ?_ (And.intro ?_ (And.intro ?_ (And.intro ?_ (And.intro ?_ (And.intro ?_ (And.intro ?_ (And.intro ?_ (And.intro ?_ (And.intro ?_ (And.intro ?_ (And.intro ?_ (trivial)))))))))))))) ?_
     rotate_left 9
     ·refine ca 108 rfl (by decide) ?_
      intro f9 w2 hE hs hl
      have e15:f9.tmps.getD 15 undef=_:=du hl 15 (by kernel_rfl) (by kernel_rfl) (h.holds 15 _ rfl)
      have h:=aD [(15,_)] hs rfl (holds_lk ⟨e15,trivial⟩)
      refine am ab 1 h rfl fun f h=>av ?_
      have e9:=h.holds 108 _ rfl
      refine ⟨?_,rfl⟩
      refine e9.trans ?_
      exact rfl
     ·refine ca 109 rfl (by decide) ?_
      intro f9 w2 hE hs hl
      have e0:f9.tmps.getD 0 undef=_:=du hl 0 (by kernel_rfl) (by kernel_rfl) (h.holds 0 _ rfl)
      have h:=aD [(0,_)] hs rfl (holds_lk ⟨e0,trivial⟩)
      refine am ab 1 h rfl fun f h=>av ?_
      have e9:=h.holds 109 _ rfl
      refine ⟨?_,rfl⟩
      refine e9.trans ?_
      exact rfl
     ·refine ca 110 rfl (by decide) ?_
      intro f9 w2 hE hs hl
      have e16:f9.tmps.getD 16 undef=_:=du hl 16 (by kernel_rfl) (by kernel_rfl) (h.holds 16 _ rfl)
      have h:=aD [(16,_)] hs rfl (holds_lk ⟨e16,trivial⟩)
      refine am ab 1 h rfl fun f h=>av ?_
      have e9:=h.holds 110 _ rfl
      refine ⟨?_,rfl⟩
      refine e9.trans ?_
      exact rfl
     ·refine ca 111 rfl (by decide) ?_
      intro f9 w2 hE hs hl
      have e109:f9.tmps.getD 109 undef=_:=bC hl 109 1 (by kernel_rfl) (by kernel_rfl)
      have e110:f9.tmps.getD 110 undef=_:=bC hl 110 2 (by kernel_rfl) (by kernel_rfl)
      have h:=aD [(109,_),(110,_)] hs rfl (holds_lk ⟨e109,e110,trivial⟩)
      refine ae h (a7 (hh.keep (hwm.trans s.ext)) (i) Tryz.underlying176 ej (h.ev rfl) (h.ev rfl) (by omega) (by omega)) rfl fun f h=>av ?_
      have e9:=h.holds 111 _ rfl
      refine ⟨?_,rfl⟩
      refine e9.trans ?_
      exact rfl
     ·refine cM 112 rfl (by decide) (by decide) ?_
      intro f9 w2 hE hs hd9 hl
      have e111:f9.tmps.getD 111 undef=_:=bC hl 111 3 (by kernel_rfl) (by kernel_rfl)
      have h:=aD [(111,_)] hs hd9 (holds_lk ⟨e111,trivial⟩)
      have s:=s.more hE
      have z:=St.start w2
      refine ag ((hh.keep (hwm.trans s.ext)).el1 (i) (V:=wv (s9 i)) (ef _ _ _ (by omega))) h co rfl rfl fun f h=>av ?_
      have e9:=h.holds 112 _ rfl
      refine ⟨?_,Ext.refl _,fun h9=>absurd h9 (by decide)⟩
      refine e9.trans ?_
      exact rfl
     ·refine ca 113 rfl (by decide) ?_
      intro f9 w2 hE hs hl
      have e12:f9.tmps.getD 12 undef=_:=du hl 12 (by kernel_rfl) (by kernel_rfl) (h.holds 12 _ rfl)
      have h:=aD [(12,_)] hs rfl (holds_lk ⟨e12,trivial⟩)
      refine am ab 1 h rfl fun f h=>av ?_
      have e9:=h.holds 113 _ rfl
      refine ⟨?_,rfl⟩
      refine e9.trans ?_
      exact rfl
     ·refine ca 114 rfl (by decide) ?_
      intro f9 w2 hE hs hl
      have e16:f9.tmps.getD 16 undef=_:=du hl 16 (by kernel_rfl) (by kernel_rfl) (h.holds 16 _ rfl)
      have h:=aD [(16,_)] hs rfl (holds_lk ⟨e16,trivial⟩)
      refine am ab 1 h rfl fun f h=>av ?_
      have e9:=h.holds 114 _ rfl
      refine ⟨?_,rfl⟩
      refine e9.trans ?_
      exact rfl
     ·refine ca 115 rfl (by decide) ?_
      intro f9 w2 hE hs hl
      have e113:f9.tmps.getD 113 undef=_:=bC hl 113 5 (by kernel_rfl) (by kernel_rfl)
      have e114:f9.tmps.getD 114 undef=_:=bC hl 114 6 (by kernel_rfl) (by kernel_rfl)
      have h:=aD [(113,_),(114,_)] hs rfl (holds_lk ⟨e113,e114,trivial⟩)
      refine ae h (a7 (hvm.keep s.ext) (i) Tryz.underlying176 ej (h.ev rfl) (h.ev rfl) (by omega) (by omega)) rfl fun f h=>av ?_
      have e9:=h.holds 115 _ rfl
      refine ⟨?_,rfl⟩
      refine e9.trans ?_
      exact rfl
     ·refine cM 116 rfl (by decide) (by decide) ?_
      intro f9 w2 hE hs hd9 hl
      have e115:f9.tmps.getD 115 undef=_:=bC hl 115 7 (by kernel_rfl) (by kernel_rfl)
      have h:=aD [(115,_)] hs hd9 (holds_lk ⟨e115,trivial⟩)
      have s:=s.more hE
      have z:=St.start w2
      refine ag ((hvm.keep s.ext).el1 (i) (V:=wv ((iq s9 (cA (sb cx)) 64).at i)) (ef _ _ _ (by omega))) h co rfl rfl fun f h=>av ?_
      have e9:=h.holds 116 _ rfl
      refine ⟨?_,Ext.refl _,fun h9=>absurd h9 (by decide)⟩
      refine e9.trans ?_
      exact rfl
     ·exact gQ (by decide) (by decide)
     ·exact gQ (by decide) (by decide)
     ·exact gQ (by decide) (by decide)
     ·exact gQ (by decide) (by decide)
     ·intro f9 w2 hE hs hd9 hWp hT hR hFr hDj
      replace h:=sl_new (ops:=_) [(108,_),(109,_),(110,_),(111,_),(112,_),(113,_),(114,_),(115,_),(116,_)] h hs hd9 hR ⟨hT 0 108 (by decide) rfl,hT 1 109 (by decide) rfl,hT 2 110 (by decide) rfl,hT 3 111 (by decide) rfl,hT 4 112 (by decide) rfl,hT 5 113 (by decide) rfl,hT 6 114 (by decide) rfl,hT 7 115 (by decide) rfl,hT 8 116 (by decide) rfl,trivial⟩ (by kernel_rfl)
      replace s:=s.more hE
      clear hT hR hFr hDj
      refine kq.of ?_
      refine ae h (dc (h.ev rfl) (h.ev rfl)) rfl fun f h=>bn (vs:=[wv (pg s9 (cA (sb cx)) i)]) [.tmp 117] h s Tryz.underlying176 iY rfl rfl (by simp [Value.cells,wv]) rfl rfl rfl fun f w1 v118 h s=>cq 1 0 h s Tryz.underlying176 iY rfl rfl rfl rfl (by decide) (by simp [Value.oneCell',Value.cells,wv]) (by unfold maxLen;omega) (by omega) rfl fun f w1 v119 h s=>?_
      replace s:=s.pick _ (List.sublist_cons_self _ _)
      refine am ab 1 h rfl fun f h=>av (ba (aE (aF (ae h (a6 (h.ev rfl) (h.ev rfl) (by omega)) rfl fun f h=>e9 ab 1 h rfl fun f h=>?_))))
      exact ⟨_,by omega,⟨i+1,v119,h.only ⟨rfl,rfl,rfl,rfl,aq rfl (by omega),aq rfl (by omega),trivial⟩,St.as s ⟨eJ (by omega) (sZ _ i).symm,trivial⟩,rfl,by omega⟩⟩
    ·refine wpIn_exit (aU (aU (bR (aE (bH ab 2 h rfl fun f h=>wpIn_ret ?_)))))
     replace s:=s.rebase hwm
     obtain rfl:i=8:=by omega
     exact aH rfl h s rfl (s.getSl 0 rfl)
theorem xF (sx:ByteArray) (hsz:sx.size<2147483648) (w:World):Calls Tryz.prog 122 [.string sx].toArray w (cp w (is (.string (oS sx)))):=by
 refine bF Tryz.func122 rfl Tryz.ntmps122 rfl fun f h s=>bH ab 1 h rfl fun f h=>bZ ab 1 h rfl fun f h=>HE h s Tryz.underlying9 Tryz.underlying162 Tryz.underlying5 rfl (by omega) rfl ?_;intro f w1 v8 h s
 refine e9 ab 1 h rfl fun f h=>bZ ab 1 h rfl fun f h=>bn (vs:=[.int .u8 128]) [.const (.int .u8 (128))] h s Tryz.underlying162 uV rfl rfl (by simp [Value.cells]) rfl rfl rfl fun f w1 v10 h s=>cq 1 0 h s Tryz.underlying162 uV rfl rfl rfl rfl (by decide) (by simp [Value.oneCell',Value.cells]) (by unfold maxLen;omega) (by omega) rfl fun f w1 v11 h s=>?_
 replace s:=s.pick _ (List.sublist_cons_self _ _)
 refine e9 ab 1 h rfl fun f h=>al (wpIn_block (wpIn_loop_ghost (fun nn aa ww=>∃ vb:Value,∃ k:Nat,Sl 39 aa [(0,.string sx),(8,v8),(9,v8),(10,v10),(3,vb)]∧St w [.sl vb 5 1 (sx.size+1+k) (CA (iS sx k 0))] ww∧nn=(120 - (sx.size+1+k) % 64) % 64∧k≤(120 - (sx.size+1) % 64) % 64) ((120 - (sx.size+1+(0)) % 64) % 64) ⟨v11,0,h.only ⟨rfl,rfl,rfl,rfl,rfl,trivial⟩,s.as ⟨eJ rfl (by simp [CA,iS,Value.cells]),trivial⟩,rfl,Nat.zero_le _⟩ ?_))
 rintro _ f w1 ⟨vb,k,h,s,hnn,hp0⟩
 refine al (bZ ab 1 h rfl fun f h=>eA 0 h s Tryz.underlying162 rfl rfl rfl fun f h=>ae h (kD (h.ev rfl) (h.ev rfl) (by omega)) rfl fun f h=>e9 ab 1 h rfl fun f h=>cV h rfl (fun hc=>?_) (fun hc=>?_))
 ·refine kt (wpIn_block (rs ab 1 h rfl fun f h=>bn (vs:=[.int .u8 0]) [.const (.int .u8 (0))] h s Tryz.underlying162 uV rfl rfl (by simp [Value.cells]) rfl rfl rfl fun f w1 v17 h s=>cq 1 0 h s Tryz.underlying162 uV rfl rfl rfl rfl (by decide) (by simp [Value.oneCell',Value.cells]) (by unfold maxLen;omega) (by omega) rfl fun f w1 v18 h s=>?_))
  replace s:=s.pick _ (List.sublist_cons_self _ _)
  refine am ab 1 h rfl fun f h=>av (ba (aE ?_))
  exact ⟨_,by omega,⟨v18,k+1,h.only ⟨rfl,rfl,rfl,rfl,rfl,trivial⟩,St.as s ⟨eJ (by omega) (by rw [Fg,← qS];rfl),trivial⟩,rfl,by omega⟩⟩
 ·refine wpIn_exit (aU (aU (bR (aE (bZ ab 1 h rfl fun f h=>ae h (ct Tryz.underlying9 (h.ev rfl)) rfl fun f h=>ae h (gK Tryz.underlying3 Tryz.underlying189 (h.ev rfl) (IntWalk.u64_in _ (by omega))) rfl fun f h=>ae h (aV (.int .u64 ((8*sx.size:Nat):Int)) (nl (h.ev rfl) (h.ev rfl)) (congrArg (Value.int .u64) ((IntWalk.u64_in _ (by omega)).trans (by omega)))) rfl fun f h=>e9 ab 1 h rfl fun f h=>bH ab 1 h rfl fun f h=>al (bH ab 1 h rfl fun f h=>wpIn_block (wpIn_loop_ghost (fun nn aa ww=>∃ vc:Value,∃ j:Nat,Sl 39 aa [(0,.string sx),(8,v8),(9,v8),(10,v10),(3,vc),(4,.int .u64 ((8*sx.size:Nat):Int)),(5,.int .u64 ((72057594037927936 / 256 ^ j:Nat):Int)),(6,.int .i64 (j:Int))]∧St w [.sl vc 5 1 (sx.size+1+k+j) (CA (iS sx k j))] ww∧nn=8 - j∧j≤8) (8 - (0)) ⟨vb,0,h.only ⟨rfl,rfl,rfl,rfl,rfl,rfl,aq rfl (by decide),aq rfl (by omega),trivial⟩,s.as ⟨eJ rfl rfl,trivial⟩,rfl,Nat.zero_le _⟩ ?_)))))))
  rintro _ f w1 ⟨vc,j,h,s,hnn,hp0⟩
  have hq:=KU j
  refine al (bH ab 2 h rfl fun f h=>cV h rfl (fun hc=>?_) (fun hc=>?_))
  ·refine kt (al (wpIn_block (bZ ab 1 h rfl fun f h=>?_)))
   have hq8:=OZ j (by omega)
   refine am ab 2 h rfl fun f h=>ae h (aV (.int .u64 (Ii sx.size j:Int)) (qB (h.ev rfl) (h.ev rfl) (⟨by omega,by omega,hq8⟩)) (congrArg (Value.int .u64) (Int.natCast_ediv _ _).symm)) rfl fun f h=>ae h (aV (.int .u64 ((Ii sx.size j % 256:Nat):Int)) (kD (h.ev rfl) (h.ev rfl) (by omega)) (congrArg (Value.int .u64) (by omega))) rfl fun f h=>ae h (aV (.int .u8 ((Ii sx.size j % 256:Nat):Int)) (gf Tryz.underlying189 Tryz.underlying5 (h.ev rfl)) (congrArg (Value.int .u8) (by omega))) rfl fun f h=>bn (vs:=[.int .u8 ((Ii sx.size j % 256:Nat):Int)]) [.tmp 32] h s Tryz.underlying162 uV rfl rfl (by simp [Value.cells]) rfl rfl rfl fun f w1 v33 h s=>cq 1 0 h s Tryz.underlying162 uV rfl rfl rfl rfl (by decide) (by simp [Value.oneCell',Value.cells]) (by unfold maxLen;omega) (by omega) rfl fun f w1 v34 h s=>?_
   replace s:=s.pick _ (List.sublist_cons_self _ _)
   refine e9 ab 1 h rfl fun f h=>rs ab 1 h rfl fun f h=>ae h (qB (h.ev rfl) (h.ev rfl) (⟨by omega,by omega,by decide⟩)) rfl fun f h=>am ab 1 h rfl fun f h=>av (ba (aE (rs ab 1 h rfl fun f h=>ae h (a6 (h.ev rfl) (h.ev rfl) (by omega)) rfl fun f h=>e9 ab 1 h rfl fun f h=>?_)))
   exact ⟨_,by omega,⟨v34,j+1,h.only ⟨rfl,rfl,rfl,rfl,rfl,rfl,aq rfl (Nk j),aq rfl (by omega),trivial⟩,St.as s ⟨eJ (by omega) (by rw [Fl,← qS];rfl),trivial⟩,rfl,by omega⟩⟩
  ·refine wpIn_exit (aU (aU (bR (aE (bZ ab 1 h rfl fun f h=>BJ 0 h s Tryz.underlying162 Tryz.underlying5 Tryz.underlying9 rfl rfl rfl ?_)))));intro f h
   refine e9 ab 1 h rfl fun f h=>wpIn_ret (aH rfl h s rfl (by show _=_;rw [show k=(120 - (sx.size+1) % 64) % 64 from by omega,show j=8 from by omega];rfl))
theorem uM (sx:ByteArray) (hsz:sx.size<2147483648) (w:World):Calls Tryz.prog 107 [.string sx].toArray w (cp w (is (gp (qI sx)))):=by
 have Bx:=oB sx
 have hfs:=mV sx
 refine bF Tryz.func107 rfl Tryz.ntmps107 rfl fun f h s=>qr (aK (aA 0#256) h s dS rfl rfl fun f w1 b2 h s=>nt (qr (bq h s Jv (Bg _) rfl rfl ?_)));intro f w1 vk hT hE h sq;replace s:=s.sl_new hE hT
 refine e9 ab 1 h rfl fun f h=>bZ ab 1 h rfl fun f h=>bq h s IF (xF _ (by omega) _) rfl rfl ?_;intro f w1 v9 hT hE h s;obtain rfl:=hT
 refine e9 ab 1 h rfl fun f h=>al (bH ab 1 h rfl fun f h=>wpIn_block (wpIn_loop_ghost (fun nn aa ww=>∃ d:Nat,∃ vv:Value,Sl 64 aa [(0,.string sx),(2,.pointer (some ⟨b2,0,none⟩)),(3,vv),(4,.string (oS sx)),(5,.int .i64 ((64*d:Nat):Int))]∧St w [.sl vv 180 1 8 (wL (Hs sx d) 8),.blk b2 (.cells (aA 0#256) 26)] ww∧nn=jB sx - d∧d≤jB sx) (jB sx - (0)) ⟨0,vk,h.only ⟨rfl,rfl,rfl,rfl,aq rfl rfl,trivial⟩,s.as ⟨eJ rfl rfl,rfl,trivial⟩,rfl,Nat.zero_le _⟩ ?_))
 rintro _ f w1 ⟨d,vv,h,s,hnn,hp0⟩
 refine al (bZ ab 2 h rfl fun f h=>ae h (aV (.int .i64 ((64*jB sx:Nat):Int)) (ct Tryz.underlying9 (h.ev rfl)) (by rw [hfs])) rfl fun f h=>e9 ab 1 h rfl fun f h=>cV h rfl (fun hc=>?_) (fun hc=>?_))
 ·refine kt (al (wpIn_block (rs ab 4 h rfl fun f h=>ae h (a6 (h.ev rfl) (h.ev rfl) (by omega)) rfl fun f h=>ae h (nQ (64*d) (64*d+64) Tryz.underlying9 (h.ev rfl) (h.ev rfl) (h.ev rfl) (by omega) (by omega) (by omega) (by omega)) rfl fun f h=>bq h s KZ (AL _ _ _ (Lp sx d (by omega)) _ (bI.of_own (s.getSl 0 rfl))) rfl rfl ?_)));intro f w1 v24 hT hE h sq;replace s:=s.sl_new hE hT
  refine am ab 1 h rfl fun f h=>av (ba (aE (rs ab 1 h rfl fun f h=>ae h (a6 (h.ev rfl) (h.ev rfl) (by omega)) rfl fun f h=>e9 ab 1 h rfl fun f h=>?_)))
  exact ⟨_,by omega,⟨d+1,v24,h.only ⟨rfl,rfl,rfl,rfl,aq rfl (by omega),trivial⟩,St.as (s.pick _ (List.Sublist.cons_cons _ (List.Sublist.cons _ (List.Sublist.cons_cons _ (List.nil_sublist _))))) ⟨eJ rfl (Hx sx d (by omega)),rfl,trivial⟩,rfl,by omega⟩⟩
 ·refine wpIn_exit (aU (aU (bR (aE (qr (ae h (dA d8) rfl fun f h=>aK (aA 0#256) h s dS rfl rfl fun f w1 b6 h s=>aj 0 h s aN rfl rfl rfl (by first|exact ai _|exact ah _ _) (by first|exact ai _|exact ah _ _) (by first|exact bE _|exact bc _ _) fun w1 s=>nt (al (bZ ab 1 h rfl fun f h=>eA 1 h s Tryz.underlying176 rfl rfl rfl fun f h=>e9 ab 1 h rfl fun f h=>wpIn_block (wpIn_loop_ghost (fun nn aa ww=>∃ i:Nat,Sl 64 aa [(0,.string sx),(2,.pointer (some ⟨b2,0,none⟩)),(3,vv),(6,.pointer (some ⟨b6,0,none⟩)),(26,vv),(27,.int .i64 8),(28,.int .i64 (i:Int))]∧St w [.blk b6 (.cells (aO (AG (Hs sx (jB sx)) (4*i)) 32) 26),.sl vv 180 1 8 (wL (Hs sx (jB sx)) 8),.blk b2 (.cells (aA 0#256) 26)] ww∧nn=8 - i∧i≤8) (8 - (0)) ⟨0,h.only ⟨rfl,rfl,rfl,rfl,rfl,aq rfl (by omega),aq rfl (by omega),trivial⟩,s.as ⟨da (wc _),eJ rfl (by rw [show d=jB sx from by omega]),rfl,trivial⟩,rfl,Nat.zero_le _⟩ ?_)))))))))
  rintro _ f w1 ⟨i,h,s,hnn,hp0⟩
  refine bH ab 1 h rfl fun f h=>al (cV h rfl (fun hc=>?_) (fun hc=>?_))
  ·refine kt (al (wpIn_block (bZ ab 1 h rfl fun f h=>ae h (a7 (bI.of_own (s.getSl 1 rfl)) (i) Tryz.underlying176 ej (h.ev rfl) (h.ev rfl) (by omega) (by omega)) rfl fun f h=>ag ((bI.of_own (s.getSl 1 rfl)).el1 (i) (V:=wv ((Hs sx (jB sx)) i)) (ef _ _ _ (by omega))) h co rfl rfl fun f h=>e9 ab 2 h rfl fun f h=>bZ ab 1 h rfl fun f h=>ae h (mP (h.ev rfl) (h.ev rfl) (by omega)) rfl fun f h=>am ab 1 h rfl fun f h=>ae h (lP 24 16777216 (h.ev rfl) (h.ev rfl) (by decide)) rfl fun f h=>ae h (aV (.int .u8 ((iv (Hs sx (jB sx)) (4*i):Nat):Int)) (rf Tryz.underlying180 Tryz.underlying5 (h.ev rfl)) (congrArg (Value.int .u8) (by rw [← Px]))) rfl fun f h=>ae h (dF (4*i) Tryz.underlying26 ec (h.ev rfl) (h.ev rfl) (by omega) (by omega)) rfl fun f h=>bN 0 h s lm rfl rfl rfl (by simp;omega) (rfl) fun w1 s=>?_)))
   have s:=s.as (B':=[.blk b6 (.cells (aO (AG (Hs sx (jB sx)) (4*i+1)) 32) 26),.sl vv 180 1 8 (wL (Hs sx (jB sx)) 8),.blk b2 (.cells (aA 0#256) 26)]) ⟨da (lM (Hs sx (jB sx)) _),rfl,rfl,trivial⟩
   refine nt (bZ ab 1 h rfl fun f h=>ae h (mP (h.ev rfl) (h.ev rfl) (by omega)) rfl fun f h=>ae h (a6 (h.ev rfl) (h.ev rfl) (by omega)) rfl fun f h=>am ab 1 h rfl fun f h=>ae h (lP 16 65536 (h.ev rfl) (h.ev rfl) (by decide)) rfl fun f h=>ae h (kD (h.ev rfl) (h.ev rfl) (by omega)) rfl fun f h=>ae h (aV (.int .u8 ((iv (Hs sx (jB sx)) (4*i+1):Nat):Int)) (gf Tryz.underlying180 Tryz.underlying5 (h.ev rfl)) (congrArg (Value.int .u8) (by rw [← PR];omega))) rfl fun f h=>ae h (dF (4*i+1) Tryz.underlying26 ec (h.ev rfl) (h.ev rfl) (by omega) (by omega)) rfl fun f h=>bN 0 h s lm rfl rfl rfl (by simp;omega) (rfl) fun w1 s=>?_)
   have s:=s.as (B':=[.blk b6 (.cells (aO (AG (Hs sx (jB sx)) (4*i+2)) 32) 26),.sl vv 180 1 8 (wL (Hs sx (jB sx)) 8),.blk b2 (.cells (aA 0#256) 26)]) ⟨da (lM (Hs sx (jB sx)) _),rfl,rfl,trivial⟩
   refine nt (bZ ab 1 h rfl fun f h=>ae h (mP (h.ev rfl) (h.ev rfl) (by omega)) rfl fun f h=>ae h (a6 (h.ev rfl) (h.ev rfl) (by omega)) rfl fun f h=>am ab 1 h rfl fun f h=>ae h (lP 8 256 (h.ev rfl) (h.ev rfl) (by decide)) rfl fun f h=>ae h (kD (h.ev rfl) (h.ev rfl) (by omega)) rfl fun f h=>ae h (aV (.int .u8 ((iv (Hs sx (jB sx)) (4*i+2):Nat):Int)) (gf Tryz.underlying180 Tryz.underlying5 (h.ev rfl)) (congrArg (Value.int .u8) (by rw [← Pv];omega))) rfl fun f h=>ae h (dF (4*i+2) Tryz.underlying26 ec (h.ev rfl) (h.ev rfl) (by omega) (by omega)) rfl fun f h=>bN 0 h s lm rfl rfl rfl (by simp;omega) (rfl) fun w1 s=>?_)
   have s:=s.as (B':=[.blk b6 (.cells (aO (AG (Hs sx (jB sx)) (4*i+3)) 32) 26),.sl vv 180 1 8 (wL (Hs sx (jB sx)) 8),.blk b2 (.cells (aA 0#256) 26)]) ⟨da (lM (Hs sx (jB sx)) _),rfl,rfl,trivial⟩
   refine nt (rs ab 1 h rfl fun f h=>ae h (mP (h.ev rfl) (h.ev rfl) (by omega)) rfl fun f h=>ae h (a6 (h.ev rfl) (h.ev rfl) (by omega)) rfl fun f h=>am ab 1 h rfl fun f h=>ae h (kD (h.ev rfl) (h.ev rfl) (by omega)) rfl fun f h=>ae h (aV (.int .u8 ((iv (Hs sx (jB sx)) (4*i+3):Nat):Int)) (gf Tryz.underlying180 Tryz.underlying5 (h.ev rfl)) (congrArg (Value.int .u8) (by rw [← Pu];omega))) rfl fun f h=>ae h (dF (4*i+3) Tryz.underlying26 ec (h.ev rfl) (h.ev rfl) (by omega) (by omega)) rfl fun f h=>bN 0 h s lm rfl rfl rfl (by simp;omega) (rfl) fun w1 s=>?_)
   have s:=s.as (B':=[.blk b6 (.cells (aO (AG (Hs sx (jB sx)) (4*i+4)) 32) 26),.sl vv 180 1 8 (wL (Hs sx (jB sx)) 8),.blk b2 (.cells (aA 0#256) 26)]) ⟨da (lM (Hs sx (jB sx)) _),rfl,rfl,trivial⟩
   refine av (ba (aE (aF (ae h (a6 (h.ev rfl) (h.ev rfl) (by omega)) rfl fun f h=>e9 ab 1 h rfl fun f h=>?_))))
   exact ⟨_,by omega,⟨i+1,h.only ⟨rfl,rfl,rfl,rfl,rfl,aq rfl (by omega),aq rfl (by omega),trivial⟩,St.as s ⟨da (by rw [show 4*(i+1)=4*i+4 from by omega]),rfl,rfl,trivial⟩,rfl,by omega⟩⟩
  ·refine wpIn_exit (aU (aU (bR (aE (qr (ak 0 h s aN rfl rfl (by first|exact ai _|exact ah _ _) rfl fun f h=>aj 2 h s aN rfl rfl rfl (by first|exact ai _|exact ah _ _) (by first|exact ai _|exact ah _ _) (by first|exact bE _|exact bc _ _) fun w1 s=>nt (wpIn_ret (cR 2 rfl h s aN rfl rfl (by first|exact ai _|exact ah _ _) (by show _=_;rw [zT _ (4*i) (by omega)];rfl)))))))))
end Go.Proofs.YtobfeflheaobiaaGreatDoor
