/- Servers, what they send and take, by the reference. -/
import Derived.Test.YtobfeflheaobiaaDoorVg
import Derived.Test.YtobfeflheaobiaaDoorVp
set_option linter.unusedVariables false
set_option linter.unusedSimpArgs false
set_option linter.unusedSectionVars false
namespace Go.Proofs.YtobfeflheaobiaaDoor
open Go.RowKit
theorem rlikev_any (a b : Sv) (vt vu : Value) (w : World) (hT : RdT w vt a.tb) (hU : RdT w vu b.tb) (hal : a.tb.length ≤ 1000) (hbl : b.tb.length ≤ 1000) : Calls Tryd.prog 10 [.agg (svArr a.no a.sec vt), .agg (svArr b.no b.sec vu)].toArray w (Ret w (is (.bool (decide (a = b))))) := by
  refine c_en Tryd.func10 rfl Tryd.ntmps10 rfl fun f h s => qr (s_box (svArr a.no a.sec vt) h s rfl rfl rfl fun f w1 b2 h s => s_box (svArr b.no b.sec vu) h s rfl rfl rfl fun f w1 b3 h s => e9 hFT9 1 h rfl fun f h => c_seqN ?_)
  refine rs hFT9 1 h rfl fun f h => s_load_at1 (V := .int .i64 a.no) (cell_of_has (Has.of_own s 1 rfl) 0 (sv_n _ _ _)) h one3 rfl rfl fun f h => s_run hFT9 1 h rfl fun f h => s_load_at1 (V := .int .i64 b.no) (cell_of_has (Has.of_own s 0 rfl) 0 (sv_n _ _ _)) h one3 rfl rfl fun f h => s_ax hFT9 h rfl (fun h0 f h => ?_) (fun h0 f h => ?_)
  · refine e9 hFT9 15 h rfl fun f h => wpIn_ret (e_tmp rfl h s rfl (by show _ = _; rw [sv_like0 h0]))
  · skip
    cases h1 : (decide (a.sec = b.sec) : Bool)
    · refine s_run hFT9 2 h rfl fun f h => s_o h rfl (s_load_at1 (V := .string a.sec) (cell_of_has (Has.of_own s 1 rfl) 1 (sv_s _ _ _)) h one9 rfl rfl fun f h => s_run hFT9 1 h rfl fun f h => s_o h rfl (s_load_at1 (V := .string b.sec) (cell_of_has (Has.of_own s 0 rfl) 1 (sv_s _ _ _)) h one9 rfl rfl fun f h => s_o h rfl (s_pure h (ru_val (.bool false) (ru_eql_str (h.ev rfl) (h.ev rfl)) (congrArg Value.bool h1)) rfl fun f h => e9 hFT9 9 h rfl fun f h => wpIn_ret (e_tmp rfl h s rfl (by show _ = _; rw [sv_like1 h0 h1])))))
    · refine s_run hFT9 2 h rfl fun f h => s_o h rfl (s_load_at1 (V := .string a.sec) (cell_of_has (Has.of_own s 1 rfl) 1 (sv_s _ _ _)) h one9 rfl rfl fun f h => s_run hFT9 1 h rfl fun f h => s_o h rfl (s_load_at1 (V := .string b.sec) (cell_of_has (Has.of_own s 0 rfl) 1 (sv_s _ _ _)) h one9 rfl rfl fun f h => s_o h rfl (s_pure h (ru_val (.bool true) (ru_eql_str (h.ev rfl) (h.ev rfl)) (congrArg Value.bool h1)) rfl fun f h => s_run hFT9 3 h rfl fun f h => s_o h rfl (s_load_at1 (V := vt) (cell_of_has (Has.of_own s 1 rfl) 2 (sv_v _ _ _)) h one22 rfl rfl fun f h => s_run hFT9 1 h rfl fun f h => s_o h rfl (s_load_at1 (V := vu) (cell_of_has (Has.of_own s 0 rfl) 2 (sv_v _ _ _)) h one22 rfl rfl fun f h => s_o h rfl (s_cv h s fnc21 (rsamet_any a.tb b.tb vt vu _ (hT.keep s.ext) (hU.keep s.ext) hal hbl) rfl rfl fun f w1 h s => e9 hFT9 2 h rfl fun f h => wpIn_ret (e_tmp rfl h s rfl (by show _ = _; rw [sv_like2 h0 h1]))))))))
end Go.Proofs.YtobfeflheaobiaaDoor
