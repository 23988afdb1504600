/- Moved: for every list of raw numbers and every two numbers that choose a path and a version the law Moved answers true and its run ends without a data race, whatever the order in which the goroutines of Load run. No condition. -/
import Derived.Test.YtcfhleenecfghaaGreatDoorK5
import Derived.Test.YtcfhleenecfghaaGreatDoorK6
set_option maxRecDepth 100000
namespace Go.Proofs.YtcfhleenecfghaaGreatDoor
theorem moved_card:Rows.MovedCardSaid:=aZG .later _ _ _ _ aSx (by as_aux_lemma=>kernel_rfl) aSy rfl ⟨rfl,rfl⟩ (by as_aux_lemma=>kernel_rfl) rfl (λf fn hf I=>by
 obtain rfl:f=10:=Option.some.inj (fN10.symm.trans hf)|>.symm;obtain rfl:fn=Tryz.f10:=(Option.some.inj (Tryz.func10.symm.trans I)).symm;exact⟨by as_aux_lemma=>kernel_rfl,λj t ht=>by
  rw[Tryz.params10]at ht;have hm:t∈[33,3,3]:=by simpa using Array.mem_of_getElem? ht
  have h:([33,3,3].all λu=>!Tryz.prog.wantsStandIn u)=true:=(by as_aux_lemma=>kernel_rfl);exact show Tryz.prog.wantsStandIn t=false by simpa using List.all_eq_true.1 h t hm⟩) (by as_aux_lemma=>kernel_rfl)
end Go.Proofs.YtcfhleenecfghaaGreatDoor
