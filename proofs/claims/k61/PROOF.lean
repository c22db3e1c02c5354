import PyProof.Rows.All
import Wide.All
import OpenK.AllK
import Wide.FinOn
import Lean
import PyProof.EqAt
import PyProof.EqKinds
import PyProof.TupleCall
import PySem.Challenge.RW_frameback_k61_what_is_not_made
set_option Elab.async false
set_option linter.all false
set_option compiler.extract_closed false
set_option maxRecDepth 100000
namespace FB
open PySem PySem.W PyProof.Rows
noncomputable def tR (o:Obj):Option Obj:=match o with
 | ⟨_,_,.freed,_⟩=>none
 | o=>some o
noncomputable def tE (os:List Obj):Nat->List Addr->List (Option Obj) :=
 List.rec (motive:=λ_=>Nat->List Addr->List (Option Obj)) (λ_ as=>as.map λ_=>none) (λo _ ih i as=>List.casesOn as [] λa r=>cond (Nat.beq a i) (tR o::ih (i+1) r) (ih (i+1) (a::r))) os
theorem ve:∀ (os:List Obj) (i:Nat) (l:List (Addr×Obj)),tE os i (l.map (·.1))=l.map (λp=>some p.2)->∀ p∈l,∃ j:Nat,p.1=i+j/\os[j]?.bind tR=some p.2
 | [], i, l, h, p, hp => by
   cases l with
   | nil=>cases hp
   | cons q l=>cases (List.cons.inj (show none::_=some q.2::_ from h)).1
 | o::os,i,[],_,p,hp=>by cases hp
 | o :: os, i, q :: l, h, p, hp => by
   have h:cond (Nat.beq q.1 i) (tR o::tE os (i+1) (l.map (·.1))) (tE os (i+1) ((q::l).map (·.1)))=(q::l).map (λp=>some p.2):=h;cases hb:Nat.beq q.1 i with
   | true =>
     rw[hb] at h;obtain⟨h1,h2⟩:=List.cons.inj (show tR o::_=some q.2::_ from h);rcases List.mem_cons.mp hp with rfl | hp
     . exact⟨0,Nat.eq_of_beq_eq_true hb,h1⟩
     . obtain⟨j, a, b⟩ := ve os (i + 1) l h2 p hp;exact⟨j+1,by rw[a,Nat.add_assoc,Nat.add_comm 1 j],b⟩
   | false =>
     rw[hb] at h;obtain⟨j,a,b⟩:=ve os (i+1) (q::l) h p hp;exact⟨j+1,by rw[a,Nat.add_assoc,Nat.add_comm 1 j],b⟩
theorem Hw {h:Heap}{l:List (Addr×Obj)}(e:tE h.objs.toList 0 (l.map (·.1))=l.map (λp=>some p.2)):(l.map (·.1)).map h.get? = l.map (λp=>some p.2):=by
 rw[List.map_map];refine List.map_congr_left λp hp=>?_;obtain⟨j,a,b⟩:=ve _ _ _ e p hp;show h.get? p.1=some p.2;rw[a,Nat.zero_add];rw[<- b,Array.getElem?_toList];unfold Heap.get? tR;cases h.objs[j]? with
 | none=>rfl
 | some o=>obtain⟨c,d,x,sl⟩:=o;cases x <;> rfl
noncomputable def Jd (K:Params->Frag) (as:List Addr) (e:∀ P,as=(K P).map (·.1)) (_:Unit):Hook :=
 ⟨List (Option Obj),λs=>tE s.heap.objs.toList 0 as,λw=>(K w.params).map λp=>some p.2,InK K,λw s x=>InK.of e w s (by
   rw[e w.params];exact Hw (by rw[<- e w.params];exact x)),InK.keeps⟩
theorem M6 {K:Params->Frag}{as:List Addr}{e:∀ P,as=(K P).map (·.1)}{u:Unit}{w:World}{h:Heap}(Y:(Jd K as e u).says w h):(K w.params).In h:=Y
end FB
namespace PySem.W.Fast
local macro_rules | `(command| #version) => do
  let f := fun (n : Lean.Name) => let i := Lean.mkIdent (.mkSimple s!"tw{n.hash.toNat}"); `(theorem $i:ident : True := trivial)
  let mut r : Array Lean.Syntax := #[← f `PySem.Challenge.pw_frameback_k61_what_is_not_made]
  for (k, a, b) in [("heap",39,39),("heap",46,46),("heap",1368,1368),("o",43,46),("o",49,707),("o",710,1240),("o",1243,1367),("sts",49,49),("sts",71,71),("sts",86,86),("sts",101,101),("sts",144,144),("sts",202,202),("sts",245,245),("sts",288,288),("sts",317,317),("sts",346,346),("sts",375,375),("sts",404,404),("sts",433,433),("sts",476,476),("sts",526,526),("sts",555,555),("sts",591,591),("sts",630,630),("sts",661,661),("sts",710,710),("sts",741,741),("sts",791,791),("sts",841,841),("sts",891,891),("sts",934,934),("sts",982,982),("sts",989,989),("sts",1062,1062),("sts",1143,1143),("sts",1217,1217),("sts",1243,1243),("sts",1318,1318),("tree",47,47),("tree",70,70),("tree",85,85),("tree",100,100),("tree",143,143),("tree",201,201),("tree",244,244),("tree",287,287),("tree",316,316),("tree",345,345),("tree",374,374),("tree",403,403),("tree",432,432),("tree",475,475),("tree",525,525),("tree",554,554),("tree",590,590),("tree",629,629),("tree",660,660),("tree",707,707),("tree",740,740),("tree",790,790),("tree",840,840),("tree",890,890),("tree",933,933),("tree",981,981),("tree",988,988),("tree",1061,1061),("tree",1142,1142),("tree",1216,1216),("tree",1240,1240),("tree",1317,1317),("tree",1367,1367),("view",39,39)] do
    for i in [a:b + 1] do
      r := r.push (← f (.str `FB.hd s!"{k}_{i}"))
  return Lean.mkNullNode r
#version
end PySem.W.Fast
open List renaming length_map→aaa,length_append→aab,getElem?_eq_getElem→aac,mem_of_getElem?→aad,getElem?_map→aae,getElem?_append_right→aag,getElem?_append_left→aak,map_append→aal,length_replicate→aao,length_cons→aaq,size_toArray→aau,length_singleton→aax,mem_append_right→aaz,length_take→aaC,append_assoc→aaD,take_length→aaG,take_add_one→aaI,append_nil→aaJ,replicate→aaL,Nodup→aaN,map_cons→aaQ,getElem?_set_self→aaS,getElem?_set_ne→aaT,range→aaU,mem_cons→aaX,length_nil→aaZ,not_mem_nil→aa0,length_range→aa4,mem_append_left→aa5,mem_cons_of_mem→aa8,mem_cons_self→aa_,find?_cons→abd,getElem?_replicate→abe,take_succ_cons→abg,any_cons→abh,foldl→abn,getElem_mem→abu,map_map→abv,length_set→abx,all_cons→abB,lookup_cons→abG,lookup→abO,getElem?_eq_none→abQ,filterMap_cons→ab4,all_map→ab5,range_succ→ab_,set_cons_zero→aca,set_cons_succ→acb,length_filter_le→acs,getElem?_range→acE,flatMap_append→acF,filter_append→acN,take_zero→acS,length_drop→ac3,filter_cons→ac4,all_eq_true→ac5,take_of_length_le→ac7,range_succ_eq_map→ac8,filterMap_append→adb,length→adq,toList_toArray→ads,map→ady,filterMap_map→adD
open PySem renaming wpAny_bind→aaf,sizeLine_eq→aan,sizeLine→aar,starEach→aas,wpAny_pure→aat,wpAny_mono→aaV,bootBuiltins→aaY,compareOp→aa2,wpAny_truthy_bool→aa9,FuncData→abc,mainGlobals→abl,Spec→abp,attributeBase→abr,wpAny_pyIter_list→abt,wpAny_holding→abw,sysModules→abE,wpAny_newObj_type→abF,binaryOp→abV,keywordEach→abX,wpAny_passesOwn→abY,mem_of_lookup→ab1,wpAny_field→acd,wpAny_execs_nil→acm,wpAny_Call_Name_kw→acn,tupleKind_room_in1→aco,wpAny_callSpecial?_slot→acq,codeAny_mono→acD,wpAny_call_entry→acH,checkBuiltinCall→acI,codeAny_call_builtin→acK,bindArgs→acM,assignEach→acP,sliceBounds→acU,backToKw→acZ,wpAny_setField_rec→ac0,behindInMarks→adg,seqItems?→adt,getMethod→adu,letOwnedTupleGo→adw,wpAny_call→adz
open Bool renaming and_eq_true→aah,false_ne_true→aaw,true_and→abi,false_and→abj,false_or→abC,or_eq_false_iff→abW,false_eq_true→acO,and_false→acT,eq_iff_iff→ada,and_true→adB
open Nat renaming le_refl→aai,le_of_ble_eq_true→aam,lt_of_lt_of_le→aaB,ne_of_lt→aaH,le_trans→aaR,zero_le→aaW,lt_of_le_of_lt→aa1,testBit_and→abm,pow_le_pow_right→aby,lt_succ_self→abK,zero_add→abT,ne_of_gt→abU,le_add_right→ab3,lt_irrefl→ace,le_succ→ack,lt_succ_of_lt→acp,le_of_eq→acu,mod_eq_of_lt→acA,eq_of_testBit_eq→acB,sub_self→acQ,and_le_right→ac6,le_of_lt→adi,not_lt_zero→adj,noConfusion→adk,pow_lt_pow_right→adp,lt_two_pow_self→adx
open PySem.Heap renaming get?_push_of_some→aaj,lt_size→aav,get?_push_size→aay,size_push→abJ,SameBut→ab6,get?_update_self→ade
open Option.some renaming inj→aap
open Int renaming toNat_natCast→aaA,natCast_nonneg→aaO,toNat_of_nonneg→abb,toNat→abk,zero_add→ab7
open Option renaming toList_some→aaE,map_eq_some_iff→abH,isSome_map→adC
open PySem.Builtin renaming bitNot→aaF,bitAnd→aaP
open PySem.Value renaming ref→aaK,int→aa3,none→acg,builtin→acz,bool→acV,str→adv
open PySem.F renaming plainAttrs_list→aaM,type_list_extend→aa6,slot_list_extend→aa7,slot_dict_get→abM,plainAttrs_dict→acW,entry_dict_get→acY
open PySem.W renaming kitOne→aba,keepIn→abz,findIn→abA,emptyDict→ab9,kia_one→acf,codeIn→acx,instObj→ac2,hideAll→adm
open False renaming elim→abf
open PySem.Builtin.SmallTypes renaming nextOf→abo
open True renaming intro→abq
open PyProof.Rows renaming callWith_type1→abD,subscriptTail_builtinR→ado
open Lean.Macro renaming throwUnsupported→abI
open PySem.Calls renaming callWith_builtin→abL,evalArgs_plain→acy,spliced_cons→acL
open PySem.Builtin.Slice renaming slicePlaces→abN,sliceAdjust→acw
open PySem.PyData renaming canLayAll0→abP,depthAll→ab8,canLay0→ach,depth→acG,eqv→adA
open PySem.Builtin.Tuple renaming tupleExact→abR
open PySem.Str renaming ofString→abS,empty→adf
open PySem.AutoSeq1 renaming wpAny_loadPart'→abZ
open PySem.PassesOwn renaming never→ab0
open Array renaming length_toList→ab2,getElem?_toList→ac9
open Decidable renaming of_not_not→aci
open PySem.Builtin.List renaming listSubscript?→acj,listTooLong→acC
open Lean renaming TSyntax→acr,mkIdent→ac_
open ForInStep renaming yield→acv
open BitVec renaming toNat_ofNat→acJ
open PySem.NameKind renaming free→acR
open PySem.Paired renaming length→acX
open PySem.Heap.SameBut renaming update→ac1
open Sum.inl renaming inj→adh
open PySem.Obj renaming mapSeq→adl
open Prod.mk renaming injEq→adn
namespace FB
open PySem PySem.W PyProof.Rows
local macro_rules | `(tactic| o_head ($f $k $a $e)) => `(tactic| o_head (FB.Jd $k $a $e ()))
set_option maxRecDepth 100000 in
set_option maxHeartbeats 0 in
open_top hd for PySem.Challenge.rw_frameback_k61_what_is_not_made
end FB
variable {G:Prop}
theorem exE2.{u0,u1} {a0:Sort u0} {a1:Sort u1} {P:a0->a1->Prop} (h:∃ x0 x1,P x0 x1) (k:∀ x0 x1,P x0 x1->G):G:=h.elim λx0 h=>h.elim λx1 h=>k x0 x1 h
theorem exI2.{u0,u1} {a0:Sort u0} {a1:Sort u1} {P:a0->a1->Prop} (x0:a0) (x1:a1) (h:P x0 x1):∃ x0 x1,P x0 x1:=.intro x0 ( .intro x1 h)
theorem exE3.{u0,u1,u2} {a0:Sort u0} {a1:Sort u1} {a2:Sort u2} {P:a0->a1->a2->Prop} (h:∃ x0 x1 x2,P x0 x1 x2) (k:∀ x0 x1 x2,P x0 x1 x2->G):G:=h.elim λx0 h=>h.elim λx1 h=>h.elim λx2 h=>k x0 x1 x2 h
theorem exI3.{u0,u1,u2} {a0:Sort u0} {a1:Sort u1} {a2:Sort u2} {P:a0->a1->a2->Prop} (x0:a0) (x1:a1) (x2:a2) (h:P x0 x1 x2):∃ x0 x1 x2,P x0 x1 x2:=.intro x0 ( .intro x1 ( .intro x2 h))
theorem exE4.{u0,u1,u2,u3} {a0:Sort u0} {a1:Sort u1} {a2:Sort u2} {a3:Sort u3} {P:a0->a1->a2->a3->Prop} (h:∃ x0 x1 x2 x3,P x0 x1 x2 x3) (k:∀ x0 x1 x2 x3,P x0 x1 x2 x3->G):G:=h.elim λx0 h=>h.elim λx1 h=>h.elim λx2 h=>h.elim λx3 h=>k x0 x1 x2 x3 h
theorem exI4.{u0,u1,u2,u3} {a0:Sort u0} {a1:Sort u1} {a2:Sort u2} {a3:Sort u3} {P:a0->a1->a2->a3->Prop} (x0:a0) (x1:a1) (x2:a2) (x3:a3) (h:P x0 x1 x2 x3):∃ x0 x1 x2 x3,P x0 x1 x2 x3:=.intro x0 ( .intro x1 ( .intro x2 ( .intro x3 h)))
theorem exE5.{u0,u1,u2,u3,u4} {a0:Sort u0} {a1:Sort u1} {a2:Sort u2} {a3:Sort u3} {a4:Sort u4} {P:a0->a1->a2->a3->a4->Prop} (h:∃ x0 x1 x2 x3 x4,P x0 x1 x2 x3 x4) (k:∀ x0 x1 x2 x3 x4,P x0 x1 x2 x3 x4->G):G:=h.elim λx0 h=>h.elim λx1 h=>h.elim λx2 h=>h.elim λx3 h=>h.elim λx4 h=>k x0 x1 x2 x3 x4 h
theorem exI5.{u0,u1,u2,u3,u4} {a0:Sort u0} {a1:Sort u1} {a2:Sort u2} {a3:Sort u3} {a4:Sort u4} {P:a0->a1->a2->a3->a4->Prop} (x0:a0) (x1:a1) (x2:a2) (x3:a3) (x4:a4) (h:P x0 x1 x2 x3 x4):∃ x0 x1 x2 x3 x4,P x0 x1 x2 x3 x4:=.intro x0 ( .intro x1 ( .intro x2 ( .intro x3 ( .intro x4 h))))
theorem exE6.{u0,u1,u2,u3,u4,u5} {a0:Sort u0} {a1:Sort u1} {a2:Sort u2} {a3:Sort u3} {a4:Sort u4} {a5:Sort u5} {P:a0->a1->a2->a3->a4->a5->Prop} (h:∃ x0 x1 x2 x3 x4 x5,P x0 x1 x2 x3 x4 x5) (k:∀ x0 x1 x2 x3 x4 x5,P x0 x1 x2 x3 x4 x5->G):G:=h.elim λx0 h=>h.elim λx1 h=>h.elim λx2 h=>h.elim λx3 h=>h.elim λx4 h=>h.elim λx5 h=>k x0 x1 x2 x3 x4 x5 h
theorem exI6.{u0,u1,u2,u3,u4,u5} {a0:Sort u0} {a1:Sort u1} {a2:Sort u2} {a3:Sort u3} {a4:Sort u4} {a5:Sort u5} {P:a0->a1->a2->a3->a4->a5->Prop} (x0:a0) (x1:a1) (x2:a2) (x3:a3) (x4:a4) (x5:a5) (h:P x0 x1 x2 x3 x4 x5):∃ x0 x1 x2 x3 x4 x5,P x0 x1 x2 x3 x4 x5:=.intro x0 ( .intro x1 ( .intro x2 ( .intro x3 ( .intro x4 ( .intro x5 h)))))
theorem exE7.{u0,u1,u2,u3,u4,u5,u6} {a0:Sort u0} {a1:Sort u1} {a2:Sort u2} {a3:Sort u3} {a4:Sort u4} {a5:Sort u5} {a6:Sort u6} {P:a0->a1->a2->a3->a4->a5->a6->Prop} (h:∃ x0 x1 x2 x3 x4 x5 x6,P x0 x1 x2 x3 x4 x5 x6) (k:∀ x0 x1 x2 x3 x4 x5 x6,P x0 x1 x2 x3 x4 x5 x6->G):G:=h.elim λx0 h=>h.elim λx1 h=>h.elim λx2 h=>h.elim λx3 h=>h.elim λx4 h=>h.elim λx5 h=>h.elim λx6 h=>k x0 x1 x2 x3 x4 x5 x6 h
theorem exI7.{u0,u1,u2,u3,u4,u5,u6} {a0:Sort u0} {a1:Sort u1} {a2:Sort u2} {a3:Sort u3} {a4:Sort u4} {a5:Sort u5} {a6:Sort u6} {P:a0->a1->a2->a3->a4->a5->a6->Prop} (x0:a0) (x1:a1) (x2:a2) (x3:a3) (x4:a4) (x5:a5) (x6:a6) (h:P x0 x1 x2 x3 x4 x5 x6):∃ x0 x1 x2 x3 x4 x5 x6,P x0 x1 x2 x3 x4 x5 x6:=.intro x0 ( .intro x1 ( .intro x2 ( .intro x3 ( .intro x4 ( .intro x5 ( .intro x6 h))))))
theorem exE8.{u0,u1,u2,u3,u4,u5,u6,u7} {a0:Sort u0} {a1:Sort u1} {a2:Sort u2} {a3:Sort u3} {a4:Sort u4} {a5:Sort u5} {a6:Sort u6} {a7:Sort u7} {P:a0->a1->a2->a3->a4->a5->a6->a7->Prop} (h:∃ x0 x1 x2 x3 x4 x5 x6 x7,P x0 x1 x2 x3 x4 x5 x6 x7) (k:∀ x0 x1 x2 x3 x4 x5 x6 x7,P x0 x1 x2 x3 x4 x5 x6 x7->G):G:=h.elim λx0 h=>h.elim λx1 h=>h.elim λx2 h=>h.elim λx3 h=>h.elim λx4 h=>h.elim λx5 h=>h.elim λx6 h=>h.elim λx7 h=>k x0 x1 x2 x3 x4 x5 x6 x7 h
theorem exI8.{u0,u1,u2,u3,u4,u5,u6,u7} {a0:Sort u0} {a1:Sort u1} {a2:Sort u2} {a3:Sort u3} {a4:Sort u4} {a5:Sort u5} {a6:Sort u6} {a7:Sort u7} {P:a0->a1->a2->a3->a4->a5->a6->a7->Prop} (x0:a0) (x1:a1) (x2:a2) (x3:a3) (x4:a4) (x5:a5) (x6:a6) (x7:a7) (h:P x0 x1 x2 x3 x4 x5 x6 x7):∃ x0 x1 x2 x3 x4 x5 x6 x7,P x0 x1 x2 x3 x4 x5 x6 x7:=.intro x0 ( .intro x1 ( .intro x2 ( .intro x3 ( .intro x4 ( .intro x5 ( .intro x6 ( .intro x7 h)))))))
variable {p0 p1 p2:Prop}
theorem anE3 (h:p0/\p1/\p2)(k:p0->p1->p2->G):G:=k h.1 h.2.1 h.2.2
theorem anI3 (h0:p0)(h1:p1)(h2:p2):p0/\p1/\p2:=.intro h0 (.intro h1 h2)
variable {p3:Prop}
theorem anE4 (h:p0/\p1/\p2/\p3)(k:p0->p1->p2->p3->G):G:=k h.1 h.2.1 h.2.2.1 h.2.2.2
theorem anI4 (h0:p0)(h1:p1)(h2:p2)(h3:p3):p0/\p1/\p2/\p3:=.intro h0 (.intro h1 (.intro h2 h3))
variable {p4:Prop}
theorem anE5 (h:p0/\p1/\p2/\p3/\p4)(k:p0->p1->p2->p3->p4->G):G:=k h.1 h.2.1 h.2.2.1 h.2.2.2.1 h.2.2.2.2
theorem anI5 (h0:p0)(h1:p1)(h2:p2)(h3:p3)(h4:p4):p0/\p1/\p2/\p3/\p4:=.intro h0 (.intro h1 (.intro h2 (.intro h3 h4)))
variable {p5:Prop}
theorem anE6 (h:p0/\p1/\p2/\p3/\p4/\p5)(k:p0->p1->p2->p3->p4->p5->G):G:=k h.1 h.2.1 h.2.2.1 h.2.2.2.1 h.2.2.2.2.1 h.2.2.2.2.2
theorem anI6 (h0:p0)(h1:p1)(h2:p2)(h3:p3)(h4:p4)(h5:p5):p0/\p1/\p2/\p3/\p4/\p5:=.intro h0 (.intro h1 (.intro h2 (.intro h3 (.intro h4 h5))))
variable {p6:Prop}
theorem anE7 (h:p0/\p1/\p2/\p3/\p4/\p5/\p6)(k:p0->p1->p2->p3->p4->p5->p6->G):G:=k h.1 h.2.1 h.2.2.1 h.2.2.2.1 h.2.2.2.2.1 h.2.2.2.2.2.1 h.2.2.2.2.2.2
theorem anI7 (h0:p0)(h1:p1)(h2:p2)(h3:p3)(h4:p4)(h5:p5)(h6:p6):p0/\p1/\p2/\p3/\p4/\p5/\p6:=.intro h0 (.intro h1 (.intro h2 (.intro h3 (.intro h4 (.intro h5 h6)))))
theorem anE8 {p7:Prop}(h:p0/\p1/\p2/\p3/\p4/\p5/\p6/\p7)(k:p0->p1->p2->p3->p4->p5->p6->p7->G):G:=k h.1 h.2.1 h.2.2.1 h.2.2.2.1 h.2.2.2.2.1 h.2.2.2.2.2.1 h.2.2.2.2.2.2.1 h.2.2.2.2.2.2.2
theorem anI8 {p7:Prop}(h0:p0)(h1:p1)(h2:p2)(h3:p3)(h4:p4)(h5:p5)(h6:p6)(h7:p7):p0/\p1/\p2/\p3/\p4/\p5/\p6/\p7:=.intro h0 (.intro h1 (.intro h2 (.intro h3 (.intro h4 (.intro h5 (.intro h6 h7))))))
set_option hygiene false
local macro_rules | `(tactic| obtain ⟨$ps,*⟩ := $e:term) => do
 let ps:=ps.getElems
 let N:=ps.size
 if N<3 then abI
 let z:=λ(i:Nat)=>do return ac_ (<- Lean.Macro.addMacroScope (.mkSimple s!"z{i}"))
 let one := λ(i : Nat) (p : Lean.Syntax) => show Lean.MacroM (acr `ident × Option (acr `tactic)) from do
   let y <- z i
   if p[1].getNumArgs == 0 && p[0][0].getNumArgs == 1 && p[0][0][0].getKind == ``Lean.Parser.Tactic.rcasesPat.one then
     if p[0][0][0][0].getId == `rfl then return (y, some (<- `(tactic| first | subst $y:ident | cases $y:ident)))
     return (⟨p[0][0][0][0]⟩,none)
   if p[1].getNumArgs == 0 && p[0][0].getNumArgs == 1 && p[0][0][0].getKind == ``Lean.Parser.Tactic.rcasesPat.ignore then return (y,none)
   return (y, some (<- `(tactic| obtain $(⟨p[0]⟩):rcasesPatMed := $y:ident)))
 let clr <- if e.raw.isIdent then `(tactic| try clear $(⟨e.raw⟩):ident) else `(tactic| skip)
 let mut alts:Array (acr `tactic):=#[]
 for j in [0:14] do
   let ex:=j<7
   let k:=if ex then 8 - j else 15 - j
   if k + 1 <= N then
     let mut bs:Array (acr `ident):=#[]
     let mut ts:Array (acr `tactic):=#[]
     for i in [0:k] do
       let (b,t) <- one i ps[i]!
       bs:=bs.push b
       if let some t:=t then ts:=ts.push t
     if N == k + 1 then
       let (b,t) <- one k ps[k]!
       bs:=bs.push b
       if let some t:=t then ts:=ts.push t
     else
       let y <- z k
       bs:=bs.push y
       ts := ts.push (<- `(tactic| obtain ⟨$(ps.extract k N),*⟩ := $y:ident))
     let f:=ac_ (.mkSimple (if ex then s!"exE{k}" else s!"anE{k + 1}"))
     let t <- `(tactic| (refine $f $e ?_; $clr:tactic; intro $bs*; $[$ts:tactic];*))
     alts:=alts.push t
 `(tactic| first $[| $alts:tactic]* | rcases $e:term with ⟨$ps,*⟩)
local macro_rules | `(tactic| rintro $ps*) => do
 let tup:=λ(p:Lean.Syntax)=>p.getKind == ``Lean.Parser.Tactic.rintroPat.one && p[0].getKind == ``Lean.Parser.Tactic.rcasesPat.tuple
 unless ps.any (λp=>tup p && p.raw[0][1].getNumArgs ≥ 5) do abI
 let mut ts:Array (acr `tactic):=#[]
 for p in ps do
   if tup p then
     let y:=ac_ (<- Lean.Macro.addMacroScope `zi)
     let q:Lean.Syntax:=Lean.mkNode ``Lean.Parser.Tactic.rcasesPatMed #[Lean.mkNullNode #[p.raw[0]]]
     ts := ts.push (<- `(tactic| (intro $y:ident; obtain $(⟨q⟩):rcasesPatMed := $y:ident)))
   else ts := ts.push (<- `(tactic| rintro $p))
 `(tactic| ($[$ts:tactic];*))
local macro_rules
 | `(tactic| refine ⟨$xs,*⟩) => do
   let a:=xs.getElems
   if a.size<3 then abI
   let mut r:Array (acr `tactic):=#[]
   for j in [0:8] do
     let n:=if j == 7 then 0 else 8 - j
     if n + 1 <= a.size then
       let b:=a.extract n a.size
       let f:=ac_ (.mkSimple s!"exI{n}")
       let g:=ac_ (.mkSimple s!"anI{b.size}")
       if b.size ≥ 3 && b.size <= 8 then
         r := r.push (<- if n == 0 then `(tactic| refine $g $b*) else `(tactic| refine $f $(a.extract 0 n)* ($g $b*)))
       if n > 0 then
         let l <- if b.size == 1 then pure b[0]! else `(⟨$b,*⟩)
         r := r.push (<- `(tactic| refine $f $(a.extract 0 n)* $l))
   `(tactic| first $[| $r:tactic]* | refine (⟨$xs,*⟩))
 | `(tactic| exact ⟨$xs,*⟩) => do
   if xs.getElems.size<3 then abI
   `(tactic| (refine ⟨$xs,*⟩; done))
set_option hygiene true
namespace L2
theorem bF {α β : Type}{A B C : α->β->Prop}{R:Prop}(h:∃ a b,A a b/\B a b/\C a b)(k:∀ a b,A a b->B a b->C a b->R):R:=h.elim λ_ h=>h.elim λ_ h=>k _ _ h.1 h.2.1 h.2.2
theorem mX {β : Type}{A B : β->Prop}{R:Prop}(h:∃ b,A b/\B b)(k:∀ b,A b->B b->R):R:=h.elim λ_ h=>k _ h.1 h.2
open PySem PySem.Spec PyProof.Rows
abbrev Key:=Sum Int Str
def pU:Key->Value->Bool
 | .inl k,v=>Value.isInt k v
 | .inr x,v=>Value.isStrOf x v
def QB (w:World):Key->Int
 | .inl k=>hashInt k
 | .inr x=>hashStr w x
theorem bS:∀ {k:Key} {v:Value},pU k v=true->(∃ i t,k=Sum.inl i/\v=aa3 i t)∨(∃ x t,k=Sum.inr x/\v=adv x t)
 | .inl i, v, h => by
   obtain⟨t,e⟩:=Value.isInt_shape (k:=i) (v:=v) h;exact .inl ⟨i,t,rfl,e⟩
 | .inr x, v, h => by
   obtain⟨t,e⟩:=Value.isStrOf_shape (x:=x) (v:=v) h;exact .inr ⟨x,t,rfl,e⟩
theorem FC (i:Int)(t:Tok):pU (.inl i) (.int i t)=true:=by simp[pU,Value.isInt]
theorem DT (x:Str)(t:Tok):pU (.inr x) (.str x t)=true:=by simp[pU,Value.isStrOf]
theorem La (a b:Int):decide ((Sum.inl a:Key)=Sum.inl b)=(a == b):=by
 by_cases e:a=b
 . subst e;simp
 . have h : ¬ (Sum.inl a : Key) = Sum.inl b := λq => e (adh q);rw[decide_eq_false h];exact(beq_eq_false_iff_ne.mpr e).symm
theorem KU (a b:Str):decide ((Sum.inr a:Key)=Sum.inr b)=decide (a=b):=by
 by_cases e:a=b
 . subst e;simp
 . have h : ¬ (Sum.inr a : Key) = Sum.inr b := λq => e (Sum.inr.inj q);rw[decide_eq_false h,decide_eq_false e]
theorem M0 (a:Int)(b:Str):decide ((Sum.inl a:Key)=Sum.inr b)=false:=decide_eq_false (λq=>nomatch q)
theorem Nf (a:Str)(b:Int):decide ((Sum.inr a:Key)=Sum.inl b)=false:=decide_eq_false (λq=>nomatch q)
def bc (prog:Program)(w:World):PySem.KeyKind prog w Key where
 is:=pU
 hash:=QB w
 inj:=λv a b ha hb=>by
   rcases bS ha with ⟨i,t,rfl,rfl⟩ | ⟨x,t,rfl,rfl⟩
   . rcases bS hb with ⟨j,u,rfl,e⟩ | ⟨y,u,rfl,e⟩
     . injection e with e1 _;rw[e1]
     . exact nomatch e
   . rcases bS hb with ⟨j,u,rfl,e⟩ | ⟨y,u,rfl,e⟩
     . exact nomatch e
     . injection e with e1 _;rw[e1]
 byValue:=λk v h=>by
   rcases bS h with ⟨i,t,rfl,rfl⟩ | ⟨x,t,rfl,rfl⟩ <;> rfl
 pyHash:=λhv h=>by
   rcases bS hv with ⟨i,t,rfl,rfl⟩ | ⟨x,t,rfl,rfl⟩
   . exact wpAny_pyHash_int h
   . exact wpAny_pyHash_str h
 eqBool:=λhu hv h=>by
   rcases bS hu with ⟨i,t,rfl,rfl⟩ | ⟨x,t,rfl,rfl⟩
   . rcases bS hv with ⟨j,u,rfl,rfl⟩ | ⟨y,u,rfl,rfl⟩
     . rw[La] at h;exact wpAny_eqBool_int h
     . rw[M0] at h;exact SeqAt.EqAt.int_str i t y u _ _ _ _ h
   . rcases bS hv with ⟨j,u,rfl,rfl⟩ | ⟨y,u,rfl,rfl⟩
     . rw[Nf] at h;exact SeqAt.EqAt.str_int x t j u _ _ _ _ h
     . rw[KU] at h;exact wpAny_eqBool_str h
 «strs»:=λk x t v h=>by
   rcases bS h with ⟨i,u,rfl,e⟩ | ⟨y,u,rfl,e⟩
   . exact nomatch e
   . injection e with e1 _;subst e1;cases v <;> rfl
theorem AR (prog:Program)(w:World)(i:Int)(t:Tok):(bc prog w).is (.inl i) (.int i t)=true:=FC i t
theorem Az (prog:Program)(w:World)(x:Str)(t:Tok):(bc prog w).is (.inr x) (.str x t)=true:=DT x t
open PySem PySem.Spec PyProof.Rows
inductive V where
 | ax | bl (b:Bool) | int (i:Int) | str (x:Str) | byt (b:Array UInt8) | yf (b:UInt64) | ref (a:Addr) | ty (n:String)
 deriving DecidableEq
def RelV:V->Value->Prop
 | .ax,u=>u=acg
 | .bl b,u=>u=acV b
 | .int i,u=>∃ t,u=aa3 i t
 | .str x,u=>∃ t,u=adv x t
 | .byt b,u=>∃ t,u=Value.bytes b t
 | .yf b,u=>∃ t,u=Value.float b t
 | .ref a,u=>u=aaK a
 | .ty n,u=>u=Value.type n
abbrev aE:List V->List Value->Prop:=Paired RelV
variable {us:List Value}
theorem aE.length {xs:List V}(r:aE xs us):xs.length=us.length:=acX r
theorem aE.get:∀ {xs:List V} {us:List Value} {i:Nat} {x:V},aE xs us->xs[i]? = some x->∃ u,us[i]? = some u/\RelV x u
 | _,_,_,_,.nil,e=>by simp at e
 | _,_,0,_,.cons r _,e=>by simp at e;subst e;exact⟨_,rfl,r⟩
 | _, _, i + 1, x, .cons _ t, e => by
   obtain⟨u,h1,h2⟩:=aE.get (i:=i) (x:=x) t (by simpa using e);exact⟨u,by simpa using h1,h2⟩
variable {u:Value}
theorem aE.set {x:V}(r:RelV x u):∀ {xs:List V} {us:List Value} (i:Nat),aE xs us->aE (xs.set i x) (us.set i u)
 | _,_,_,.nil=>.nil
 | _,_,0,.cons _ t=>.cons r t
 | _,_,i+1,.cons q t=>.cons q (aE.set r i t)
theorem aE.append:∀ {xs ys:List V} {us ws:List Value},aE xs us->aE ys ws->aE (xs++ys) (us++ws)
 | _,_,_,_,.nil,s=>s
 | _,_,_,_,.cons r t,s=>.cons r (aE.append t s)
theorem aE.take:∀ {xs:List V} {us:List Value} (n:Nat),aE xs us->aE (xs.take n) (us.take n)
 | _,_,0,_=>.nil
 | _,_,_+1,.nil=>.nil
 | _,_,n+1,.cons r t=>.cons r (aE.take n t)
theorem aE.drop:∀ {xs:List V} {us:List Value} (n:Nat),aE xs us->aE (xs.drop n) (us.drop n)
 | _,_,0,r=>r
 | _,_,_+1,.nil=>.nil
 | _,_,n+1,.cons _ t=>aE.drop n t
def d_:Option V->Option Value->Prop
 | some v,some u=>RelV v u
 | none,none=>True
 | _,_=>False
def KV {κ : Type}:List (κ×V)->List (κ×Value)->Prop:=Paired λ(p : κ×V) (q : κ×Value)=>p.1=q.1/\RelV p.2 q.2
def kV:Key->V
 | .inl i=>.int i
 | .inr x=>.str x
inductive HO where
 | lst (xs:List V)
 | tup (xs:List V)
 | dK (kvs:List (Key×V)) | dT (kvs:List (List Key×V))
 | set (S:Int->Bool) (n:Nat)
 | ins (C dx:Addr) (fs:List (Str×V))
 | own (x:Addr)
 | xd (fs:List (Str×V))
 | met (f x:Addr)
 | IJ (lo hi:Int)
 | cx (o:Obj) (u:HO)
 | tD (ps:Array Value)
 | ext (φ : Heap->Prop)
abbrev Hp:=Addr->Option HO
def upd (H:Hp)(a:Addr)(o:HO):Hp:=λb=>if b=a then some o else H b
variable {o:HO} {H:Hp}
theorem U {a:Addr}:upd H a o a=some o:=by unfold upd;rw[if_pos rfl]
theorem af {a b:Addr}(h:b≠a):upd H a o b=H b:=by unfold upd;rw[if_neg h]
theorem ID {a b:Addr}{u:HO}(h:H a=some o)(h':H b=some u)(d:o≠u):a≠b:=by
 intro e;subst e;rw[h] at h';exact d (aap h')
theorem ae {a b:Addr}(h:H a=some o)(h':H b=none):a≠b:=by
 intro e;subst e;rw[h] at h';cases h'
section
variable (P:Program) (w:World)
def bM (H:Hp)(h:Heap)(a:Addr):HO->Prop
 | .lst xs=>xs.length<=aar/\∃ (its:List Value) (n:Nat),aE xs its/\h.get? a=some { cls:=.type "list",data:=.seq its.toArray n }
 | .tup xs=>xs.length<=aar/\∃ its:List Value,aE xs its/\IsTup h a its.toArray
 | .dK kvs=>kvs.length<=aar/\(a == abE)=false/\∃ vs,KV kvs vs/\h.DictOf (bc P w) a vs
 | .dT kvs=>kvs.length<=aar/\(a == abE)=false/\∃ xs:List (List Key×Addr×Value),
     Paired (λ(p:List Key×V) (q:List Key×Addr×Value)=>p.1=q.1/\H q.2.1=some (.tup (p.1.map kV))/\RelV p.2 q.2.2) kvs xs /\
     ∃ o es ep,h.get? a=some o/\o.ExactDict/\o.data=.dict es ep/\es.toList=xs.map (entryOfKey (tupleKind (bc P w)))/\(xs.map (·.1)).Nodup
 | .set S n=>h.SetOf (intKind P w) a S n
 | .ins C dx fs=>H dx=some (.own a)/\fs.length<=1000/\dx≠a/\h.get? a=some (ac2 C dx) /\
     ∃ mA,h.Ns1 dx mA/\(∀ f,d_ (fs.lookup f) (mA f))/\PySem.Within mA (fs.map (·.1))
 | .own _=>∃ o,h.get? a=some o
 | .xd fs=>∃ mA,h.Ns1 a mA/\∀ f,d_ (fs.lookup f) (mA f)
 | .IJ lo hi=>∃ t u v,h.get? a=some { cls:=.type "range",data:=.fields #[.int lo t,.int hi u,.int 1 v] }
 | .cx o u=>h.get? a=some o/\bM H h a u
 | .tD ps=>h.get? a=some { cls:=.none,data:=.fields ps }
 | .met f x=>h.get? a=some (W.methodObj (.ref f) (.ref x))
 | .ext φ=>φ h/\(∃ o,h.get? a=some o)/\∀ h1 h2:Heap,φ h1->(∀ o,h1.get? a=some o->h2.get? a=some o)->φ h2
def cK (H:Hp)(h:Heap):Prop:=∀ a o,H a=some o->bM P w H h a o
end
section
variable {P:Program} {w:World} {H H':Hp} {h h':Heap} {a:Addr} {o:HO}
theorem bM.lt (x:bM P w H h a o):a<h.objs.size:=by
 cases o with
 | lst xs=>obtain⟨_,_,_,_,e⟩:=x;exact aav e
 | tup xs=>obtain⟨_,_,_,p⟩:=x;exact p.lt
 | dK kvs=>obtain⟨_,_,_,_,o,_,_,e,_⟩:=x;exact aav e
 | dT kvs=>obtain⟨_,_,_,_,o,_,_,e,_⟩:=x;exact aav e
 | set S n=>obtain⟨o,_,_,_,e,_⟩:=x;exact aav e
 | ins C dx fs=>obtain⟨_,_,_,e,_⟩:=x;exact aav e
 | own y=>obtain⟨_,e⟩:=x;exact aav e
 | xd fs=>obtain⟨_,⟨_,_,_,e,_⟩,_⟩:=x;exact aav e
 | IJ lo hi=>obtain⟨_,_,_,e⟩:=x;exact aav e
 | cx ob u=>obtain⟨e,_⟩:=x;exact aav e
 | tD ps=>exact aav (show h.get? a=some _ from x)
 | met f y=>exact aav (show h.get? a=some _ from x)
 | ext φ=>obtain⟨_,⟨_,e⟩,_⟩:=x;exact aav e
theorem Paired.HR {α β : Type}{F G : α->β->Prop}:∀ {l₁ : List α} {l₂ : List β},Paired F l₁ l₂->(∀ a b,F a b->G a b)->Paired G l₁ l₂
 | _,_,.nil,_=>.nil
 | _,_,.cons r t,f=>.cons (f _ _ r) (Paired.HR t f)
theorem bM.iB (x:bM P w H h a o)(k:∀ b u,(b=a∨H b=some (.own a))->h.get? b=some u->h'.get? b=some u)
   (ho:∀ b,H b=some (.own a)->H' b=some (.own a)) (ht:∀ b xs,H b=some (.tup xs)->H' b=some (.tup xs)):bM P w H' h' a o:=by
 induction o with
 | lst xs=>obtain⟨z,its,n,r,e⟩:=x;exact⟨z,its,n,r,k _ _ (.inl rfl) e⟩
 | tup xs=>obtain⟨z,its,r,ob,e,c⟩:=x;exact⟨z,its,r,ob,k _ _ (.inl rfl) e,c⟩
 | dK kvs=>obtain⟨z,y,vs,r,ob,es,ep,e,c⟩:=x;exact⟨z,y,vs,r,ob,es,ep,k _ _ (.inl rfl) e,c⟩
 | dT kvs =>
   obtain⟨z,y,xs,r,ob,es,ep,e,c⟩:=x;exact⟨z,y,xs,Paired.HR r λp q z=>⟨z.1,ht _ _ z.2.1,z.2.2⟩,ob,es,ep,k _ _ (.inl rfl) e,c⟩
 | set S n=>obtain⟨ob,es,ep,t,e,c⟩:=x;exact⟨ob,es,ep,t,k _ _ (.inl rfl) e,c⟩
 | ins C dx fs =>
   obtain⟨d,z,ne,e,mA,⟨od,es,ep,e2,c⟩,r⟩:=x;exact⟨ho _ d,z,ne,k _ _ (.inl rfl) e,mA,⟨od,es,ep,k _ _ (.inr d) e2,c⟩,r⟩
 | own y=>obtain⟨ob,e⟩:=x;exact⟨ob,k _ _ (.inl rfl) e⟩
 | xd fs=>obtain⟨mA,⟨od,es,ep,e,c⟩,r⟩:=x;exact⟨mA,⟨od,es,ep,k _ _ (.inl rfl) e,c⟩,r⟩
 | IJ lo hi=>obtain⟨t,u,v,e⟩:=x;exact⟨t,u,v,k _ _ (.inl rfl) e⟩
 | cx ob u ih=>obtain⟨e,q⟩:=x;exact⟨k _ _ (.inl rfl) e,ih q⟩
 | tD ps =>
   have e:h.get? a=some { cls:=.none,data:=.fields ps }:=x;show h'.get? a=some { cls:=.none,data:=.fields ps };exact k a _ (.inl rfl) e
 | met f y =>
   have e:h.get? a=some (W.methodObj (.ref f) (.ref y)):=x;show h'.get? a=some (W.methodObj (.ref f) (.ref y));exact k a _ (.inl rfl) e
 | ext φ=>obtain⟨p,⟨o,e⟩,st⟩:=x;exact⟨st _ _ p λo q=>k _ _ (.inl rfl) q,⟨o,k _ _ (.inl rfl) e⟩,st⟩
theorem cK.lt (x:cK P w H h)(e:H a=some o):a<h.objs.size:=(x a o e).lt
theorem cK.fresh (x:cK P w H h)(e:h.objs.size<=a):H a=none:=by
 cases q:H a with
 | none=>rfl
 | some u=>exact absurd (aaB (x.lt q) e) (ace _)
theorem cK.kept (x:cK P w H h)(k:∀ b u,h.get? b=some u->h'.get? b=some u):cK P w H h':=λa o e =>
 (x a o e).iB (λb u _ q=>k b u q) (λ_ q=>q) λ_ _ q=>q
theorem cK.laid (x:cK P w H h)(k:∀ b u,h.get? b=some u->h'.get? b=some u)(hp:h.objs.size<=a)(new:bM P w (upd H a o) h' a o):cK P w (upd H a o) h':=λb u e=>by
 have hn:=x.fresh hp;by_cases hb:b=a
 . subst hb;rw[U] at e;cases e;exact new
 . rw[af hb] at e;exact(x b u e).iB (λc v _ q=>k c v q) (λc q=>by rw[af (ae q hn)];exact q) λc xs q=>by rw[af (ae q hn)];exact q
end
def Rd (H:Hp)(a:Addr)(u:HO):Prop:=H a=some u∨∃ o,H a=some (.cx o u)
variable {h:Heap}
theorem Rd.ok {P:Program}{w:World}{a:Addr}{u:HO}(r:Rd H a u)(x:cK P w H h):bM P w H h a u:=by
 rcases r with r | ⟨o,r⟩
 . exact x a u r
 . obtain⟨_, q⟩ := x a _ r;exact q
def F1:Option HO->Prop
 | some (.lst _)=>True
 | some (.dK _)=>True
 | some (.dT _)=>True
 | some (.set _ _)=>True
 | some (.ins _ _ _)=>True
 | some (.ext _)=>True
 | _=>False
section
variable {P:Program} {w:World} {H:Hp} {h h':Heap} {x e:Addr} {o':HO}
theorem cK.write (ok:cK P w H h)(mu:F1 (H x))(he:e=x∨H e=some (.own x))(k:∀ b u,b≠e->h.get? b=some u->h'.get? b=some u)(heo:∃ u,h'.get? e=some u)
   (new:bM P w (upd H x o') h' x o'):cK P w (upd H x o') h':=λb u q=>by
 have nown:∀ c y,H c=some (.own y)->c≠x:=λc y r z=>by subst z;rw[r] at mu;exact mu
 have ntup:∀ c xs,H c=some (.tup xs)->c≠x:=λc xs r z=>by subst z;rw[r] at mu;exact mu
 by_cases hb:b=x
 . subst hb;rw[U] at q;cases q;exact new
 . rw[af hb] at q;by_cases WN:b=e
   . have q' : H b = some (.own x) := by
       rcases he with z | z
       . exact absurd (WN.trans z) hb
       . rw[WN];exact z
     rw[q] at q';cases q';obtain⟨v,hv⟩:=heo;exact⟨v,by rw[WN];exact hv⟩
   . refine (ok b u q).iB (λc v hc r => k c v ?_ r) (λc r => by rw [af (nown c b r)]; exact r) λc xs r => by rw [af (ntup c xs r)]; exact r
     rcases hc with rfl | hc
     . exact WN
     . rintro rfl;rcases he with z | z
       . exact nown c b hc z
       . rw[hc] at z;cases z;exact hb rfl
end
structure Un (fs ex:List Addr)(H H':Hp)(h h':Heap):Prop where
 keep:∀ b o,h.get? b=some o->H b=none->b ∉ fs->b ∉ ex->h'.get? b=some o
 slot:∀ b o,h.get? b=some o->H b=none->b∈fs->b ∉ ex->∃ sl,h'.get? b=some { o with slots:=sl }
 free:∀ b o,h.get? b=some o->H b=none->b ∉ ex->H' b=none
 there:∀ b o,h.get? b=some o->b ∉ ex->∃ o',h'.get? b=some o'
 iC:∀ b xs,H b=some (.tup xs)->H' b=some (.tup xs)
 fW:∀ b o u,H b=some (.cx o u)->H' b=some (.cx o u)
 iD:∀ b ps,H b=some (.tD ps)->∃ more,H' b=some (.tD (ps++more))
section
variable {fs fs' ex ex':List Addr} {H H1 H2:Hp} {h h1 h2 h':Heap} {a x e:Addr} {o:HO}
theorem Un.any (u:Un fs ex H H1 h h1){b:Addr}{ob:Obj}(q:h.get? b=some ob)(n:H b=none)(hx:b ∉ ex):∃ sl,h1.get? b=some { ob with slots:=sl }:=by
 by_cases hb:b∈fs
 . exact u.slot b ob q n hb hx
 . exact⟨ob.slots,u.keep b ob q n hb hx⟩
theorem Un.kept (k:∀ b u,h.get? b=some u->h'.get? b=some u):Un fs ex H H h h' :=
 ⟨λb ob q _ _ _=>k b ob q,λb ob q _ _ _=>⟨ob.slots,k b ob q⟩,λ_ _ _ n _=>n,λb ob q _=>⟨ob,k b ob q⟩,λ_ _ q=>q,λ_ _ _ q=>q,λ_ ps q=>⟨#[],by rw[q];simp⟩⟩
theorem Un.refl:Un fs ex H H h h:=Un.kept λ_ _ q=>q
theorem Un.laid (k:∀ b u,h.get? b=some u->h'.get? b=some u)(hp:h.objs.size<=a)(hn:H a=none):Un fs ex H (upd H a o) h h' where
 keep:=λb u q _ _ _=>k b u q
 slot:=λb u q _ _ _=>⟨u.slots,k b u q⟩
 free:=λb u q n _=>by rw[af (aaH (aaB (aav q) hp))];exact n
 there:=λb u q _=>⟨u,k b u q⟩
 iC:=λb xs q=>by rw[af (ae q hn)];exact q
 fW:=λb u xs q=>by rw[af (ae q hn)];exact q
 iD:=λb ps q=>⟨#[],by rw[af (ae q hn),q];simp⟩
theorem Un.write (mu:F1 (H x))(he:e=x∨H e=some (.own x))(k:∀ b u,b≠e->h.get? b=some u->h'.get? b=some u)(heo:∃ u,h'.get? e=some u):Un fs ex H (upd H x o) h h':=by
 have hx:∀ b,H b=none->b≠x:=λb n z=>by subst z;rw[n] at mu;exact mu
 have hb:∀ b,H b=none->b≠e:=λb n z=>by
   subst z;rcases he with r | r
   . exact hx b n r
   . rw[n] at r;cases r
 have hm:∀ b u,H b=some u->¬ F1 (some u)->b≠x:=λb u q nm z=>by subst z;rw[q] at mu;exact nm mu
 refine ⟨λb u q n _ _ => k b u (hb b n) q, λb u q n _ _ => ⟨u.slots, k b u (hb b n) q⟩, λb u q n _ => by rw [af (hx b n)]; exact n, λb u q _ => ?_,
   λb xs q=>by rw[af (hm b _ q λz=>z)];exact q,λb u xs q=>by rw[af (hm b _ q λz=>z)];exact q,λb ps q=>⟨#[],by rw[af (hm b _ q λz=>z),q];simp⟩⟩
 by_cases WN:b=e
 . subst WN;exact heo
 . exact⟨u,k b u WN q⟩
end
def Ib (h:Heap)(H:Hp):List Addr:=(aaU h.objs.size).filter λa=>(H a).isSome
def lZ (h:Heap)(H:Hp):Heap:=adm h (Ib h H)
theorem Er (h:Heap)(H:Hp):(lZ h H).objs.size=h.objs.size:=W.hideAll_size _ _
theorem HA {b:Addr}{o:Obj}(e:h.get? b=some o)(n:H b=none):(lZ h H).get? b=some o :=
 W.hideAll_get _ e λhm=>by
   have q:(H b).isSome=true:=(List.mem_filter.mp hm).2;rw[n] at q;simp at q
theorem JB {b:Addr}{o:Obj}(e:(lZ h H).get? b=some o):h.get? b=some o/\H b=none:=by
 have e':h.get? b=some o:=W.of_hideAll (Ib h H) e;refine⟨e',?_⟩;cases q:H b with
 | none=>rfl
 | some x =>
   have hm:b∈Ib h H:=List.mem_filter.mpr ⟨List.mem_range.mpr (aav e'),by simp[q]⟩;have z:(lZ h H).get? b=none:=W.hideAll_none (Ib h H) hm;rw[z] at e;cases e
structure Mod (K:W.Frag)(mg:Str->Option Value)(base:Heap):Prop where
 yF:K.In base
 glob:base.Ns abl mg
 blt:∃ mb,base.Ns builtinsNs mb/\∀ x:Str,x ≠ "__name__"->mb x=aaY x
 nolimit:base.NoLimit
structure Cx where
 prog:Program
 w:World
 K:W.Frag
 mg:Str->Option Value
 base:Heap
 A:Around
 N:List Str
 s₀ : Shared
 H₀ : Hp
 env:Env
 outer:List Env
 stack:List Env
 ex:List Addr
 fn:Str->Bool
 calm:Bool
 pn:List (Addr×Obj)
 xe:Value->Shared->Prop
def bE (l:List Env):List Addr:=l.filterMap (·.frame)
abbrev Cx.fs (X:Cx):List Addr:=bE X.outer
def Lk (sc:Scope)(x:Str):Prop:=sc.names.lookup x=some .local∨sc.names.lookup x=some .cell∨sc.names.lookup x=some .free
def Loc (sc:Scope)(x:Str):Prop:=sc.names.lookup x=some .local∨sc.names.lookup x=some .cell
def Look (env:Env)(h:Heap)(m:Str->Option Value)(x:Str)(u:Value):Prop :=
 (env.kindOf x=some .local/\m x=some u)∨((env.kindOf x=some .cell∨env.kindOf x=some .free)/\∃ c,env.cells.lookup x=some c/\h.IsCell c (some u))
structure Cx.Ok (X:Cx):Prop where
 mod:Mod X.K X.mg X.base
 kind:X.env.scope.kind=.function
 glob:X.env.globals=abl
 blt:X.env.builtins=builtinsNs
 above:X.s₀.heap.objs.size<=X.env.locals
 inj:∀ x y c,X.env.cells.lookup x=some c->X.env.cells.lookup y=some c->x=y
 has:∀ x,(X.env.kindOf x=some .cell∨X.env.kindOf x=some .free)->∃ c,X.env.cells.lookup x=some c
 zR:∀ x c,X.fn x=true->X.env.cells.lookup x=some c->X.s₀.heap.objs.size<=c
 hd:X.calm=true->X.A.handled=none
 frames:X.A.frames=some X.stack
 AU:X.stack=X.outer∨(X.stack=X.env::X.outer/\X.env.frame=some X.env.locals)
 Jb:∀ b∈X.ex,b≠X.env.locals/\∀ x c,X.env.cells.lookup x=some c->c≠b
 bs:∀ b o,X.base.get? b=some o->X.s₀.heap.get? b=some o/\X.H₀ b=none
 qN:X.base.objs.size<=X.s₀.heap.objs.size
 sd:∀ b o,X.base.get? b=some o->b ∉ X.ex
 vE:∀ b∈X.ex,b ∉ X.fs
 fO:X.s₀.heap.FunFrames X.base X.outer
 uO:∀ b∈X.fs,X.H₀ b=none
structure Inv (X:Cx)(dv:List (Addr×Obj))(Z : List (Option V))(H:Hp)(s:Shared):Prop where
 ok:X.Ok
 os:s.os=X.s₀.os
 bare:AllBare s.gens
 base:Un X.fs X.ex X.H₀ H X.s₀.heap s.heap
 loc:∃ m,s.heap.Ns X.env.locals m/\∀ (i:Nat) (x:Str) (v:V),X.N[i]? = some x->Z[i]? = some (some v)->Lk X.env.scope x->∃ u,RelV v u/\Look X.env s.heap m x u
 cell:∀ x c,X.env.cells.lookup x=some c->∃ v,s.heap.IsCell c v
 free:H X.env.locals=none
 ee:∀ x c,X.env.cells.lookup x=some c->H c=none
 pin:∀ p∈X.pn++dv,s.heap.get? p.1=some p.2/\H p.1=none/\p.1≠X.env.locals/\p.1 ∉ X.fs/\∀ v,p.2.data≠.cell v
 au:cK X.prog X.w H s.heap
 len : Z.length=X.N.length
section
variable {X:Cx} {dv:List (Addr×Obj)} {Z : List (Option V)} {H H':Hp} {s:Shared} {h':Heap}
theorem Cx.Ok.Qd (ok:X.Ok){b:Addr}{o:Obj}(e:X.base.get? b=some o):b ∉ X.fs:=λhb=>by
 have:=(ok.fO.mem hb).1
 rw[e] at this;cases this
theorem Inv.bs (I:Inv X dv Z H s):∀ b o,X.base.get? b=some o->s.heap.get? b=some o/\H b=none:=λb o e =>
 ⟨I.base.keep b o (I.ok.bs b o e).1 (I.ok.bs b o e).2 (I.ok.Qd e) (I.ok.sd b o e),I.base.free b o (I.ok.bs b o e).1 (I.ok.bs b o e).2 (I.ok.sd b o e)⟩
theorem Inv.bk (I:Inv X dv Z H s):∀ b o,X.base.get? b=some o->s.heap.get? b=some o:=λb o e=>(I.bs b o e).1
theorem Inv.mod (I:Inv X dv Z H s):Mod X.K X.mg X.base:=I.ok.mod
theorem Inv.cZ (I:Inv X dv Z H s):X.K.In s.heap:=I.ok.mod.yF.keeps I.bk
theorem Inv.lt (I:Inv X dv Z H s):X.env.locals<s.heap.objs.size:=let ⟨_,hn,_⟩:=I.loc;hn.lt
theorem Inv.sz (I:Inv X dv Z H s):X.s₀.heap.objs.size<=s.heap.objs.size:=aaR I.ok.above (adi I.lt)
theorem Inv.Lc (I:Inv X dv Z H s){a:Addr}(h:s.heap.objs.size<=a):a ∉ X.fs:=λhb=>by
 obtain⟨_,o,ho,_⟩:=I.ok.fO.mem hb;exact absurd (aaB (aav ho) (aaR I.sz h)) (ace _)
theorem Inv.nG (I:Inv X dv Z H s):∀ x c,X.env.cells.lookup x=some c->c≠X.env.locals:=λx c e z=>by
 obtain⟨v,o,ho,hd⟩:=I.cell x c e;obtain⟨m,⟨o',es,ep,Uz,VW,_⟩,_⟩:=I.loc;rw[z,Uz] at ho;cases ho;rw[VW] at hd;cases hd
theorem Inv.fO (I:Inv X dv Z H s):s.heap.FunFrames X.base X.outer:=by
 have all:∀ (l:List Env),(∀ b∈bE l,b∈X.fs)->X.s₀.heap.FunFrames X.base l->s.heap.FunFrames X.base l:=by
   intro l
   induction l with
   | nil=>intro _ _;trivial
   | cons env r ih =>
     intro hs hl;obtain⟨hk,⟨L,o,hf,hn,ho,hd⟩,hr⟩:=hl;have hL:L∈X.fs:=hs L (by unfold bE;rw[ab4,hf];exact aa_);obtain⟨sl,e⟩:=I.base.slot L o ho (I.ok.uO L hL) hL λz=>I.ok.vE L z hL;exact⟨hk,⟨L,_,hf,hn,e,hd⟩,ih (λb hb=>hs b (by unfold bE;rw[ab4,hf];exact aa8 _ hb)) hr⟩
 exact all X.outer (λ_ hb=>hb) I.ok.fO
theorem Inv.stack (I:Inv X dv Z H s):s.heap.FunFrames X.base X.stack:=by
 rcases I.ok.AU with e | ⟨e,hf⟩
 . rw[e];exact I.fO
 . rw[e];obtain⟨m,hn,_⟩:=I.loc;refine .cons (by rw[I.ok.kind];decide) hf hn ?_ I.fO;exact Heap.get?_none_of_le (aaR I.ok.qN I.ok.above)
theorem Inv.nq (I:Inv X dv Z H s):∀ b∈bE X.stack,b∈X.env.locals::X.fs:=λb hb=>by
 rcases I.ok.AU with e | ⟨e,hf⟩
 . rw[e] at hb;exact aa8 _ hb
 . rw[e] at hb;unfold bE at hb;rw[ab4,hf] at hb;exact hb
theorem Inv.pW (I:Inv X dv Z H s):∀ b∈bE X.stack,H b=none:=λb hb=>by
 rcases List.mem_cons.mp (I.nq b hb) with e | hb
 . rw[e];exact I.free
 . obtain⟨_, o, ho, _⟩ := I.ok.fO.mem hb;exact I.base.free b o ho (I.ok.uO b hb) λz=>I.ok.vE b z hb
theorem Inv.step {g':Array GenState}{t':Nat}{d':Drawn}{ch:List Addr}(I:Inv X dv Z H s)
   (Va:∀ b∈ch,(b∈X.ex∨X.s₀.heap.objs.size<=b)/\b≠X.env.locals/\(∀ x c,X.env.cells.lookup x=some c->c≠b)/\∀ p∈X.pn++dv,p.1≠b)
   (keep:∀ b o,b≠X.env.locals->b ∉ X.fs->b ∉ ch->s.heap.get? b=some o->H b=none->h'.get? b=some o)
   (slot:∀ b o,b≠X.env.locals->b∈X.fs->b ∉ ch->s.heap.get? b=some o->H b=none->∃ sl,h'.get? b=some { o with slots:=sl }) (free:∀ b o,b ∉ ch->s.heap.get? b=some o->H b=none->H' b=none)
   (there:∀ b o,b ∉ ch->s.heap.get? b=some o->∃ o',h'.get? b=some o')
   (iC:∀ b xs,H b=some (.tup xs)->H' b=some (.tup xs)) (fW:∀ b o u,H b=some (.cx o u)->H' b=some (.cx o u)) (iD:∀ b ps,H b=some (.tD ps)->∃ more,H' b=some (.tD (ps++more)))
   (ns:∀ m,s.heap.Ns X.env.locals m->h'.Ns X.env.locals m) (au:cK X.prog X.w H' h') (hg:AllBare g') :
   Inv X dv Z H' { s with heap:=h',gens:=g',drawn:=d',toks:=t' }:=by
 have neL:∀ b o,X.s₀.heap.get? b=some o->b≠X.env.locals:=λb o e=>aaH (aaB (aav e) I.ok.above);have neC:∀ b o,X.s₀.heap.get? b=some o->b ∉ X.ex->b ∉ ch:=λb o e hx hb=>by
   rcases(Va b hb).1 with z | z
   . exact hx z
   . exact absurd (aaB (aav e) z) (ace _)
 have Wb:∀ x c,X.env.cells.lookup x=some c->∀ v,s.heap.IsCell c v->h'.IsCell c v:=λx c e v zq=>mX zq λo ho hd=>by
   have nch:c ∉ ch:=λz=>(Va c z).2.2.1 x c e rfl;by_cases hc:c∈X.fs
   . obtain⟨sl, q⟩ := slot c o (I.nG x c e) hc nch ho (I.ee x c e);exact⟨_,q,hd⟩
   . exact⟨o,keep c o (I.nG x c e) hc nch ho (I.ee x c e),hd⟩
 refine⟨I.ok,I.os,hg,⟨λb o e n hb hx=>?_,λb o e n hb hx=>?_,λb o e n hx=>?_,λb o e hx=>?_,λb xs e=>iC b xs (I.base.iC b xs e),λb o xs e=>fW b o xs (I.base.fW b o xs e),λb ps e=>?_⟩,?_,λx c e=>?_,?_,λx c e=>?_,λp hp=>?_,au,I.len⟩
 . exact keep b o (neL b o e) hb (neC b o e hx) (I.base.keep b o e n hb hx) (I.base.free b o e n hx)
 . obtain⟨sl, e1⟩ := I.base.slot b o e n hb hx;obtain⟨sl',e2⟩:=slot b _ (neL b o e) hb (neC b o e hx) e1 (I.base.free b o e n hx);exact⟨sl',e2⟩
 . obtain⟨o', e1⟩ := I.base.there b o e hx;exact free b o' (neC b o e hx) e1 (I.base.free b o e n hx)
 . obtain⟨o', e1⟩ := I.base.there b o e hx;exact there b o' (neC b o e hx) e1
 . obtain⟨m1, e1⟩ := I.base.iD b ps e;obtain⟨m2,e2⟩:=iD b _ e1;exact⟨m1++m2,by rw[e2,Array.append_assoc]⟩
 . obtain ⟨m, hn, hl⟩ := I.loc;refine ⟨m,ns m hn,λi x v e1 e2 e3=>?_⟩;obtain ⟨u,r,l⟩:=hl i x v e1 e2 e3;refine ⟨u,r,?_⟩;rcases l with l | ⟨k,c,e,z⟩
   . exact .inl l
   . exact .inr ⟨k,c,e,Wb x c e _ z⟩
 . obtain⟨v, z⟩ := I.cell x c e;exact⟨v,Wb x c e v z⟩
 . obtain⟨m, ⟨o, _, _, ho, _⟩, _⟩ := I.loc;exact free _ o (λz=>(Va _ z).2.1 rfl) ho I.free
 . obtain⟨v, o, ho, hd⟩ := I.cell x c e;exact free c o (λz=>(Va c z).2.2.1 x c e rfl) ho (I.ee x c e)
 . obtain⟨e, n, ne, nf, d⟩ := I.pin p hp;have nch:p.1 ∉ ch:=λz=>(Va p.1 z).2.2.2 p hp rfl;exact⟨keep p.1 p.2 ne nf nch e n,free p.1 p.2 nch e n,ne,nf,d⟩
variable {t':Nat}
theorem Inv.un (I:Inv X dv Z H s)(u:Un X.fs [] H H' s.heap h')(au:cK X.prog X.w H' h'):Inv X dv Z H' { s with heap:=h',toks:=t' }:=by
 obtain⟨m,⟨o,es,ep,ho,r⟩,_⟩:=id I.loc;obtain⟨sl,hL⟩:=u.any ho I.free (by simp);exact I.step (g':=s.gens) (d':=s.drawn) (ch:=[]) (λ_ z=>nomatch z) (λb o _ hb _ e n=>u.keep b o e n hb (by simp)) (λb o _ hb _ e n=>u.slot b o e n hb (by simp)) (λb o _ e n=>u.free b o e n (by simp)) (λb o _ e=>u.there b o e (by simp)) u.iC u.fW u.iD (λm' hm=>by
   obtain⟨o',S0,ep',Uz,r'⟩:=hm;rw[ho] at Uz;cases Uz;exact⟨_,S0,ep',hL,r'⟩) au I.bare
theorem Inv.call {g':Array GenState}{t':Nat}{d':Drawn}{ch:List Addr}(I:Inv X dv Z H s)(u:Un (bE X.stack) ch H H' s.heap h')(au:cK X.prog X.w H' h')(hg:AllBare g')
   (Va:∀ b∈ch,(b∈X.ex∨X.s₀.heap.objs.size<=b)/\b≠X.env.locals/\(∀ x c,X.env.cells.lookup x=some c->c≠b)/\∀ p∈X.pn++dv,p.1≠b) :
   Inv X dv Z H' { s with heap:=h',gens:=g',drawn:=d',toks:=t' }:=by
 obtain⟨m,⟨o,es,ep,ho,r⟩,_⟩:=id I.loc;obtain⟨sl,hL⟩:=u.any ho I.free λz=>(Va _ z).2.1 rfl;exact I.step (ch:=ch) Va (λb o hL hb hc e n=>u.keep b o e n (λz=>(List.mem_cons.mp (I.nq b z)).elim hL hb) hc) (λb o _ _ hc e n=>u.any e n hc) (λb o hc e n=>u.free b o e n hc) (λb o hc e=>u.there b o e hc) u.iC u.fW u.iD (λm' hm=>by
   obtain⟨o',S0,ep',Uz,r'⟩:=hm;rw[ho] at Uz;cases Uz;exact⟨_,S0,ep',hL,r'⟩) au hg
theorem Inv.turned {t':Nat}{it:Addr}(I:Inv X dv Z H s)(k:∀ b o,b≠it->s.heap.get? b=some o->h'.get? b=some o)(hn:H it=none)(hL:it≠X.env.locals)
   (h1:it∈X.ex∨X.s₀.heap.objs.size<=it) (h2:∀ x c,X.env.cells.lookup x=some c->c≠it) (h3:∀ p∈X.pn++dv,p.1≠it):Inv X dv Z H { s with heap:=h',toks:=t' }:=by
 have nit:∀ b u,H b=some u->b≠it:=λb u e z=>by rw[z,hn] at e;cases e
 refine I.step (g' := s.gens) (d' := s.drawn) (ch := [it]) (λb hb => ?_) (λb o _ _ hc e _ => k b o (λz => hc (by simp [z])) e) (λb o _ _ hc e _ => ⟨o.slots, k b o (λz => hc (by simp [z])) e⟩) (λ_ _ _ _ n => n)
   (λb o hc e=>⟨o,k b o (λz=>hc (by simp[z])) e⟩) (λ_ _ e=>e) (λ_ _ _ e=>e) (λb ps e=>⟨#[],by rw[e];simp⟩) (λm hm=>?_) (λb u e=>?_) I.bare
 . have e : b = it := by simpa using hb
   subst e;exact⟨h1,hL,h2,h3⟩
 . obtain⟨o, es, ep, ho, r⟩ := hm;exact⟨o,es,ep,k _ o (Ne.symm hL) ho,r⟩
 . refine (I.au b u e).iB (λc v hc q=>k c v ?_ q) (λ_ q=>q) λ_ _ q=>q;rcases hc with z | z
   . rw[z];exact nit b u e
   . exact nit c _ z
theorem Inv.tok (I:Inv X dv Z H s)(t:Nat):Inv X dv Z H { s with toks:=t }:=I.un (h':=s.heap) (t':=t) Un.refl I.au
theorem Inv.kept (I:Inv X dv Z H s)(k:∀ b u,s.heap.get? b=some u->h'.get? b=some u):Inv X dv Z H { s with heap:=h',toks:=t' }:=I.un (Un.kept k) (I.au.kept k)
theorem Inv.laid {a:Addr}{t':Nat}(I:Inv X dv Z H s)(k:∀ b u,s.heap.get? b=some u->h'.get? b=some u)(hp:s.heap.objs.size<=a)(new:bM X.prog X.w (upd H a o) h' a o) :
   Inv X dv Z (upd H a o) { s with heap:=h',toks:=t' }:=I.un (Un.laid k hp (I.au.fresh hp)) (I.au.laid k hp new)
theorem Inv.write {x e:Addr}{o:HO}{t':Nat}(I:Inv X dv Z H s)(mu:F1 (H x))(he:e=x∨H e=some (.own x))(k:∀ b u,b≠e->s.heap.get? b=some u->h'.get? b=some u)(heo:∃ u,h'.get? e=some u)
   (new:bM X.prog X.w (upd H x o) h' x o):Inv X dv Z (upd H x o) { s with heap:=h',toks:=t' }:=I.un (Un.write mu he k heo) (I.au.write mu he k heo new)
theorem Inv.pS {V4:List (Addr×Obj)}(I:Inv X dv Z H s)(h:∀ p∈V4,s.heap.get? p.1=some p.2/\H p.1=none/\p.1≠X.env.locals/\p.1 ∉ X.fs/\∀ v,p.2.data≠.cell v):Inv X V4 Z H s :=
 ⟨I.ok,I.os,I.bare,I.base,I.loc,I.cell,I.free,I.ee,λp hp=>(List.mem_append.mp hp).elim (λz=>I.pin p (aa5 _ z)) (h p),I.au,I.len⟩
variable {x:Str} {i:Nat}
theorem rL {N:List Str}(hN:N.Nodup){j:Nat}(a:N[i]? = some x)(b:N[j]? = some x):i=j:=by
 obtain⟨h1,e1⟩:=List.getElem?_eq_some_iff.mp a;obtain⟨h2,e2⟩:=List.getElem?_eq_some_iff.mp b;exact(List.getElem_inj hN).mp (e1.trans e2.symm)
theorem wY {M:Model}{A:Around}{E:Value->Shared->Prop}{v:V}{Q:Unit->Shared->Prop}(I:Inv X dv Z H s)(hN:X.N.Nodup)(hi:X.N[i]? = some x)(hx:Loc X.env.scope x)(r:RelV v u)
   (h:∀ s',Inv X dv (Z.set i (some v)) H s'->(∃ a,ab6 a s.heap s'.heap/\(a=X.env.locals∨X.env.cells.lookup x=some a))->Q () s') (hf:X.fn x=true∨X.env.scope.names.lookup x=some .local:=by first | exact .inl rfl | exact .inr rfl | assumption):wpAny M A (storeName X.env x u) Q E s:=by
 obtain⟨m,hn,hl⟩:=id I.loc;have hcls:(X.env.scope.kind == .class || (X.env.scope.kind == .module && X.env.locals != X.env.globals))=false:=by rw[I.ok.kind];rfl
 have hiZ : i < Z.length:=by rw[I.len];exact(List.getElem?_eq_some_iff.mp hi).1
 have nG:=I.nG;have SQ:∀ {a:Addr} {h':Heap},(∃ o,s.heap.get? a=some o/\H a=none)->ab6 a s.heap h'->cK X.prog X.w H h':=λ{a h'} ha hs b ob e=>by
   obtain⟨_,_,V_⟩:=ha;refine(I.au b ob e).iB (λc w' hc q=>(hs.2 c ?_).trans q) (λ_ q=>q) λ_ _ q=>q;rintro rfl;rcases hc with rfl | hc
   . rw[V_] at e;cases e
   . rw[V_] at hc;cases hc
 rcases hx with hk | hk
 . refine wpAny_storeName_local hk hn (λh' hn' hs=>?_) hcls;obtain ⟨oL,_,_,hoL,_⟩:=id hn;refine h _ ⟨I.ok,I.os,I.bare,⟨λb o e n hb hx=>?_,λb o e n hb hx=>?_,I.base.free,λb o e hx=>?_,I.base.iC,I.base.fW,I.base.iD⟩,⟨_,hn',λj y v' e1 e2 e3=>?_⟩,λy c e=>?_,I.free,I.ee,λp hp=>?_,SQ ⟨oL,hoL,I.free⟩ hs,by simpa using I.len⟩ ⟨_,hs,.inl rfl⟩
   . exact(hs.2 b (aaH (aaB (aav e) I.ok.above))).trans (I.base.keep b o e n hb hx)
   . obtain⟨sl, e1⟩ := I.base.slot b o e n hb hx;exact⟨sl,(hs.2 b (aaH (aaB (aav e) I.ok.above))).trans e1⟩
   . obtain⟨o', e1⟩ := I.base.there b o e hx;exact⟨o',(hs.2 b (aaH (aaB (aav e) I.ok.above))).trans e1⟩
   . by_cases hj:j=i
     . subst hj;rw[hi] at e1;cases e1;rw[aaS hiZ] at e2;cases e2
       exact⟨u,r,.inl ⟨hk,by simp⟩⟩
     . rw[aaT (Ne.symm hj)] at e2;obtain⟨u',r',q⟩:=hl j y v' e1 e2 e3;refine⟨u',r',?_⟩;rcases q with ⟨k,e⟩ | ⟨k,c,e,z⟩
       . refine .inl ⟨k,?_⟩
         have:y≠x:=λe=>hj (rL hN e1 (e ▸ hi))
         simp[this,e]
       . exact .inr ⟨k,c,e,z.sameBut hs (nG y c e)⟩
   . obtain⟨w', z⟩ := I.cell y c e;exact⟨w',z.sameBut hs (nG y c e)⟩
   . obtain⟨e, n, ne, nf, d⟩ := I.pin p hp;exact⟨(hs.2 p.1 ne).trans e,n,ne,nf,d⟩
 . have hfn : X.fn x = true := by
     rcases hf with z | z
     . exact z
     . rw[z] at hk;cases hk
   obtain⟨c,hc⟩:=I.ok.has x (.inl hk);obtain⟨w',z⟩:=I.cell x c hc;refine wpAny_storeName_cell I.ok.kind hk hc z (λh' hc' hs=>?_);obtain⟨oc,hoc,hocd⟩:=id z;refine h { s with heap:=h' } ⟨I.ok,I.os,I.bare,⟨λb o e n hb hx=>?_,λb o e n hb hx=>?_,I.base.free,λb o e hx=>?_,I.base.iC,I.base.fW,I.base.iD⟩,⟨m,hn.sameBut hs (Ne.symm (nG x c hc)),λj y v' e1 e2 e3=>?_⟩,λy c' e=>?_,I.free,I.ee,λp hp=>?_,SQ ⟨oc,hoc,I.ee x c hc⟩ hs,by simpa using I.len⟩ ⟨c,hs,.inr hc⟩
   . exact(hs.2 b (aaH (aaB (aav e) (I.ok.zR x c hfn hc)))).trans (I.base.keep b o e n hb hx)
   . obtain⟨sl, e1⟩ := I.base.slot b o e n hb hx;exact⟨sl,(hs.2 b (aaH (aaB (aav e) (I.ok.zR x c hfn hc)))).trans e1⟩
   . obtain⟨o', e1⟩ := I.base.there b o e hx;exact⟨o',(hs.2 b (aaH (aaB (aav e) (I.ok.zR x c hfn hc)))).trans e1⟩
   . by_cases hj:j=i
     . subst hj;rw[hi] at e1;cases e1;rw[aaS hiZ] at e2;cases e2
       exact⟨u,r,.inr ⟨.inl hk,c,hc,hc'⟩⟩
     . rw[aaT (Ne.symm hj)] at e2;obtain⟨u',r',q⟩:=hl j y v' e1 e2 e3;refine⟨u',r',?_⟩;rcases q with q | ⟨k,c',e,z'⟩
       . exact .inl q
       . refine .inr ⟨k,c',e,z'.sameBut hs ?_⟩;rintro rfl;exact hj (rL hN e1 (I.ok.inj _ _ _ e hc ▸ hi))
   . by_cases hcc:c'=c
     . subst hcc;exact⟨_,hc'⟩
     . obtain⟨w2, z2⟩ := I.cell y c' e;exact⟨w2,z2.sameBut hs hcc⟩
   . obtain⟨e, n, ne, nf, d⟩ := I.pin p hp;refine⟨(hs.2 p.1 ?_).trans e,n,ne,nf,d⟩;intro q;rw[q,hoc] at e;have q':oc=p.2:=aap e;exact d w' (by rw[<- q'];exact hocd)
theorem rR {M:Model}{A:Around}{E:Value->Shared->Prop}{v:V}{Q:Unit->Shared->Prop}(I:Inv X dv Z H s)(hN:X.N.Nodup)(hi:X.N[i]? = some x)(hx:Loc X.env.scope x)(r:RelV v u)
   (h:∀ s',Inv X dv (Z.set i (some v)) H s'->Q () s') (hf:X.fn x=true∨X.env.scope.names.lookup x=some .local:=by first | exact .inl rfl | exact .inr rfl | assumption):wpAny M A (storeName X.env x u) Q E s :=
 wY I hN hi hx r (λs' I' _=>h s' I') hf
theorem Inv.uK {s':Shared}{ch:List Addr}(I:Inv X dv Z H s)(ho:s'.os=s.os)(u:Un (bE X.stack) ch H H' s.heap s'.heap)(au:cK X.prog X.w H' s'.heap)(hg:AllBare s'.gens)
   (Va:∀ b∈ch,(b∈X.ex∨X.s₀.heap.objs.size<=b)/\b≠X.env.locals/\(∀ x c,X.env.cells.lookup x=some c->c≠b)/\∀ p∈X.pn++dv,p.1≠b):Inv X dv Z H' s':=by
 obtain⟨h',g',d',t',o'⟩:=s';have e:o'=s.os:=ho;subst e;exact I.call (g':=g') (t':=t') (d':=d') u au hg Va
end
abbrev XK:=Value->Option Addr->Hp->Prop
abbrev St:=List (Option V)
abbrev VK:=V->Hp->Prop
abbrev TE:=St->Hp->VK->Prop
abbrev TT:=St->Hp->(Bool->Hp->Prop)->Prop
abbrev TA:=St->Hp->(List V->Hp->Prop)->Prop
structure Ends where
 nx:St->Hp->Prop
 rt:VK
 bk:St->Hp->Prop:=λ_ _=>False
 ct:St->Hp->Prop:=λ_ _=>False
abbrev TS:=Ends->St->Hp->Prop
def EP (X:Cx)(dv:List (Addr×Obj))(Z : St)(Q:VK)(u:Value)(s':Shared):Prop:=∃ v H',Inv X dv Z H' s'/\RelV v u/\Q v H'
def TP (X:Cx)(dv:List (Addr×Obj))(Z : St)(Q:Bool->Hp->Prop)(b:Bool)(s':Shared):Prop:=∃ H',Inv X dv Z H' s'/\Q b H'
def AP (X:Cx)(dv:List (Addr×Obj))(Z : St)(Q:List V->Hp->Prop)(us:List Value)(s':Shared):Prop:=∃ vs H',Inv X dv Z H' s'/\aE vs us/\Q vs H'
def SP (X:Cx)(dv:List (Addr×Obj))(D:Ends)(f:Flow)(s':Shared):Prop :=
 match f with
 | .next=>∃ Z' H',Inv X dv Z' H' s'/\D.nx Z' H'
 | .brk=>∃ Z' H',Inv X dv Z' H' s'/\D.bk Z' H'
 | .cont=>∃ Z' H',Inv X dv Z' H' s'/\D.ct Z' H'
 | .ret u=>∃ v Z' H',Inv X dv Z' H' s'/\RelV v u/\D.rt v H'
def PE (X:Cx)(e:Expr)(t:TE):Prop :=
 ∀ (dv:List (Addr×Obj)) (s:Shared) (Z : St) (H:Hp) (Q:VK),Inv X dv Z H s->t Z H Q->wpAny (model X.prog X.w) X.A (eval e X.env) (EP X dv Z Q) X.xe s
def PT (X:Cx)(e:Expr)(t:TT):Prop :=
 ∀ (dv:List (Addr×Obj)) (s:Shared) (Z : St) (H:Hp) (Q:Bool->Hp->Prop),Inv X dv Z H s->t Z H Q->wpAny (model X.prog X.w) X.A (isTrue e X.env (eval e X.env)) (TP X dv Z Q) X.xe s
def PW (X:Cx)(e:Expr)(t:TT):Prop :=
 ∀ (R_:Sem Value) (dv:List (Addr×Obj)) (s:Shared) (Z : St) (H:Hp) (Q:Bool->Hp->Prop),Inv X dv Z H s->t Z H Q->wpAny (model X.prog X.w) X.A (isTrue e X.env R_) (TP X dv Z Q) X.xe s
variable {e:Expr}
theorem PW.pt {X:Cx}{t:TT}(h:PW X e t):PT X e t:=h _
def PA (X:Cx)(es:List Expr)(t:TA):Prop :=
 ∀ (pos:Pos) (dv:List (Addr×Obj)) (s:Shared) (Z : St) (H:Hp) (Q:List V->Hp->Prop),Inv X dv Z H s->t Z H Q->wpAny (model X.prog X.w) X.A (spliced (backTo pos (aas es X.env))) (AP X dv Z Q) X.xe s
def PS (X:Cx)(st:Stmt)(t:TS):Prop :=
 ∀ (dv:List (Addr×Obj)) (s:Shared) (Z : St) (H:Hp) (D:Ends),Inv X dv Z H s->t D Z H->wpAny (model X.prog X.w) X.A (exec st X.env) (SP X dv D) X.xe s
def iq (X:Cx)(st:List Stmt)(t:TS):Prop :=
 ∀ (dv:List (Addr×Obj)) (s:Shared) (Z : St) (H:Hp) (D:Ends),Inv X dv Z H s->t D Z H->wpAny (model X.prog X.w) X.A (execs st X.env) (SP X dv D) X.xe s
variable {s:Shared} {E:Value->Shared->Prop} {A:Around} {M:Model}
theorem aL {α : Type}{t:Sem α}{Q Q' : α->Shared->Prop}(h:wpAny M A t Q E s)(hQ:∀ a s,Q a s->Q' a s):wpAny M A t Q' E s:=aaV h hQ λ_ _ x=>x
section
variable {X:Cx}
@[reducible] def QA:Option V->(V->Prop)->Prop
 | some v,k=>k v
 | none,_=>False
@[reducible] def G2:St->Nat->(V->Prop)->Prop
 | [],_,_=>False
 | o::_,0,k=>QA o k
 | _::r,n+1,k=>G2 r n k
@[reducible] def zN:St->Nat->V->(St->Prop)->Prop
 | [],_,_,k=>k []
 | _::r,0,v,k=>k (some v::r)
 | o::r,n+1,v,k=>zN r n v λr'=>k (o::r')
@[reducible] def EM:V->(Bool->Prop)->Prop
 | .bl b,k=>k b
 | _,_=>False
@[reducible] def E2:V->(Int->Prop)->Prop
 | .int b,k=>k b
 | _,_=>False
@[reducible] def Nz:V->(V->Prop)->Prop
 | .int i,k=>k (.int i)
 | .bl b,k=>k (.bl b)
 | v,k=>k v
@[reducible] def Ce:List V->Nat->Prop->Prop
 | [],_,p=>p
 | _::r,n+1,p=>Ce r n p
 | _::_,0,_=>False
theorem ED {x:V}{k:V->Prop}(h:Nz x k):k x:=by cases x <;> exact h
theorem pJ:∀ {xs:List V} {n:Nat} {p:Prop},Ce xs n p->xs.length<=n/\p
 | [],_,_,h=>⟨aaW _,h⟩
 | _::r,n+1,p,h=>⟨Nat.succ_le_succ (pJ (xs:=r) (n:=n) (p:=p) h).1,(pJ (xs:=r) (n:=n) (p:=p) h).2⟩
theorem Ba:∀ {Z : St} {i:Nat} {k:V->Prop},G2 Z i k->∃ v,Z[i]? = some (some v)/\k v
 | some v::_,0,_,h=>⟨v,rfl,h⟩
 | _ :: r, n + 1, k, h => by
   obtain⟨v,e,q⟩:=Ba (Z:=r) (i:=n) (k:=k) h;exact⟨v,by rw[List.getElem?_cons_succ];exact e,q⟩
theorem pZ:∀ (Z : St) (i:Nat) (v:V) (k:St->Prop),zN Z i v k ↔ k (Z.set i (some v))
 | [],_,_,_=>Iff.rfl
 | _::_,0,_,_=>Iff.rfl
 | o::r,n+1,v,k=>pZ r n v λr'=>k (o::r')
theorem pj {x:V}{k:Bool->Prop}(h:EM x k):∃ b,x=.bl b/\k b:=by
 cases x with
 | bl b=>exact⟨b,rfl,h⟩
 | _=>exact h.elim
theorem ug {x:V}{k:Int->Prop}(h:E2 x k):∃ b,x=.int b/\k b:=by
 cases x with
 | int b=>exact⟨b,rfl,h⟩
 | _=>exact h.elim
variable {x:Str} {i:Nat}
@[reducible] def Dq (i:Nat):TE:=λZ H Q=>G2 Z i λv=>Q v H
@[reducible] def tC (v:V):TE:=λ_ H Q=>Q v H
theorem ES {pos:Pos}(hN:X.N[i]? = some x)(hv:Lk X.env.scope x)(hd:(x == ("__debug__" : Str))=false:=by decide)(Sn:(x == ("__classdict__" : Str))=false:=by decide):PE X (.Name x pos) (Dq i):=by
 intro dv s Z H Q I h;obtain⟨v,e,h⟩:=Ba h;obtain⟨m,hn,hl⟩:=I.loc;obtain⟨u,r,l⟩:=hl i x v hN e hv;have RN:EP X dv Z Q u s:=⟨v,H,I,r,h⟩
 rcases l with ⟨hk,hm⟩ | ⟨hk,c,hc,hcell⟩
 . exact wpAny_Name (wpAny_loadName_local I.ok.kind hk hn hm RN) hd
 . rcases hk with hk | hk
   . exact wpAny_Name (wpAny_loadName_cell I.ok.kind hk hc hcell RN) hd
   . exact wpAny_Name (wpAny_loadName_free I.ok.kind hk hc hcell RN Sn) hd
theorem aH {i j pos}:PE X (.Constant (.int i) j pos) (tC (.int i)):=λ_ _ _ H _ I h=>wpAny_Constant_int ⟨.int i,H,I.tok _,⟨_,rfl⟩,h⟩
theorem IL {b j pos}:PE X (.Constant (.bool b) j pos) (tC (.bl b)):=λ_ _ _ H _ I h=>Constant_bool ⟨.bl b,H,I,rfl,h⟩
theorem eT {j pos}:PE X (.Constant .none j pos) (tC .ax):=λ_ _ _ H _ I h=>Constant_none ⟨.ax,H,I,rfl,h⟩
theorem il {x j pos}:PE X (.Constant (.str x) j pos) (tC (.str x)):=λ_ _ _ H _ I h=>Calls.Constant_str ⟨.str x,H,I.tok _,⟨_,rfl⟩,h⟩
def Gl (X:Cx)(x:Str):Prop:=X.env.kindOf x=some .globalImplicit
variable {Z : St} {dv:List (Addr×Obj)}
theorem i5 {E:Value->Shared->Prop}{pos:Pos}{Q:Value->Shared->Prop}(I:Inv X dv Z H s)(hg:Gl X x)(hm:X.mg x=some u)(h:Q u s)
   (hd:(x == ("__debug__" : Str))=false:=by decide):wpAny (model X.prog X.w) X.A (eval (.Name x pos) X.env) Q E s :=
 Calls.Name_function_global I.ok.kind hg (Calls.loadGlobal_global (by rw[I.ok.glob];exact I.mod.glob.keeps I.bk) hm h) hd
theorem kA {E:Value->Shared->Prop}{pos:Pos}{Q:Value->Shared->Prop}(I:Inv X dv Z H s)(hg:Gl X x)(hm:X.mg x=none)(hv:aaY x=some u)(h:Q u s)
   (hn:x ≠ "__name__":=by decide) (hd:(x == ("__debug__" : Str))=false:=by decide):wpAny (model X.prog X.w) X.A (eval (.Name x pos) X.env) Q E s:=by
 obtain⟨mb,h1,h2⟩:=I.mod.blt;exact Calls.Name_function_global I.ok.kind hg (Calls.loadGlobal_builtin (by rw[I.ok.glob];exact I.mod.glob.keeps I.bk) hm (by rw[I.ok.blt];exact h1.keeps I.bk) ((h2 x hn).trans hv) h) hd
theorem bI {v:V}{pos:Pos}(hg:Gl X x)(hm:X.mg x=some u)(r:RelV v u)(hd:(x == ("__debug__" : Str))=false:=by decide):PE X (.Name x pos) (tC v) :=
 λ_ _ _ H _ I h=>i5 I hg hm ⟨v,H,I,r,h⟩ hd
theorem dh {v:V}{pos:Pos}(hg:Gl X x)(hm:X.mg x=none)(hv:aaY x=some u)(r:RelV v u)(hn:x ≠ "__name__":=by decide)(hd:(x == ("__debug__" : Str))=false:=by decide):PE X (.Name x pos) (tC v) :=
 λ_ _ _ H _ I h=>kA I hg hm hv ⟨v,H,I,r,h⟩ hn hd
variable {a b:Expr} {ta tb:TE} {pos:Pos}
def PC (X:Cx)(op:CmpOp)(a b:Expr)(t:TE):Prop :=
 ∀ (dv:List (Addr×Obj)) (s:Shared) (Z : St) (H:Hp) (Q:VK),Inv X dv Z H s->t Z H Q ->
   wpAny (model X.prog X.w) X.A (eval a X.env) (λv s₁=>wpAny (model X.prog X.w) X.A (eval b X.env) (λu s₂=>wpAny (model X.prog X.w) X.A (aa2 op v u) (EP X dv Z Q) X.xe s₂) X.xe s₁) X.xe s
def tB (t:TE):TT:=λZ H Q=>t Z H λx H1=>∃ c,x=.bl c/\Q c H1
variable {op:CmpOp}
theorem tH {t:TE}(h:PC X op a b t)(h1:adg op b=false:=by first | exact nobehind _ (by decide) (by decide) | rfl):PT X (.Compare a [op] [b] pos) (tB t):=by
 intro dv s Z H Q I hw;refine wpAny_isTrue_Compare1 (aL (h dv s Z H _ I hw) λv s1 h1=>aL h1 λu s2 h2=>aL h2 λc s3 zq=>bF zq λx H1 I1 r1 q1=>?_) h1;obtain⟨d,rfl,q⟩:=q1;cases r1
 exact aa9 ⟨H1,I1,q⟩
variable {tA U0:TT} {RS:List Expr}
@[reducible] def L6 (t u:TT):TT:=λZ H Q=>t Z H λc H1=>if c=true then u Z H1 Q else Q false H1
@[reducible] def Np (t u:TT):TT:=λZ H Q=>t Z H λc H1=>if c=true then Q true H1 else u Z H1 Q
@[reducible] def QD (t:TT):TT:=λZ H Q=>t Z H λc H1=>Q (!c) H1
theorem Bq (ha:PT X a tA):PW X (.BoolOp .And [a] pos) tA:=by
 intro wh dv s Z H Q I h;refine isTrue_and (aL (ha dv s Z H Q I h) λc s1 e=>?_);cases c with
 | true=>exact isTrue_and_nil e
 | false=>exact e
theorem hW (ha:PT X a tA):PW X (.BoolOp .Or [a] pos) tA:=by
 intro wh dv s Z H Q I h;refine isTrue_or (aL (ha dv s Z H Q I h) λc s1 e=>?_);cases c with
 | false=>exact isTrue_or_nil e
 | true=>exact e
theorem yo (ha:PT X a tA)(hb:PW X (.BoolOp .And (b::RS) pos) U0):PW X (.BoolOp .And (a::b::RS) pos) (L6 tA U0):=by
 intro wh dv s Z H Q I h;refine isTrue_and (aL (ha dv s Z H _ I h) λc s1 zq=>mX zq λH1 I1 q1=>?_);cases c with
 | true=>exact hb wh dv s1 Z H1 Q I1 q1
 | false=>exact⟨H1,I1,q1⟩
theorem fY (ha:PT X a tA)(hb:PW X (.BoolOp .Or (b::RS) pos) U0):PW X (.BoolOp .Or (a::b::RS) pos) (Np tA U0):=by
 intro wh dv s Z H Q I h;refine isTrue_or (aL (ha dv s Z H _ I h) λc s1 zq=>mX zq λH1 I1 q1=>?_);cases c with
 | true=>exact⟨H1,I1,q1⟩
 | false=>exact hb wh dv s1 Z H1 Q I1 q1
theorem dq (ha:PT X a tA):PT X (.UnaryOp .Not a pos) (QD tA):=by
 intro dv s Z H Q I h;exact isTrue_not (ha dv s Z H (λc H1=>Q (!c) H1) I h)
@[reducible] def NW (ta tb:TE):TE:=λZ H Q=>ta Z H λx H1=>EM x λc=>if c=true then tb Z H1 Q else Q (.bl false) H1
@[reducible] def Px (ta tb:TE):TE:=λZ H Q=>ta Z H λx H1=>EM x λc=>if c=true then Q (.bl true) H1 else tb Z H1 Q
@[reducible] def OF (ta:TE):TE:=λZ H Q=>ta Z H λx H1=>EM x λc=>Q (.bl (!c)) H1
theorem ib {op}{t:TE}(h:PE X a t):PE X (.BoolOp op [a] pos) t:=λdv s Z H Q I hw=>BoolOp_one (h dv s Z H Q I hw)
theorem fA (ha:PE X a ta)(hb:PE X (.BoolOp .And (b::RS) pos) tb):PE X (.BoolOp .And (a::b::RS) pos) (NW ta tb):=by
 intro dv s Z H Q I h;refine BoolOp_and (aL (ha dv s Z H _ I h) λv s1 zq=>bF zq λx H1 I1 r1 q1=>?_);obtain⟨c,rfl,q1⟩:=pj q1;cases r1
 refine aa9 ?_;cases c with
 | true=>exact hb dv s1 Z H1 Q I1 q1
 | false=>exact⟨.bl false,H1,I1,rfl,q1⟩
theorem IS (ha:PE X a ta)(hb:PE X (.BoolOp .Or (b::RS) pos) tb):PE X (.BoolOp .Or (a::b::RS) pos) (Px ta tb):=by
 intro dv s Z H Q I h;refine BoolOp_or (aL (ha dv s Z H _ I h) λv s1 zq=>bF zq λx H1 I1 r1 q1=>?_);obtain⟨c,rfl,q1⟩:=pj q1;cases r1
 refine aa9 ?_;cases c with
 | false=>exact hb dv s1 Z H1 Q I1 q1
 | true=>exact⟨.bl true,H1,I1,rfl,q1⟩
theorem zO (ha:PE X a ta):PE X (.UnaryOp .Not a pos) (OF ta):=by
 intro dv s Z H Q I h;refine UnaryOp_ (aL (ha dv s Z H _ I h) λv s1 zq=>bF zq λx H1 I1 r1 q1=>?_);obtain⟨c,rfl,q1⟩:=pj q1;cases r1
 exact not_of (aa9 ⟨.bl (!c),H1,I1,rfl,q1⟩)
@[reducible] def Q1 (t:TT) (ta tb:TE):TE:=λZ H Q=>t Z H λc H1=>if c=true then ta Z H1 Q else tb Z H1 Q
theorem jl {c:Expr}(hc:PT X c tA)(ha:PE X a ta)(hb:PE X b tb):PE X (.IfExp c a b pos) (Q1 tA ta tb):=by
 intro dv s Z H Q I h;refine wpAny_IfExp (aL (hc dv s Z H _ I h) λd s1 zq=>mX zq λH1 I1 q1=>?_);cases d with
 | true=>exact ha dv s1 Z H1 Q I1 q1
 | false=>exact hb dv s1 Z H1 Q I1 q1
end
def av (K:W.Frag)(H:Hp)(a:Addr)(xs:List V):Prop :=
 Rd H a (.lst xs) ∨
   ∃ (o:Obj) (its:Array Value) (n:Nat),K.lookup a=some o/\o.cls=.type "list"/\o.dict=none/\o.data=.seq its n/\its.size<=aar/\aE xs its.toList
def az (K:W.Frag)(H:Hp)(a:Addr)(xs:List V):Prop :=
 Rd H a (.tup xs) ∨
   ∃ (o:Obj) (its:Array Value) (n:Nat),K.lookup a=some o/\o.cls=.type "tuple"/\o.data=.seq its n/\its.size<=aar/\aE xs its.toList
def Qe:Value->Option V
 | .none=>some .ax
 | .bool b=>some (.bl b)
 | .int i _=>some (.int i)
 | .str x _=>some (.str x)
 | .bytes b _=>some (.byt b)
 | .float b _=>some (.yf b)
 | .ref a=>some (.ref a)
 | .type n=>some (.ty n)
 | _=>none
theorem RelV.abs {x:V}(r:RelV x u):Qe u=some x:=by
 cases x with
 | ax=>cases r;rfl
 | bl _=>cases r;rfl
 | int _=>obtain⟨t,rfl⟩:=r;rfl
 | str _=>obtain⟨t,rfl⟩:=r;rfl
 | byt _=>obtain⟨t,rfl⟩:=r;rfl
 | yf _=>obtain⟨t,rfl⟩:=r;rfl
 | ref _=>cases r;rfl
 | ty _=>cases r;rfl
theorem RelV.inj {x y:V}(r:RelV x u)(q:RelV y u):x=y:=aap (r.abs.symm.trans q.abs)
theorem aE.inj:∀ {xs ys:List V} {us:List Value},aE xs us->aE ys us->xs=ys
 | _,_,_,.nil,.nil=>rfl
 | _,_,_,.cons r t,.cons r' t'=>by rw[r.inj r',aE.inj t t']
section
variable {X:Cx} {dv:List (Addr×Obj)} {Z : St} {H:Hp} {s:Shared} {a:Addr} {xs ys:List V}
theorem av.of {K:W.Frag}(h:H a=some (.lst xs)):av K H a xs:=.inl (.inl h)
theorem az.of {K:W.Frag}(h:H a=some (.tup xs)):az K H a xs:=.inl (.inl h)
theorem Inv.list (I:Inv X dv Z H s)(h:av X.K H a xs):∃ its:List Value,aE xs its/\PlainL s.heap a its.toArray/\xs.length<=aar:=by
 rcases h with h | ⟨o,its,n,hk,hc,hd,hs,hz,r⟩
 . obtain⟨z, its, n, r, e⟩ := h.ok I.au;exact⟨its,r,⟨_,n,e,rfl,rfl,rfl⟩,z⟩
 . refine⟨its.toList, r, ⟨o, n, I.cZ a o hk, hc, hd, by simpa using hs⟩, ?_⟩;have e:=r.length;simp only[ab2] at e;omega
theorem Inv.tuple (I:Inv X dv Z H s)(h:az X.K H a xs):∃ its:List Value,aE xs its/\IsTup s.heap a its.toArray/\xs.length<=aar:=by
 rcases h with h | ⟨o,its,n,hk,hc,hs,hz,r⟩
 . obtain⟨z, its, r, p⟩ := h.ok I.au;exact⟨its,r,p,z⟩
 . refine⟨its.toList, r, ⟨o, I.cZ a o hk, hc, n, by simpa using hs⟩, ?_⟩;have e:=r.length;simp only[ab2] at e;omega
theorem Inv.r6 (I:Inv X dv Z H s)(h:av X.K H a xs)(h':av X.K H a ys):xs=ys:=by
 obtain⟨its,r,⟨o,n,e,_,_,d⟩,_⟩:=I.list h;obtain⟨its',r',⟨o',n',e',_,_,d'⟩,_⟩:=I.list h';rw[e] at e';cases e';rw[d] at d';injection d' with d1 _
 have:its=its':=by simpa using congrArg Array.toList d1
 subst this;exact r.inj r'
theorem Inv.w_ (I:Inv X dv Z H s)(h:az X.K H a xs)(h':az X.K H a ys):xs=ys:=by
 obtain⟨its,r,⟨o,e,_,n,d⟩,_⟩:=I.tuple h;obtain⟨its',r',⟨o',e',_,n',d'⟩,_⟩:=I.tuple h';rw[e] at e';cases e';rw[d] at d';injection d' with d1 _
 have:its=its':=by simpa using congrArg Array.toList d1
 subst this;exact r.inj r'
end
abbrev Cx.gv (X:Cx)(E:Value->Shared->Prop):Cx:={ X with xe:=E }
abbrev Cx.gm (X:Cx):Cx:=X.gv λ_ _=>False
theorem Cx.Ok.gv {X:Cx}(ok:X.Ok)(E:Value->Shared->Prop):(X.gv E).Ok :=
 ⟨ok.mod,ok.kind,ok.glob,ok.blt,ok.above,ok.inj,ok.has,ok.zR,ok.hd,ok.frames,ok.AU,ok.Jb,ok.bs,ok.qN,ok.sd,ok.vE,ok.fO,ok.uO⟩
theorem Cx.Ok.eB {X:Cx}(ok:(X.gv E).Ok):X.Ok :=
 ⟨ok.mod,ok.kind,ok.glob,ok.blt,ok.above,ok.inj,ok.has,ok.zR,ok.hd,ok.frames,ok.AU,ok.Jb,ok.bs,ok.qN,ok.sd,ok.vE,ok.fO,ok.uO⟩
section
variable {X:Cx} {dv:List (Addr×Obj)} {Z : St} {H:Hp} {s:Shared} {E:Value->Shared->Prop}
theorem Inv.gv (I:Inv X dv Z H s)(E:Value->Shared->Prop):Inv (X.gv E) dv Z H s:=⟨I.ok.gv E,I.os,I.bare,I.base,I.loc,I.cell,I.free,I.ee,I.pin,I.au,I.len⟩
theorem Inv.eB (I:Inv (X.gv E) dv Z H s):Inv X dv Z H s:=⟨I.ok.eB,I.os,I.bare,I.base,I.loc,I.cell,I.free,I.ee,I.pin,I.au,I.len⟩
theorem SP.eB {D:Ends}{f:Flow}{s':Shared}(h:SP (X.gv E) dv D f s'):SP X dv D f s':=by
 cases f with
 | next=>obtain⟨Z',H',I,q⟩:=h;exact⟨Z',H',I.eB,q⟩
 | brk=>obtain⟨Z',H',I,q⟩:=h;exact⟨Z',H',I.eB,q⟩
 | cont=>obtain⟨Z',H',I,q⟩:=h;exact⟨Z',H',I.eB,q⟩
 | ret u=>obtain⟨v,Z',H',I,r,q⟩:=h;exact⟨v,Z',H',I.eB,r,q⟩
theorem PT.gm {t:TT}(h:PT X.gm e t):PT X e t:=λdv s Z H Q I hw =>
 aaV (h dv s Z H Q (I.gv _) hw) (λ_ _ zq=>mX zq λH' I' q=>⟨H',I'.eB,q⟩) λ_ _ z=>abf z
theorem iq.gm {st:List Stmt}{t:TS}(h:iq X.gm st t):iq X st t:=λdv s Z H D I hw =>
 aaV (h dv s Z H D (I.gv _) hw) (λ_ _ q=>q.eB) λ_ _ z=>abf z
end
section
variable {X:Cx} {st:Stmt} {RS:List Stmt} {t u:TS} {e:Expr} {te:TE} {pos:Pos}
@[reducible] def OQ:TS:=λD Z H=>D.nx Z H
@[reducible] def Cb (t u:TS):TS:=λD Z H=>t { D with nx:=u D } Z H
theorem aT:iq X [] OQ:=λ_ _ Z H _ I h=>acm ⟨Z,H,I,h⟩
theorem aF (h1:PS X st t)(h2:iq X RS u):iq X (st::RS) (Cb t u):=by
 intro dv s Z H D I h;refine wpAny_execs_cons (aL (h1 dv s Z H { D with nx:=u D } I h) λf s1 q=>?_);cases f with
 | next =>
   obtain⟨Z',H',I',q⟩:=q;exact h2 dv s1 Z' H' D I' q
 | ret v=>exact q
 | brk=>exact q
 | cont=>exact q
theorem cv (h1:PS X st t):iq X [st] t:=by
 intro dv s Z H D I h;refine wpAny_execs_cons (aL (h1 dv s Z H D I h) λf s1 q=>?_);cases f with
 | next=>exact acm q
 | ret v=>exact q
 | brk=>exact q
 | cont=>exact q
variable {Z : St} {dv:List (Addr×Obj)}
theorem Inv.quiet (I:Inv X dv Z H s):interactive X.env=false:=by simp[interactive,I.ok.kind]
@[reducible] def O4 (te:TE):TS:=λD Z H=>te Z H λ_ H1=>D.nx Z H1
theorem cL (he:PE X e te)(hs:swapsWith e none pos.line X.env=pure false:=by rfl):PS X (.Expr e pos) (O4 te):=by
 intro dv s Z H D I h;exact wpAny_Expr_any (aL (he dv s Z H _ I h) λv s1 zq=>bF zq λx H1 I1 r1 q1=>⟨Z,H1,I1,q1⟩) I.quiet hs
@[reducible] def Qq (te:TE):TS:=λD Z H=>te Z H D.rt
theorem b9 (he:PE X e te):PS X (.Return (some e) pos) (Qq te):=by
 intro dv s Z H D I h;exact wpAny_Return_some (aL (he dv s Z H _ I h) λv s1 zq=>bF zq λx H1 I1 r1 q1=>⟨x,Z,H1,I1,r1,q1⟩)
@[reducible] def PR (c:TT) (t u:TS):TS:=λD Z H=>c Z H λb H1=>if b=true then t D Z H1 else u D Z H1
theorem Ip {c:Expr}{a b:List Stmt}{tc:TT}(hc:PT X c tc)(ha:iq X a t)(hb:iq X b u):PS X (.If c a b pos) (PR tc t u):=by
 intro dv s Z H D I h;refine wpAny_If (aL (hc dv s Z H _ I h) λd s1 zq=>mX zq λH1 I1 q1=>?_);cases d with
 | true=>exact ha dv s1 Z H1 D I1 q1
 | false=>exact hb dv s1 Z H1 D I1 q1
def KQ:TS:=λ_ _ _=>False
theorem GS:PS X st KQ:=λ_ _ _ _ _ _ h=>h.elim
end
abbrev TG:=V->St->Hp->(St->Hp->Prop)->Prop
abbrev qx:=List V->St->Hp->(St->Hp->Prop)->Prop
def PG (X:Cx)(So:Expr)(t:TG):Prop :=
 ∀ (dv:List (Addr×Obj)) (s:Shared) (Z : St) (H:Hp) (v:V) (u:Value) (Q:St->Hp->Prop),Inv X dv Z H s->RelV v u->t v Z H Q ->
   wpAny (model X.prog X.w) X.A (assign So X.env u) (λ_ s'=>∃ Z' H',Inv X dv Z' H' s'/\Q Z' H') X.xe s
def EE (X:Cx)(ts:List Expr)(t:qx):Prop :=
 ∀ (dv:List (Addr×Obj)) (s:Shared) (Z : St) (H:Hp) (vs:List V) (us:List Value) (Q:St->Hp->Prop),Inv X dv Z H s->aE vs us->t vs Z H Q ->
   wpAny (model X.prog X.w) X.A (assignInOrder ((acP ts X.env).map (·.2)) us) (λ_ s'=>∃ Z' H',Inv X dv Z' H' s'/\Q Z' H') X.xe s
abbrev GD:=V->V->V->Hp->(Hp->Prop)->Prop
def MI (X:Cx)(t:GD):Prop :=
 ∀ (dv:List (Addr×Obj)) (s:Shared) (Z : St) (H:Hp) (o i v:V) (ov iv u:Value) (Q:Hp->Prop),Inv X dv Z H s->RelV o ov->RelV i iv->RelV v u->t o i v H Q ->
   wpAny (model X.prog X.w) X.A (setItem ov iv u) (λ_ s'=>∃ H',Inv X dv Z H' s'/\Q H') X.xe s
section
variable {X:Cx} {pos:Pos}
variable {x:Str} {i:Nat}
@[reducible] def cU (i:Nat):TG:=λv Z H Q=>zN Z i v λZ1=>Q Z1 H
theorem aM (hN:X.N.Nodup)(hi:X.N[i]? = some x)(hx:Loc X.env.scope x)(hf:X.fn x=true∨X.env.scope.names.lookup x=some .local:=by first | exact .inl rfl | exact .inr rfl | assumption):PG X (.Name x pos) (cU i):=by
 intro dv s Z H v u Q I r h;exact wpAny_assign_Name (rR I hN hi hx r (λs' I'=>⟨_,H,I',(pZ _ _ _ _).1 h⟩) hf)
def Mu:qx:=λvs Z H Q=>vs=[]/\Q Z H
def IZ (t:TG)(u:qx):qx:=λvs Z H Q=>∃ v r,vs=v::r/\t v Z H λZ' H'=>u r Z' H' Q
theorem eZ:EE X [] Mu:=by
 intro dv s Z H vs us Q I r h;obtain⟨e,h⟩:=h;subst e;cases r
 exact assignInOrder_nil ⟨Z,H,I,h⟩
theorem bR {es:List Expr}{t:TG}{u:qx}(h1:PG X e t)(h2:EE X es u)
   (hs:(acP (e::es) X.env).map (·.2)=assign e X.env::(acP es X.env).map (·.2):=by rfl):EE X (e::es) (IZ t u):=by
 intro dv s Z H vs us Q I r h;obtain⟨v,vr,e1,h⟩:=h;subst e1;cases r with
 | cons r rr =>
   rw[hs];refine assignInOrder_cons (aL (h1 dv s Z H _ _ _ I r h) λ_ s1 zq=>?_);obtain⟨Z1,H1,I1,q1⟩:=zq;exact h2 dv s1 Z1 H1 _ _ Q I1 rr q1
def Hn (K:W.Frag)(n:Nat)(t:qx):TG:=λv Z H Q=>∃ a xs,v=.ref a/\az K H a xs/\xs.length=n/\t xs Z H Q
theorem MB {es:List Expr}{k:Nat}{t:qx}{n:Nat}(hc:X.calm=true)(h:EE X es t)
   (hn:(acP es X.env).length=n:=by rfl) (RU:(acP es X.env).findIdx? (·.1)=none:=by rfl):PG X (.Tuple es k pos) (Hn X.K n t):=by
 intro dv s Z H v u Q I r hw;obtain⟨a,xs,e1,hq,hl,hw⟩:=hw;subst e1;cases r
 obtain⟨its,rv,ht,hz⟩:=I.tuple hq;refine assign_Tuple_tuple (I.ok.hd hc) ht (by simp[hn,<- hl,rv.length]) RU λh' hx=>?_;have I1:Inv X dv Z H { s with heap:=h' }:=I.kept (t':=s.toks) λb o e=>hx b o (aaH (aav e)) e;exact h dv _ Z H xs _ Q I1 (by simpa using rv) hw
@[reducible] def Py (to ti:TE) (t:GD):TG:=λv Z H Q=>to Z H λo H1=>ti Z H1 λi H2=>t o i v H2 λH3=>Q Z H3
theorem K2 {o i:Expr}{to ti:TE}{t:GD}(ho:PE X o to)(hi:PE X i ti)(hs:MI X t)
   (ha : ∀ v, assign (.Subscript o i pos) X.env v = (do
     let ov <- holding [v] (eval o X.env)
     let iv <- holding [v,ov] (eval i X.env)
     standAt pos
     holding [v,ov,iv] (setItem ov iv v)
     release [v,ov,iv] []):=by intro _;rfl):PG X (.Subscript o i pos) (Py to ti t):=by
 intro dv s Z H v u Q I r h;rw[ha];refine aaf (abw (aL (ho dv s Z H _ I h) λov s1 zq=>bF zq λx H1 I1 r1 q1=>?_));refine aaf (abw (aL (hi dv s1 Z H1 _ I1 q1) λiv s2 zq=>bF zq λy H2 I2 r2 q2=>?_));refine aaf (wpAny_standAt (aaf (abw (aL (hs dv s2 Z H2 x y v ov iv u _ I2 r1 r2 r q2) λ_ s3 zq=>mX zq λH3 I3 q3=>?_))));exact wpAny_release ⟨Z,H3,I3,q3⟩
variable {tg:Expr}
@[reducible] def Ml (te:TE) (g:TG):TS:=λD Z H=>te Z H λx H1=>g x Z H1 D.nx
theorem Lz {te : TE}{g : TG}(he : PE X e te)(hg : PG X tg g)(hs : swapsWithSole [tg] e pos.line X.env = pure false := by rfl)(hw : swappedStores [tg] e X.env = pure none := by rfl)
   (h1:(acP [tg] X.env).map (·.2)=[assign tg X.env]:=by rfl):PS X (.Assign [tg] e pos) (Ml te g):=by
 intro dv s Z H D I h;refine wpAny_Assign_stores (aL (he dv s Z H _ I h) λv s1 zq=>bF zq λx H1 I1 r1 q1=>?_) hs hw;rw[h1];exact aL (hg dv s1 Z H1 x v _ I1 r1 q1) λ_ s2 q=>q
theorem c9 {te : TE}{Sr : Pos}(hN : X.N.Nodup)(hi : X.N[i]? = some x)(hx : Loc X.env.scope x)(he : PE X e te)(hs : swapsWith e (some (.Name x Sr)) pos.line X.env = pure false := by rfl)(hf : X.fn x = true ∨ X.env.scope.names.lookup x = some .local := by first | exact .inl rfl | exact .inr rfl | assumption) :
   PS X (.Assign [.Name x Sr] e pos) (Ml te (cU i)):=by
 intro dv s Z H D I h;refine wpAny_Assign_Name (aL (he dv s Z H _ I h) λv s1 zq=>bF zq λy H1 I1 r1 q1=>?_) hs;exact rR I1 hN hi hx r1 (λs2 I2=>⟨_,H1,I2,(pZ _ _ _ _).1 q1⟩) hf
end
section
variable {X:Cx} {pos:Pos}
def Lp (c:TT)(tb:TS):TS:=λD Z H=>∃ W:Nat->St->Hp->Prop,(∃ m,W m Z H)/\∀ m Z H,W m Z H ->
 c Z H λb H1=>if b=true then ∃ N:St->Hp->Prop,(∀ Z' H',N Z' H'->∃ m',m'<m/\W m' Z' H')/\tb { D with nx:=N,ct:=N,bk:=D.nx } Z H1 else D.nx Z H1
variable {tb:TS}
theorem ma {c:Expr}{body:List Stmt}{tc:TT}(hp:PassesOwn (model X.prog X.w) X.A X.env X.xe)(hc:PT X c tc)(hb:iq X body tb):PS X (.While c body [] pos) (Lp tc tb):=by
 intro dv s Z H D I h;obtain⟨W,⟨m0,w0⟩,TJ⟩:=h;refine wpAny_While (codeAny_whileLoop (λn s'=>∃ Z' H',Inv X dv Z' H' s'/\W n Z' H') ?_ m0 ⟨Z,H,I,w0⟩);rintro n s1 ⟨Z1,H1,I1,w1⟩;refine abY hp (aL (hc dv s1 Z1 H1 _ I1 (TJ n Z1 H1 w1)) λb s2 zq=>mX zq λH2 I2 q2=>?_);cases b with
 | true =>
   obtain⟨N,hN,q2⟩:=q2;rw[if_pos rfl];refine abY hp (aL (hb dv s2 Z1 H2 _ I2 q2) λf s3 q3=>?_);cases f with
   | next =>
     obtain⟨Z3,H3,I3,n3⟩:=q3;obtain⟨m',hm,w3⟩:=hN Z3 H3 n3;exact⟨m',hm,Z3,H3,I3,w3⟩
   | cont =>
     obtain⟨Z3,H3,I3,n3⟩:=q3;obtain⟨m',hm,w3⟩:=hN Z3 H3 n3;exact⟨m',hm,Z3,H3,I3,w3⟩
   | brk=>exact q3
   | ret v=>exact q3
 | false =>
   rw[if_neg aaw];exact acm ⟨Z1,H2,I2,q2⟩
end
structure It where
 go:Nat->Hp->Prop
 qX:Nat->Hp->V->Hp->Prop
 stop:Nat->Hp->Prop
def oN (X:Cx)(dv:List (Addr×Obj))(H:Hp)(b:Addr):Prop :=
 H b=none/\b≠X.env.locals/\b ∉ X.fs/\(b∈X.ex∨X.s₀.heap.objs.size<=b)/\(∀ x c,X.env.cells.lookup x=some c->c≠b)/\∀ p∈X.pn++dv,p.1≠b
variable {Z : St} {dv:List (Addr×Obj)}
theorem Inv.lN {X:Cx}{H':Hp}{b:Addr}(I:Inv X dv Z H s)(hb:s.heap.objs.size<=b)(hn:H' b=none):oN X dv H' b:=by
 refine⟨hn,abU (aaB I.lt hb),I.Lc hb,.inr (aaR I.sz hb),λx c e z=>?_,λp hp z=>?_⟩
 . obtain⟨v, q⟩ := I.cell x c e;exact absurd (aaB q.lt (by rw[z];exact hb)) (ace _)
 . exact absurd (aaB (aav (I.pin p hp).1) (by rw[z];exact hb)) (ace _)
structure Turn (P:Program)(w:World)(K:W.Frag)(tg:Expr)(J:It)(fp:List Addr)(it:Addr)(tn:Nat->Heap->Prop):Prop where
 mem:it∈fp
 obj:∀ i h,tn i h->∀ b∈fp,∃ o,h.get? b=some o/\∀ v,o.data≠.cell v
 keep:∀ i h h',tn i h->(∀ b∈fp,∀ o,h.get? b=some o->h'.get? b=some o)->tn i h'
 item:∀ (X:Cx),X.prog=P->X.w=w->X.K=K->X.calm=true->∀ (i:Nat) (dv:List (Addr×Obj)) (s:Shared) (Z : St) (H:Hp) (E:Value->Shared->Prop),Inv X dv Z H s->(∀ b∈fp,oN X dv H b)->tn i s.heap->J.go i H ->
   wpAny (model P w) X.A (pyNext (.ref it)) (λr s1=>∃ u,r=some u /\
     wpAny (model P w) X.A (adw tg (.ref it) u) (λ_ s2=>∃ x H',Inv X dv Z H' s2/\RelV x u/\J.qX i H x H'/\tn (i+1) s2.heap/\∀ b∈fp,H' b=none) E s1) E s
 done:∀ (X:Cx),X.prog=P->X.w=w->X.K=K->X.calm=true->∀ (i:Nat) (dv:List (Addr×Obj)) (s:Shared) (Z : St) (H:Hp) (E:Value->Shared->Prop),Inv X dv Z H s->(∀ b∈fp,oN X dv H b)->tn i s.heap->J.stop i H ->
   wpAny (model P w) X.A (pyNext (.ref it)) (λr s1=>r=none/\Inv X dv Z H s1) E s
 self:∀ (A:Around) (i:Nat) (s:Shared) (Q:Value->Shared->Prop) (E:Value->Shared->Prop),tn i s.heap->Q (.ref it) s->wpAny (model P w) A (pyIter (.ref it)) Q E s
abbrev TI:=St->Hp->(It->Hp->Prop)->Prop
def Pg (X:Cx)(dv:List (Addr×Obj))(Z : St)(tg:Expr)(R:It->Hp->Prop)(itv:Value)(s2:Shared):Prop :=
 ∃ (it:Addr) (fp:List Addr) (tn:Nat->Heap->Prop) (J:It) (H':Hp),itv=.ref it/\Inv X dv Z H' s2/\Turn X.prog X.w X.K tg J fp it tn/\tn 0 s2.heap/\(∀ b∈fp,oN X dv H' b)/\R J H'
def PI (X:Cx)(tg iter:Expr)(wi:TI):Prop :=
 ∀ (dv:List (Addr×Obj)) (s:Shared) (Z : St) (H:Hp) (R:It->Hp->Prop),Inv X dv Z H s->wi Z H R ->
   wpAny (model X.prog X.w) X.A (eval iter X.env) (λv s1=>wpAny (model X.prog X.w) X.A (pyIter v) (Pg X dv Z tg R) X.xe s1) X.xe s
theorem CG {M:Model}{A:Around}{E:Value->Shared->Prop}{tg:Expr}{it:Addr}{u:Value}{o:Obj}{n:String}{vs:Array Value}{Q:Unit->Shared->Prop}(ho:s.heap.get? it=some o)(hc:o.cls=.type n)(hd:o.data=.fields vs)
   (hn : ["enumerate","zip","dict_itemiterator","dict_reverseitemiterator","odict_iterator","itertools.zip_longest","itertools.pairwise"].contains n=false) (hQ:Q () s):wpAny M A (adw tg (.ref it) u) Q E s:=by
 unfold adw
 cases tg <;> first
   | exact aat hQ
   | (cases u <;> first
       | exact aat hQ
       | (refine aaf (wpAny_load ho ?_)
          rw[hc,hd];show wpAny M A (if (["enumerate","zip","dict_itemiterator","dict_reverseitemiterator","odict_iterator","itertools.zip_longest","itertools.pairwise"].contains n && vs[0]? == some (rawInt _))=true then _ else _) Q E s;rw[if_neg (by intro h;rw[hn,abj] at h;cases h)];exact aat hQ))
def uA (K:W.Frag)(a:Addr):It :=
 ⟨λi H=>∃ xs x,av K H a xs/\xs[i]? = some x,λi H x H'=>H'=H/\∀ xs,av K H a xs->xs[i]? = some x,λi H=>∃ xs,av K H a xs/\xs.length<=i⟩
def Iq (K:W.Frag)(a:Addr):It :=
 ⟨λi H=>∃ xs x,az K H a xs/\xs[i]? = some x,λi H x H'=>H'=H/\∀ xs,az K H a xs->xs[i]? = some x,λi H=>∃ xs,az K H a xs/\xs.length<=i⟩
def ui (lo:Int)(n:Nat):It:=⟨λi _=>i<n,λi H x H'=>H'=H/\x=.int (lo+i),λi _=>n<=i⟩
variable {tg:Expr}
theorem FA {P:Program}{w:World}{K:W.Frag}(a it:Addr):Turn P w K tg (uA K a) [it] it (λi h=>h.IsListIter it a i) where
 mem:=by simp
 obj:=λi h st b hb=>by
   have e:b=it:=by simpa using hb
   subst e;obtain⟨o,e,c,d⟩:=st;exact⟨o,e,λv z=>by rw[d] at z;cases z⟩
 keep:=λi h h' st k=>st.at λo e=>k it (by simp) o e
 item:=by
   intro X hP hw hK hc i dv s Z H E I hf st hg;subst hP hw hK;obtain⟨xs,x,hq,hx⟩:=hg;obtain⟨its,rv,p,hz⟩:=I.list hq;obtain⟨u,hu,ru⟩:=rv.get hx;obtain⟨f0,f1,f2,f3,f4,f5⟩:=hf it (by simp);refine wpAny_pyNext_list_item st p.isList (x:=u) (by simpa using hu) λh' VE sb=>?_;have I1:Inv X dv Z H { s with heap:=h' }:=I.turned (t':=s.toks) (λb o hb e=>(sb.2 b hb).trans e) f0 f1 f3 f4 f5;obtain⟨o,e,c,d⟩:=id VE;exact⟨u,rfl,CG (s:={ s with heap:=h' }) e c d (by decide) ⟨x,H,I1,ru,⟨rfl,λys hy=>by rw[I.r6 hy hq];exact hx⟩,VE,λb hb=>(hf b hb).1⟩⟩
 done:=by
   intro X hP hw hK hc i dv s Z H E I hf st hg;subst hP hw hK;obtain⟨xs,hq,hx⟩:=hg;obtain⟨its,rv,p,hz⟩:=I.list hq;obtain⟨f0,f1,f2,f3,f4,f5⟩:=hf it (by simp);have hl:=rv.length;exact wpAny_pyNext_list_end (I.ok.hd hc) st p.isList (by simp;omega) λh' eb=>⟨rfl,I.turned (t':=s.toks) (λb o hb e=>eb b o hb e) f0 f1 f3 f4 f5⟩
 self:=λ_ _ _ _ _ st h=>wpAny_pyIter_listiter st h
theorem CT {P:Program}{w:World}{K:W.Frag}(a it:Addr):Turn P w K tg (Iq K a) [it] it (λi h=>h.IsTupleIter it a i) where
 mem:=by simp
 obj:=λi h st b hb=>by
   have e:b=it:=by simpa using hb
   subst e;obtain⟨o,e,c,d⟩:=st;exact⟨o,e,λv z=>by rw[d] at z;cases z⟩
 keep:=λi h h' st k=>st.at λo e=>k it (by simp) o e
 item:=by
   intro X hP hw hK hc i dv s Z H E I hf st hg;subst hP hw hK;obtain⟨xs,x,hq,hx⟩:=hg;obtain⟨its,rv,p,hz⟩:=I.tuple hq;obtain⟨u,hu,ru⟩:=rv.get hx;obtain⟨f0,f1,f2,f3,f4,f5⟩:=hf it (by simp);refine wpAny_pyNext_tuple_item st (show s.heap.IsTuple a its.toArray from p) (x:=u) (by simpa using hu) λh' VE sb=>?_;have I1:Inv X dv Z H { s with heap:=h' }:=I.turned (t':=s.toks) (λb o hb e=>(sb.2 b hb).trans e) f0 f1 f3 f4 f5;obtain⟨o,e,c,d⟩:=id VE;exact⟨u,rfl,CG (s:={ s with heap:=h' }) e c d (by decide) ⟨x,H,I1,ru,⟨rfl,λys hy=>by rw[I.w_ hy hq];exact hx⟩,VE,λb hb=>(hf b hb).1⟩⟩
 done:=by
   intro X hP hw hK hc i dv s Z H E I hf st hg;subst hP hw hK;obtain⟨xs,hq,hx⟩:=hg;obtain⟨its,rv,p,hz⟩:=I.tuple hq;obtain⟨f0,f1,f2,f3,f4,f5⟩:=hf it (by simp);have hl:=rv.length;exact wpAny_pyNext_tuple_end (I.ok.hd hc) st (show s.heap.IsTuple a its.toArray from p) (by simp;omega) λh' eb=>⟨rfl,I.turned (t':=s.toks) (λb o hb e=>eb b o hb e) f0 f1 f3 f4 f5⟩
 self:=λ_ _ _ _ _ st h=>wpAny_pyIter_tupleiter st h
theorem B2 {P:Program}{w:World}{K:W.Frag}(it:Addr)(lo:Int)(n:Nat):Turn P w K tg (ui lo n) [it] it (λi h=>IsRangeIter h it (lo+(i:Nat)*1) ((n:Int) - (i:Nat)) 1) where
 mem:=by simp
 obj:=λi h st b hb=>by
   have e:b=it:=by simpa using hb
   subst e;exact⟨_,st,λv z=>by
     have z':Data.fields _=Data.cell v:=z;cases z'⟩
 keep:=λi h h' st k=>k it (by simp) _ st
 item:=by
   intro X hP hw hK hc i dv s Z H E I hf st hg;subst hP hw hK;obtain⟨f0,f1,f2,f3,f4,f5⟩:=hf it (by simp);have W:=Walks.range (prog:=X.prog) (w:=X.w) (I.ok.hd hc) it lo 1 n;refine W.item i s _ _ hg st λv h' tk hv VE kk=>?_;obtain⟨t,rfl⟩:=hv;have I1:Inv X dv Z H { s with heap:=h',toks:=tk }:=I.turned (λb o hb e=>kk b o (by simpa using hb) e) f0 f1 f3 f4 f5;refine⟨_,rfl,CG (s:={ s with heap:=h',toks:=tk }) (n:="range_iterator") VE rfl rfl (by decide) ⟨.int (lo+i),H,I1,⟨t,?_⟩,⟨rfl,rfl⟩,VE,λb hb=>(hf b hb).1⟩⟩;rw[Int.mul_one]
 done:=by
   intro X hP hw hK hc i dv s Z H E I hf st hg;subst hP hw hK;obtain⟨f0,f1,f2,f3,f4,f5⟩:=hf it (by simp);exact wpAny_pyNext_range_end (I.ok.hd hc) st (by have:n<=i:=hg;omega) λh' eb=>⟨rfl,I.turned (t':=s.toks) (λb o hb e=>eb b o hb e) f0 f1 f3 f4 f5⟩
 self:=λ_ _ _ _ _ st h=>wpAny_pyIter_rangeiter st h
section
variable {X:Cx} {tg:Expr}
theorem GH {R:It->Hp->Prop}{E:Value->Shared->Prop}{lo hi:Int}{t u v:Tok}{tk:Nat}(I:Inv X dv Z H s)(h1 : -(2 ^ 62)<=lo)(h2:lo<2 ^ 62)(h3 : -(2 ^ 62)<=hi)(h4:hi<2 ^ 62)
   (q:R (ui lo (hi - lo).toNat) H):wpAny (model X.prog X.w) X.A (pyIter (.ref s.heap.objs.size)) (Pg X dv Z tg R) E { s with heap:=s.heap.push { cls:=.type "range",data:=.fields #[.int lo t,.int hi u,.int 1 v] },toks:=tk }:=by
 refine wpAny_pyIter_range (IsRange.new ..) (small_one h1 h2 h3 h4) ?_;have I1:Inv X dv Z H { s with heap:=s.heap.push { cls:=.type "range",data:=.fields #[.int lo t,.int hi u,.int 1 v] },toks:=tk }:=I.kept λb o e=>aaj _ e
 refine⟨(s.heap.push { cls:=.type "range",data:=.fields #[.int lo t,.int hi u,.int 1 v] }).objs.size,[(s.heap.push { cls:=.type "range",data:=.fields #[.int lo t,.int hi u,.int 1 v] }).objs.size],_,_,H,rfl,
   I1.kept (t':=tk) λb o e=>aaj _ e,B2 _ lo (hi - lo).toNat,?_,λb hb=>?_,q⟩
 . have e1 : lo + ((0 : Nat) : Int) * 1 = lo := by simp
   have e2:(((hi - lo).toNat:Nat):Int) - ((0:Nat):Int)=Builtin.Range.rangeSize lo hi 1:=by rw[rangeSize_one];split <;> omega
   show IsRangeIter _ _ (lo+((0:Nat):Int)*1) ((((hi - lo).toNat:Nat):Int) - ((0:Nat):Int)) 1;rw[e1,e2];exact aay _ rfl
 . have e : b = (s.heap.push { cls := .type "range", data := .fields #[.int lo t, .int hi u, .int 1 v] }).objs.size := by simpa using hb
   subst e;exact I1.lN (aai _) (I1.au.fresh (aai _))
def C1 (ta:TA):TI:=λZ H R=>ta Z H λvs H1=>∃ j:Int,vs=[.int j]/\-(2 ^ 62)<=j/\j<2 ^ 62/\R (ui 0 j.toNat) H1
theorem oo {a:Expr}{ta:TA}{p pos:Pos}(hg:Gl X "range")(hm:X.mg "range" = none)(ha:PA X [a] ta)(hs:aas [a] X.env=[(false,eval a X.env)]:=by rfl):PI X tg (.Call (.Name "range" p) [a] [] pos) (C1 ta):=by
 intro dv s Z H R I h;refine Call_ (kA I hg hm boot_range (abD (aL (ha pos dv s Z H _ I h) λus s1 zq=>bF zq λvs H1 I1 r1 q1=>?_) hs rfl));obtain⟨j,e,q1,q2,q⟩:=q1;subst e;cases r1 with
 | cons r rr =>
   cases rr
   obtain⟨t,rfl⟩:=r;exact call_range_1 (GH I1 (by omega) (by omega) q1 q2 (by simpa using q))
def rK (J:It)(g:TG)(tb:TS)(D:Ends)(Z : St)(H1:Hp):Prop:=∃ W:Nat->Nat->St->Hp->Prop,(∃ m,W 0 m Z H1)/\∀ i m Z H,W i m Z H ->
 (J.stop i H/\D.nx Z H)∨(J.go i H/\∃ N:St->Hp->Prop,(∀ Z' H',N Z' H'->∃ m',m'<m/\W (i+1) m' Z' H')/\∀ x H',J.qX i H x H'->g x Z H' λZ2 H2=>tb { D with nx:=N,ct:=N,bk:=D.nx } Z2 H2)
@[reducible] def QK (wi:TI) (g:TG) (tb:TS):TS:=λD Z H=>wi Z H λJ H1=>rK J g tb D Z H1
def ik (fp:List Addr)(h:Heap):List (Addr×Obj):=fp.filterMap λb=>(h.get? b).map λo=>(b,o)
theorem iR {fp:List Addr}{b:Addr}{o:Obj}(hb:b∈fp)(e:h.get? b=some o):(b,o)∈ik fp h:=List.mem_filterMap.mpr ⟨b,hb,by rw[e];rfl⟩
theorem wQ {fp:List Addr}{p:Addr×Obj}(hp:p∈ik fp h):p.1∈fp/\h.get? p.1=some p.2:=by
 obtain⟨b,hb,e⟩:=List.mem_filterMap.mp hp;cases q:h.get? b with
 | none=>rw[q] at e;cases e
 | some o =>
   rw[q] at e;have e':(b,o)=p:=aap e;subst e';exact⟨hb,q⟩
theorem Inv.pinned {fp:List Addr}(I:Inv X dv Z H s)(hf:∀ b∈fp,oN X dv H b)(ho:∀ b∈fp,∃ o,s.heap.get? b=some o/\∀ v,o.data≠.cell v):Inv X (dv++ik fp s.heap) Z H s :=
 I.pS λp hp=>(List.mem_append.mp hp).elim (λz=>I.pin p (aaz _ z)) λz=>by
   obtain⟨hb,e⟩:=wQ z;obtain⟨f0,f1,f2,_⟩:=hf p.1 hb;obtain⟨o,e',d⟩:=ho p.1 hb;rw[e] at e';cases e';exact⟨e,f0,f1,f2,d⟩
theorem Inv.md {pl:List (Addr×Obj)}(I:Inv X (dv++pl) Z H s):Inv X dv Z H s:=I.pS λp hp=>I.pin p (aaz _ (aa5 _ hp))
variable {tb:TS}
theorem uG {iter:Expr}{body:List Stmt}{wi:TI}{g:TG}{pos:Pos}(hp:PassesOwn (model X.prog X.w) X.A X.env X.xe)(hc:X.calm=true)(hi:PI X tg iter wi)(hg:PG X tg g)(hb:iq X body tb)
   (hs:∀ x,foldedSetIterable iter X.env x=pure x:=by intro _;rfl):PS X (.For tg iter body [] pos) (QK wi g tb):=by
 intro dv s Z H D I h;refine wpAny_For (aL (hi dv s Z H _ I h) λv s1 h1=>aL h1 λitv s2 h2=>?_) hs;obtain⟨it,fp,tn,J,H2,e,I2,T,Ve,f2,W,⟨m0,w0⟩,TJ⟩:=h2;subst e
 -- what stays true of the iterator's objects through the WV
 have TM:∀ {H':Hp},(∀ b∈fp,H' b=none)->∀ b∈fp,oN X dv H' b:=λhn b hb=>⟨hn b hb,(f2 b hb).2⟩;refine codeAny_forLoop_any (λn s'=>∃ i Z' H',Inv X dv Z' H' s'/\tn i s'.heap/\(∀ b∈fp,H' b=none)/\W i n Z' H') ?_ m0 ⟨0,Z,H2,I2,Ve,λb hb=>(f2 b hb).1,w0⟩;rintro n s3 ⟨i,Z3,H3,I3,st3,fr3,w3⟩;rcases TJ i n Z3 H3 w3 with ⟨stop,qn⟩ | ⟨go,N,hN,step⟩
 . refine abY hp (aL (T.done X rfl rfl rfl hc i dv s3 Z3 H3 X.xe I3 (TM fr3) st3 stop) λr s4 zq=>?_);obtain⟨hr,I4⟩:=zq;subst hr;exact acm ⟨Z3,H3,I4,qn⟩
 . refine abY hp (aL (T.item X rfl rfl rfl hc i dv s3 Z3 H3 X.xe I3 (TM fr3) st3 go) λr s4 zq=>mX zq λu hr h4=>?_);subst hr;refine abY hp (aL h4 λ_ s5 zq=>?_);obtain⟨x,H5,I5,r5,y5,Wd,fr5⟩:=zq;have I5':=I5.pinned (TM fr5) (T.obj _ _ Wd);refine abY hp (aL (hg _ s5 Z3 H5 x u _ I5' r5 (step x H5 y5)) λ_ s6 zq=>?_);obtain⟨Z6,H6,I6,q6⟩:=zq;refine abY hp (aL (hb _ s6 Z6 H6 _ I6 q6) λf s7 q7=>?_);have again:∀ {Z7:St} {H7:Hp},Inv X (dv++ik fp s5.heap) Z7 H7 s7->N Z7 H7->∃ m,m<n/\∃ i Z' H',Inv X dv Z' H' s7/\tn i s7.heap/\(∀ b∈fp,H' b=none)/\W i m Z' H':=λ{Z7 H7} I7 n7=>by
     obtain⟨m',hm,w7⟩:=hN Z7 H7 n7;refine⟨m',hm,i+1,Z7,H7,I7.md,T.keep _ _ _ Wd λb hb o e=>(I7.pin (b,o) (aaz _ (aaz _ (iR hb e)))).1,λb hb=>?_,w7⟩;obtain⟨o,e,d⟩:=T.obj _ _ Wd b hb;exact(I7.pin (b,o) (aaz _ (aaz _ (iR hb e)))).2.1
   cases f with
   | next=>obtain⟨Z7,H7,I7,n7⟩:=q7;exact again I7 n7
   | cont=>obtain⟨Z7,H7,I7,n7⟩:=q7;exact again I7 n7
   | brk=>obtain⟨Z7,H7,I7,q7⟩:=q7;exact⟨Z7,H7,I7.md,q7⟩
   | ret v=>obtain⟨x7,Z7,H7,I7,r7,q7⟩:=q7;exact⟨x7,Z7,H7,I7.md,r7,q7⟩
end
theorem eS {K:W.Frag}{a:Addr}{xs:List V}{g:TG}{tb:TS}{D:Ends}(Pv:Nat->St->Hp->Prop)(h0:Pv 0 Z H)(hl:∀ i Z H,i<=xs.length->Pv i Z H->av K H a xs)
   (hs:∀ i x Z H,xs[i]? = some x->Pv i Z H->g x Z H λZ2 H2=>tb { D with nx:=Pv (i+1),ct:=Pv (i+1),bk:=D.nx } Z2 H2) (hd:∀ Z H,Pv xs.length Z H->D.nx Z H) :
   ∃ W:Nat->Nat->St->Hp->Prop,(∃ m,W 0 m Z H)/\∀ i m Z H,W i m Z H ->
     ((uA K a).stop i H/\D.nx Z H)∨((uA K a).go i H/\∃ N:St->Hp->Prop,(∀ Z' H',N Z' H'->∃ m',m'<m/\W (i+1) m' Z' H')/\∀ x H',(uA K a).qX i H x H'->g x Z H' λZ2 H2=>tb { D with nx:=N,ct:=N,bk:=D.nx } Z2 H2):=by
 refine⟨λi m Z H=>m=xs.length - i/\i<=xs.length/\Pv i Z H,⟨xs.length,by simp,aaW _,h0⟩,?_⟩;rintro i m Z H ⟨rfl,hi,p⟩;have q:=hl i Z H hi p;by_cases RJ:i<xs.length
 . refine .inr ⟨⟨xs, xs[i], q, by simp[RJ]⟩, Pv (i + 1), λZ' H' p' => ⟨xs.length - (i + 1), by omega, rfl, RJ, p'⟩, λx H' y => ?_⟩;obtain⟨e,y⟩:=y;subst e;exact hs i x Z _ (y xs q) p
 . have e : i = xs.length := by omega
   subst e;exact .inl ⟨⟨xs,q,aai _⟩,hd Z H p⟩
theorem fS {lo:Int}{n:Nat}{g:TG}{tb:TS}{D:Ends}(Pv:Nat->St->Hp->Prop)(h0:Pv 0 Z H)
   (hs:∀ i Z H,i<n->Pv i Z H->g (.int (lo+i)) Z H λZ2 H2=>tb { D with nx:=Pv (i+1),ct:=Pv (i+1),bk:=D.nx } Z2 H2) (hd:∀ Z H,Pv n Z H->D.nx Z H) :
   ∃ W:Nat->Nat->St->Hp->Prop,(∃ m,W 0 m Z H)/\∀ i m Z H,W i m Z H ->
     ((ui lo n).stop i H/\D.nx Z H)∨((ui lo n).go i H/\∃ N:St->Hp->Prop,(∀ Z' H',N Z' H'->∃ m',m'<m/\W (i+1) m' Z' H')/\∀ x H',(ui lo n).qX i H x H'->g x Z H' λZ2 H2=>tb { D with nx:=N,ct:=N,bk:=D.nx } Z2 H2):=by
 refine⟨λi m Z H=>m=n - i/\i<=n/\Pv i Z H,⟨n,by simp,aaW _,h0⟩,?_⟩;rintro i m Z H ⟨rfl,hi,p⟩;by_cases RJ:i<n
 . refine .inr ⟨RJ, Pv (i + 1), λZ' H' p' => ⟨n - (i + 1), by omega, rfl, RJ, p'⟩, λx H' y => ?_⟩;obtain⟨e,y⟩:=y;subst e y;exact hs i Z _ RJ p
 . have e : i = n := by omega
   subst e;exact .inl ⟨aai _,hd Z H p⟩
abbrev R2:=V->V->Hp->VK->Prop
def bO (X:Cx)(f:Value->Value->Sem Value)(r:R2):Prop :=
 ∀ (dv:List (Addr×Obj)) (s:Shared) (Z : St) (H:Hp) (x y:V) (v u:Value) (Q:VK),Inv X dv Z H s->RelV x v->RelV y u->r x y H Q ->
   wpAny (model X.prog X.w) X.A (f v u) (EP X dv Z Q) X.xe s
def Ih (X:Cx)(f:Value->Sem Value)(r:V->Hp->VK->Prop):Prop :=
 ∀ (dv:List (Addr×Obj)) (s:Shared) (Z : St) (H:Hp) (x:V) (v:Value) (Q:VK),Inv X dv Z H s->RelV x v->r x H Q ->
   wpAny (model X.prog X.w) X.A (f v) (EP X dv Z Q) X.xe s
def bZ (X:Cx)(f:Value)(r:List V->Hp->VK->Prop):Prop :=
 ∀ (dv:List (Addr×Obj)) (s:Shared) (Z : St) (H:Hp) (xs:List V) (us:List Value) (Q:VK),Inv X dv Z H s->aE xs us->r xs H Q ->
   wpAny (model X.prog X.w) X.A (call f us) (EP X dv Z Q) X.xe s
def Qa (X:Cx)(r:V->Hp->(Bool->Hp->Prop)->Prop):Prop :=
 ∀ (dv:List (Addr×Obj)) (s:Shared) (Z : St) (H:Hp) (x:V) (v:Value) (Q:Bool->Hp->Prop),Inv X dv Z H s->RelV x v->r x H Q ->
   wpAny (model X.prog X.w) X.A (truthy v) (TP X dv Z Q) X.xe s
@[reducible] def Bc (r:R2) (ta tb:TE):TE:=λZ H Q=>ta Z H λx H1=>tb Z H1 λy H2=>r x y H2 Q
@[reducible] def Ri (r:V->Hp->VK->Prop) (ta:TE):TE:=λZ H Q=>ta Z H λx H1=>r x H1 Q
def rI (C:Int->Int->Prop)(g:Int->Int->V):R2:=λx y H Q=>∃ i j,x=.int i/\y=.int j/\C i j/\Q (g i j) H
@[reducible] def mM (g:Int->Int->V):R2:=λx y H Q=>E2 x λi=>E2 y λj=>Nz (g i j) λv=>Q v H
theorem EY {g:Int->Int->V}{x y:V}{Q:VK}(h:mM g x y H Q):∃ i j,x=.int i/\y=.int j/\Q (g i j) H:=by
 obtain⟨i,e,h⟩:=ug h;obtain⟨j,e2,h⟩:=ug h;exact⟨i,j,e,e2,ED h⟩
@[reducible] def rU (g:Int->V):V->Hp->VK->Prop:=λx H Q=>E2 x λi=>Nz (g i) λv=>Q v H
section
variable {X:Cx} {a b c:Expr} {ta tb tc:TE} {pos:Pos}
theorem G1 (ha:PE X a ta)(hb:PE X b tb){R:V->V->Hp->Prop}(I:Inv X dv Z H s)
   (h:ta Z H λx H1=>tb Z H1 λy H2=>R x y H2) {Q:Value->Shared->Prop} {f:Value->Value->Sem Value}
   (hf:∀ v u s2 x y H2,Inv X dv Z H2 s2->RelV x v->RelV y u->R x y H2->wpAny (model X.prog X.w) X.A (f v u) Q X.xe s2) :
   wpAny (model X.prog X.w) X.A (eval a X.env) (λv s₁=>wpAny (model X.prog X.w) X.A (eval b X.env) (λu s₂=>wpAny (model X.prog X.w) X.A (f v u) Q X.xe s₂) X.xe s₁) X.xe s:=by
 refine aL (ha dv s Z H _ I h) λv s1 zq=>bF zq λx H1 I1 r1 q1=>?_;refine aL (hb dv s1 Z H1 _ I1 q1) λu s2 zq=>bF zq λy H2 I2 r2 q2=>?_;exact hf v u s2 x y H2 I2 r1 r2 q2
variable {r:R2}
theorem dD {op:Operator}(ho:bO X (abV op) r)(ha:PE X a ta)(hb:PE X b tb):PE X (.BinOp a op b pos) (Bc r ta tb):=by
 intro dv s Z H Q I h;exact wpAny_BinOp (G1 ha hb I h λv u s2 x y H2 I2 rx ry q=>ho dv s2 Z H2 x y v u Q I2 rx ry q)
theorem ON {op:UnaryOp}{r:V->Hp->VK->Prop}(ho:Ih X (unaryOp op) r)(ha:PE X a ta):PE X (.UnaryOp op a pos) (Ri r ta):=by
 intro dv s Z H Q I h;exact UnaryOp_ (aL (ha dv s Z H _ I h) λv s1 zq=>bF zq λx H1 I1 r1 q1=>ho dv s1 Z H1 x v Q I1 r1 q1)
theorem F6 {f:Value->Value->Sem Value}{C:Int->Int->Prop}{g:Int->Int->Int}
   (rule:∀ (i j:Int) (t u:Tok) (s:Shared) (Q:Value->Shared->Prop) (E:Value->Shared->Prop),C i j->Q (.int (g i j) s.toks) { s with toks:=s.toks+1 }->wpAny (model X.prog X.w) X.A (f (.int i t) (.int j u)) Q E s) :
   bO X f (rI C λi j=>.int (g i j)):=by
 intro dv s Z H x y v u Q I rx ry h;obtain⟨i,j,rfl,rfl,hc,q⟩:=h;obtain⟨t,rfl⟩:=rx;obtain⟨t',rfl⟩:=ry;exact rule i j t t' s _ _ hc ⟨.int (g i j),H,I.tok _,⟨_,rfl⟩,q⟩
theorem Cj {f:Value->Value->Sem Value}{g:Int->Int->Int}
   (rule:∀ (i j:Int) (t u:Tok) (s:Shared) (Q:Value->Shared->Prop) (E:Value->Shared->Prop),Q (.int (g i j) s.toks) { s with toks:=s.toks+1 }->wpAny (model X.prog X.w) X.A (f (.int i t) (.int j u)) Q E s) :
   bO X f (mM λi j=>.int (g i j)):=by
 intro dv s Z H x y v u Q I rx ry h;obtain⟨i,j,rfl,rfl,q⟩:=EY h;obtain⟨t,rfl⟩:=rx;obtain⟨t',rfl⟩:=ry;exact rule i j t t' s _ _ ⟨.int (g i j),H,I.tok _,⟨_,rfl⟩,q⟩
theorem B_ {f:Value->Value->Sem Value}{g:Int->Int->Bool}
   (rule:∀ (i j:Int) (t u:Tok) (s:Shared) (Q:Value->Shared->Prop) (E:Value->Shared->Prop),Q (.bool (g i j)) s->wpAny (model X.prog X.w) X.A (f (.int i t) (.int j u)) Q E s) :
   bO X f (mM λi j=>.bl (g i j)):=by
 intro dv s Z H x y v u Q I rx ry h;obtain⟨i,j,rfl,rfl,q⟩:=EY h;obtain⟨t,rfl⟩:=rx;obtain⟨t',rfl⟩:=ry;exact rule i j t t' s _ _ ⟨.bl (g i j),H,I,rfl,q⟩
def Qs (i j:Int):Prop:=0<j/\j<1073741824
def Qc (i j:Int):Prop:=0<=j/\j<=1000000/\i.natAbs<2 ^ 64
theorem CS (k:Nat):(0:Int)<=2 ^ k:=by
 rw[two_pow_cast];exact aaO _
theorem Ln:bO X (abV .Add) (mM λi j=>.int (i+j)):=Cj λ_ _ _ _ _ _ _ q=>add_int q
theorem Fw:bO X (abV .Sub) (mM λi j=>.int (i - j)):=Cj λ_ _ _ _ _ _ _ q=>sub_int q
theorem AX:bO X (abV .FloorDiv) (rI Qs λi j=>.int (i/j)):=F6 λi j _ _ _ _ _ hc q=>by
 have h1:(0:Int)<j:=hc.1;have h2:j<1073741824:=hc.2;exact floordiv_int (by omega) (by rw[Int.fdiv_eq_ediv_of_nonneg i (by omega)];exact q) (.inl (PyProof.noPylong_small (by omega)))
theorem ya:bO X (abV .Mod) (rI (λ_ j=>0<j) λi j=>.int (i%j)):=F6 λi j _ _ _ _ _ hc q=>by
 have h1:(0:Int)<j:=hc;exact mod_int' (by omega) (by rw[Int.fmod_eq_emod_of_nonneg i (by omega)];exact q)
theorem DV:bO X (abV .Pow) (rI Qc λi j=>.int (i ^ j.toNat)):=F6 λ_ _ _ _ _ _ _ hc q=>pow_int_small hc.1 hc.2.1 hc.2.2 q
theorem E9:bO X (abV .RShift) (rI (λ_ j=>0<=j) λi j=>.int (i/2 ^ j.toNat)):=F6 λi j _ _ _ _ _ hc q =>
 rshift_int hc (by rw[Int.fdiv_eq_ediv_of_nonneg i (CS _)];exact q)
theorem Ed:bO X (abV .BitAnd) (mM λi j=>.int (aaP i j)):=Cj λ_ _ _ _ _ _ _ q=>and_int q
theorem N_:bO X (abV .BitOr) (mM λi j=>.int (Builtin.bitOr i j)):=Cj λ_ _ _ _ _ _ _ q=>or_int q
theorem Pm {f:Value->Sem Value}{g:Int->Int}
   (rule:∀ (i:Int) (t:Tok) (s:Shared) (Q:Value->Shared->Prop) (E:Value->Shared->Prop),Q (.int (g i) s.toks) { s with toks:=s.toks+1 }->wpAny (model X.prog X.w) X.A (f (.int i t)) Q E s) :
   Ih X f (rU λi=>.int (g i)):=by
 intro dv s Z H x v Q I rx h;obtain⟨i,rfl,q⟩:=ug h
 replace q:=ED q
 obtain⟨t,rfl⟩:=rx;exact rule i t s _ _ ⟨.int (g i),H,I.tok _,⟨_,rfl⟩,q⟩
theorem ML:Ih X (unaryOp .USub) (rU λi=>.int (-i)):=Pm λ_ _ _ _ _ q=>neg_int q
theorem LV:Ih X (unaryOp .Invert) (rU λi=>.int (aaF i)):=Pm λ_ _ _ _ _ q=>invert_int q
end
def BS:V->V->Bool
 | .ax,.ax=>true | .ax,.int _=>true | .int _,.ax=>true | .ax,.bl _=>true | .bl _,.ax=>true | .ax,.str _=>true | .str _,.ax=>true
 | .int _,.int _=>true | .bl _,.bl _=>true | .str _,.str _=>true | .byt _,.byt _=>true
 | .int _,.str _=>true | .str _,.int _=>true | .bl _,.str _=>true | .str _,.bl _=>true
 | _,_=>false
def Pr:R2:=λx y H Q=>BS x y=true/\Q (.bl (decide (x=y))) H
def Pf:R2:=λx y H Q=>BS x y=true/\Q (.bl (!decide (x=y))) H
theorem A6 {i j:Int}:decide (V.int i=V.int j)=(i == j):=by
 rw[ada]
 simp
theorem D_ {i j:Bool}:decide (V.bl i=V.bl j)=(i == j):=by
 rw[ada]
 simp
theorem Bb {i j:Str}:decide (V.str i=V.str j)=(i == j):=by
 rw[ada]
 simp
theorem BK {i j:Array UInt8}:decide (V.byt i=V.byt j)=(i.toList == j.toList):=by
 rw[ada];cases i
 cases j
 simp
section
variable {X:Cx} {a b c:Expr} {ta tb tc:TE} {pos:Pos}
theorem a_ {Q:VK}{k k':Bool}(I:Inv X dv Z H s)(q:Q (.bl k) H)(e:k=k'):EP X dv Z Q (.bool k') s:=by
 subst e;exact⟨.bl k,H,I,rfl,q⟩
theorem Oj:bO X (aa2 .Eq) Pr:=by
 intro dv s Z H x y v u Q I rx ry h;obtain⟨hs,q⟩:=h;cases x with
 | ax =>
   cases rx
   cases y with
   | ax=>cases ry;exact PySem.EqNone.eq_none_none (a_ I q (by simp))
   | bl j=>cases ry;exact PySem.EqNone.eq_none_bool (a_ I q (by simp))
   | int j=>obtain⟨t',rfl⟩:=ry;exact PySem.EqNone.eq_none_int (a_ I q (by simp))
   | str j=>obtain⟨t',rfl⟩:=ry;exact PySem.EqNone.eq_none_str (a_ I q (by simp))
   | _=>exact absurd (show false=true from hs) aaw
 | bl i =>
   cases rx
   cases y with
   | ax=>cases ry;exact PySem.EqNone.eq_bool_none (a_ I q (by simp))
   | bl j=>cases ry;exact eq_bool (a_ I q D_)
   | str j=>obtain⟨t',rfl⟩:=ry;exact PySem.EqMixed.eq_bool_str (a_ I q (by simp))
   | _=>exact absurd (show false=true from hs) aaw
 | int i =>
   obtain⟨t,rfl⟩:=rx;cases y with
   | ax=>cases ry;exact PySem.EqNone.eq_int_none (a_ I q (by simp))
   | int j=>obtain⟨t',rfl⟩:=ry;exact eq_int (a_ I q A6)
   | str j=>obtain⟨t',rfl⟩:=ry;exact PySem.EqMixed.eq_int_str (a_ I q (by simp))
   | _=>exact absurd (show false=true from hs) aaw
 | str i =>
   obtain⟨t,rfl⟩:=rx;cases y with
   | ax=>cases ry;exact PySem.EqNone.eq_str_none (a_ I q (by simp))
   | bl j=>cases ry;exact PySem.EqMixed.eq_str_bool (a_ I q (by simp))
   | int j=>obtain⟨t',rfl⟩:=ry;exact PySem.EqMixed.eq_str_int (a_ I q (by simp))
   | str j=>obtain⟨t',rfl⟩:=ry;exact eq_str (a_ I q Bb)
   | _=>exact absurd (show false=true from hs) aaw
 | byt i =>
   obtain⟨t,rfl⟩:=rx;cases y with
   | byt j=>obtain⟨t',rfl⟩:=ry;exact W.eq_bytes (a_ I q BK)
   | _=>exact absurd (show false=true from hs) aaw
 | _=>cases y <;> exact absurd (show false=true from hs) aaw
theorem OS:bO X (aa2 .NotEq) Pf:=by
 intro dv s Z H x y v u Q I rx ry h;obtain⟨hs,q⟩:=h;cases x with
 | ax =>
   cases rx
   cases y with
   | ax=>cases ry;exact PySem.EqNone.ne_none_none (a_ I q (by simp))
   | bl j=>cases ry;exact PySem.EqNone.ne_none_bool (a_ I q (by simp))
   | int j=>obtain⟨t',rfl⟩:=ry;exact PySem.EqNone.ne_none_int (a_ I q (by simp))
   | str j=>obtain⟨t',rfl⟩:=ry;exact PySem.EqNone.ne_none_str (a_ I q (by simp))
   | _=>exact absurd (show false=true from hs) aaw
 | bl i =>
   cases rx
   cases y with
   | ax=>cases ry;exact PySem.EqNone.ne_bool_none (a_ I q (by simp))
   | bl j=>cases ry;exact ne_bool (a_ I q (congrArg not D_))
   | str j=>obtain⟨t',rfl⟩:=ry;exact PySem.EqMixed.ne_bool_str (a_ I q (by simp))
   | _=>exact absurd (show false=true from hs) aaw
 | int i =>
   obtain⟨t,rfl⟩:=rx;cases y with
   | ax=>cases ry;exact PySem.EqNone.ne_int_none (a_ I q (by simp))
   | int j=>obtain⟨t',rfl⟩:=ry;exact ne_int (a_ I q (congrArg not A6))
   | str j=>obtain⟨t',rfl⟩:=ry;exact PySem.EqMixed.ne_int_str (a_ I q (by simp))
   | _=>exact absurd (show false=true from hs) aaw
 | str i =>
   obtain⟨t,rfl⟩:=rx;cases y with
   | ax=>cases ry;exact PySem.EqNone.ne_str_none (a_ I q (by simp))
   | bl j=>cases ry;exact PySem.EqMixed.ne_str_bool (a_ I q (by simp))
   | int j=>obtain⟨t',rfl⟩:=ry;exact PySem.EqMixed.ne_str_int (a_ I q (by simp))
   | str j=>obtain⟨t',rfl⟩:=ry;exact ne_str (a_ I q (congrArg not Bb))
   | _=>exact absurd (show false=true from hs) aaw
 | byt i =>
   obtain⟨t,rfl⟩:=rx;cases y with
   | byt j=>obtain⟨t',rfl⟩:=ry;exact W.ne_bytes (a_ I q (congrArg not BK))
   | _=>exact absurd (show false=true from hs) aaw
 | _=>cases y <;> exact absurd (show false=true from hs) aaw
theorem BV:bO X (aa2 .Lt) (mM λi j=>.bl (decide (i<j))):=B_ λ_ _ _ _ _ _ _ q=>lt_int q
theorem p8:bO X (aa2 .LtE) (mM λi j=>.bl (decide (i<=j))):=B_ λ_ _ _ _ _ _ _ q=>le_int q
theorem CC:bO X (aa2 .Gt) (mM λi j=>.bl (decide (j<i))):=B_ λ_ _ _ _ _ _ _ q=>gt_int q
theorem CD:bO X (aa2 .GtE) (mM λi j=>.bl (decide (j<=i))):=B_ λ_ _ _ _ _ _ _ q=>ge_int q
theorem MJ:bO X (aa2 .Is) (λx y H Q=>y=.ax/\Q (.bl (decide (x=.ax))) H):=by
 intro dv s Z H x y v u Q I rx ry h;obtain⟨rfl,q⟩:=h;cases ry
 refine is_none_gen (a_ I q ?_)
 cases x <;> first
   | (cases rx;rfl)
   | (obtain⟨t,rfl⟩:=rx;rfl)
theorem JP:bO X (aa2 .IsNot) (λx y H Q=>y=.ax/\Q (.bl (!decide (x=.ax))) H):=by
 intro dv s Z H x y v u Q I rx ry h;obtain⟨rfl,q⟩:=h;cases ry
 refine isnot_none_gen (a_ I q ?_)
 cases x <;> first
   | (cases rx;rfl)
   | (obtain⟨t,rfl⟩:=rx;rfl)
variable {r:R2} {f:Value->Value->Sem Value}
theorem bO.or {r':R2}(h:bO X f r)(h':bO X f r'):bO X f (λx y H Q=>r x y H Q∨r' x y H Q):=by
 intro dv s Z H x y v u Q I rx ry q;rcases q with q | q
 . exact h dv s Z H x y v u Q I rx ry q
 . exact h' dv s Z H x y v u Q I rx ry q
variable {op:CmpOp}
theorem cb (b:Expr)(h:op≠.In:=by decide)(h2:op≠.NotIn:=by decide):adg op b=false:=by
 have e1:(op == CmpOp.In)=false:=by cases op <;> first | rfl | exact absurd rfl h
 have e2:(op == CmpOp.NotIn)=false:=by cases op <;> first | rfl | exact absurd rfl h2
 cases b <;> simp[adg,e1,e2]
theorem gZ (ho:bO X (aa2 op) r)(ha:PE X a ta)(hb:PE X b tb)(hm:adg op b=false):PE X (.Compare a [op] [b] pos) (Bc r ta tb):=by
 intro dv s Z H Q I h;exact wpAny_Compare1 (G1 ha hb I h λv u s2 x y H2 I2 rx ry q=>ho dv s2 Z H2 x y v u Q I2 rx ry q) hm
@[reducible] def CW (t:TE):TT:=λZ H Q=>t Z H λx H'=>EM x λk=>Q k H'
theorem cC (ho:bO X (aa2 op) r)(ha:PE X a ta)(hb:PE X b tb)(hm:adg op b=false):PT X (.Compare a [op] [b] pos) (CW (Bc r ta tb)):=by
 intro dv s Z H Q I h;refine wpAny_isTrue_Compare1 (aL (ha dv s Z H _ I h) λv s1 zq=>bF zq λx H1 I1 r1 q1=>aL (hb dv s1 Z H1 _ I1 q1) λu s2 zq=>bF zq λy H2 I2 r2 q2 =>
   aL (ho dv s2 Z H2 x y v u _ I2 r1 r2 q2) λc s3 zq=>bF zq λz H3 I3 r3 q3=>?_) hm
 obtain⟨k,e,q3⟩:=pj q3;subst e;cases r3
 exact aa9 ⟨H3,I3,q3⟩
def zG (r r':R2)(ta tb tc:TE):TE:=λZ H Q=>ta Z H λx H1=>tb Z H1 λy H2=>r x y H2 λz H3=>∃ k,z=.bl k /\
 (if k=true then tc Z H3 λw' H4=>r' y w' H4 Q else Q (.bl false) H3)
theorem Ae {Wl:CmpOp}{r':R2}(ho:bO X (aa2 op) r)(Uz:bO X (aa2 Wl) r')(ha:PE X a ta)(hb:PE X b tb)(hc:PE X c tc)
   (hm:lastMarks [op,Wl] [b,c]=false:=by with_unfolding_all rfl):PE X (.Compare a [op,Wl] [b,c] pos) (zG r r' ta tb tc):=by
 intro dv s Z H Q I h;refine Compare_chain (aL (ha dv s Z H _ I h) λv s1 zq=>bF zq λx H1 I1 r1 q1=>chain_link (aL (hb dv s1 Z H1 _ I1 q1) λu s2 zq=>bF zq λy H2 I2 r2 q2 =>
   aL (ho dv s2 Z H2 x y v u _ I2 r1 r2 q2) λd s3 ⟨z,H3,I3,r3,k,e,q3⟩=>?_)) hm
 subst e;cases r3
 refine aa9 ?_;cases k with
 | false=>exact ite_ff ⟨.bl false,H3,I3,rfl,q3⟩
 | true=>exact ite_tt (chain_last (aL (hc dv s3 Z H3 _ I3 q3) λw' s4 ⟨z',H4,I4,r4,q4⟩=>Uz dv s4 Z H4 y z' u w' Q I4 r2 r4 q4))
theorem G6 {Wl:CmpOp}{r':R2}(ho:bO X (aa2 op) r)(Uz:bO X (aa2 Wl) r')(ha:PE X a ta)(hb:PE X b tb)(hc:PE X c tc)
   (hm:lastMarks [op,Wl] [b,c]=false:=by with_unfolding_all rfl):PT X (.Compare a [op,Wl] [b,c] pos) (CW (zG r r' ta tb tc)):=by
 intro dv s Z H Q I h;refine isTrue_chain (aL (ha dv s Z H _ I h) λv s1 zq=>bF zq λx H1 I1 r1 q1=>test_link (aL (hb dv s1 Z H1 _ I1 q1) λu s2 zq=>bF zq λy H2 I2 r2 q2 =>
   aL (ho dv s2 Z H2 x y v u _ I2 r1 r2 q2) λd s3 ⟨z,H3,I3,r3,k,e,q3⟩=>?_)) hm
 subst e;cases r3
 refine aa9 ?_;cases k with
 | false =>
   exact ite_ff ⟨H3,I3,q3⟩
 | true =>
   refine ite_tt (test_last (aL (hc dv s3 Z H3 _ I3 q3) λw' s4 zq=>bF zq λz' H4 I4 r4 q4=>aL (Uz dv s4 Z H4 y z' u w' _ I4 r2 r4 q4) λd' s5 zq=>bF zq λz2 H5 I5 r5 q5=>?_));obtain⟨k2,e2,q5⟩:=pj q5;subst e2;cases r5
   exact aa9 ⟨H5,I5,q5⟩
def Gs (K:W.Frag)(x:V)(H:Hp)(k:Bool):Prop :=
 match x with
 | .ax=>k=false
 | .bl b=>k=b
 | .int i=>k=(i != 0)
 | .str y=>y.length<=aar/\k=((y.length:Int) != 0)
 | .byt y=>y.size<=aar/\k=((y.size:Int) != 0)
 | .ref p=>(∃ xs,av K H p xs/\k = !xs.isEmpty)∨(∃ xs,az K H p xs/\k = !xs.isEmpty)∨∃ kvs,H p=some (.dK kvs)/\k = !kvs.isEmpty
 | _=>False
theorem Dn {κ : Type}{kvs:List (κ×V)}{vs:List (κ×Value)}(r:KV kvs vs):(!vs.isEmpty) = !kvs.isEmpty:=by
 cases r <;> rfl
theorem uR {xs:List V}{its:List Value}(r:aE xs its):(!its.toArray.isEmpty) = !xs.isEmpty:=by
 cases r <;> simp
theorem lJ:(aar:Nat)<2 ^ 63:=by rw[aan];decide
theorem Ms:Qa X (λx H Q=>∃ k,Gs X.K x H k/\Q k H):=by
 intro dv s Z H x v Q I rx h;obtain⟨k,e,q⟩:=h;have hl:=lJ;have hs:aar=16777216:=aan;cases x with
 | ax =>
   cases rx
   have e':k=false:=e;subst e';exact truthy_none ⟨H,I,q⟩
 | bl b =>
   cases rx
   have e':k=b:=e;subst e';exact aa9 ⟨H,I,q⟩
 | int i =>
   obtain⟨t,rfl⟩:=rx;have e':k=(i != 0):=e;subst e';exact PySem.P.truthy_int ⟨H,I,q⟩
 | str y =>
   obtain⟨t,rfl⟩:=rx;obtain⟨hy,e'⟩:y.length<=aar/\k=((y.length:Int) != 0):=e;subst e';exact PySem.P.truthy_str (by omega) ⟨H,I.tok _,q⟩
 | byt y =>
   obtain⟨t,rfl⟩:=rx;obtain⟨hy,e'⟩:y.size<=aar/\k=((y.size:Int) != 0):=e;subst e';exact W.truthy_bytes (by omega) ⟨H,I.tok _,q⟩
 | ref p =>
   cases rx
   have e':(∃ xs,av X.K H p xs/\k = !xs.isEmpty)∨(∃ xs,az X.K H p xs/\k = !xs.isEmpty)∨∃ kvs,H p=some (.dK kvs)/\k = !kvs.isEmpty:=e;rcases e' with ⟨xs,hx,e'⟩ | ⟨xs,hx,e'⟩ | ⟨kvs,hx,e'⟩
   . subst e';obtain⟨its,r,pl,hz⟩:=I.list hx;have Bn:=r.length;exact wpAny_truthy_list pl.isList (by simp only[aau];omega) ⟨H,I.tok _,by rw[uR r];exact q⟩
   . subst e';obtain⟨its,r,pl,hz⟩:=I.tuple hx;have Bn:=r.length;exact truthy_tuple pl (by simp only[aau];omega) ⟨H,I.tok _,by rw[uR r];exact q⟩
   . subst e';obtain⟨hz,hS,vs,r,m⟩:kvs.length<=aar/\(p == abE)=false/\∃ vs,KV kvs vs/\s.heap.DictOf (bc X.prog X.w) p vs:=I.au p _ hx;have Bn:kvs.length=vs.length:=acX r;exact wpAny_truthy_dict hS m (by omega) ⟨H,I.tok _,by rw[Dn r];exact q⟩
 | _=>exact(show False from e).elim
theorem Hm (ha : PE X a ta)(he : ∀ R_, isTrue a X.env R_ = (do let v <- R_; standAt a.pos; holding [v] (truthy v))) :
   PT X a (λZ H Q=>ta Z H λx H'=>∃ k,Gs X.K x H' k/\Q k H'):=by
 intro dv s Z H Q I h;exact isTrue_plain (aL (ha dv s Z H _ I h) λv s1 zq=>bF zq λx H1 I1 r1 q1=>Ms dv s1 Z H1 x v Q I1 r1 q1) (he _)
theorem Dt:bO X (abV .Add) (λx y H Q=>∃ i j,x=.str i/\y=.str j/\i.length+j.length<=aar/\Q (.str (i++j)) H):=by
 intro dv s Z H x y v u Q I rx ry h;obtain⟨i,j,rfl,rfl,hz,q⟩:=h;obtain⟨t,rfl⟩:=rx;obtain⟨t',rfl⟩:=ry;exact add_str (λt' tk=>⟨.str (i++j),H,I.tok _,⟨_,rfl⟩,q⟩) hz
theorem vals1 {x:V}(r:aE [x] us):∃ u,us=[u]/\RelV x u:=by
 cases r with
 | cons r1 r2=>cases r2;exact⟨_,rfl,r1⟩
theorem vals2 {x y:V}(r:aE [x,y] us):∃ u w',us=[u,w']/\RelV x u/\RelV y w':=by
 cases r with
 | cons r1 r2 =>
   cases r2 with
   | cons r3 r4=>cases r4;exact⟨_,_,rfl,r1,r3⟩
def L9 (K:W.Frag)(x:V)(H:Hp)(n:Nat):Prop :=
 match x with
 | .str y=>y.length<=aar/\n=y.length
 | .byt y=>y.size<=aar/\n=y.size
 | .ref p=>(∃ xs,av K H p xs/\n=xs.length)∨∃ xs,az K H p xs/\n=xs.length
 | _=>False
theorem HK:bZ X (.builtin "len") (λxs H Q=>∃ x n,xs=[x]/\L9 X.K x H n/\Q (.int n) H):=by
 intro dv s Z H xs us Q I r h;obtain⟨x,n,rfl,e,q⟩:=h;obtain⟨u,rfl,rx⟩:=vals1 r;have hl:=lJ;have hs:aar=16777216:=aan;cases x with
 | str y =>
   obtain⟨t,rfl⟩:=rx;obtain⟨hy,e'⟩:y.length<=aar/\n=y.length:=e;subst e';exact len_str (by omega) ⟨.int _,H,I.tok _,⟨_,rfl⟩,q⟩
 | byt y =>
   obtain⟨t,rfl⟩:=rx;obtain⟨hy,e'⟩:y.size<=aar/\n=y.size:=e;subst e';exact W.len_bytes (by omega) ⟨.int _,H,I.tok _,⟨_,rfl⟩,q⟩
 | ref p =>
   cases rx
   have e':(∃ xs,av X.K H p xs/\n=xs.length)∨∃ xs,az X.K H p xs/\n=xs.length:=e;rcases e' with ⟨xs,hx,e'⟩ | ⟨xs,hx,e'⟩
   . subst e';obtain⟨its,r',pl,hz⟩:=I.list hx;have Bn:=r'.length;exact Calls.call_len_list pl.isList (by simp only[aau];omega) ⟨.int xs.length,H,I.tok _,⟨_,by simp only[aau];rw[Bn]⟩,q⟩
   . subst e';obtain⟨its,r',pl,hz⟩:=I.tuple hx;have Bn:=r'.length;exact len_tuple pl (by simp only[aau];omega) ⟨.int xs.length,H,I.tok _,⟨_,by simp only[aau];rw[Bn]⟩,q⟩
 | _=>exact(show False from e).elim
end
structure q_ (h:Heap)(x dx C:Addr)(mA:Str->Option Value):Prop where
 obj:h.get? x=some (ac2 C dx)
 ns:h.Ns1 dx mA
 ne:dx≠x
theorem EX {dx:Addr}{mA:Str->Option Value}(n:h.Ns1 dx mA):∃ od,h.get? dx=some od/\∀ name,W.lookIn name od=some (mA name):=by
 obtain⟨o,es,ep,ho,hd,hk,_,hm⟩:=n;refine⟨o,ho,λname=>?_⟩;have e:=hm name;unfold nsFind findBy at e;rw[<- Array.find?_toList] at e;unfold W.lookIn;rw[hd];dsimp only;split
 . rename_i y q;rw[q] at e;exact congrArg some e
 . rename_i q;rw[q] at e;have a:es.toList.any (·.refKey)=false:=by
     rw[List.any_eq_false];intro y hy;obtain⟨z,t,hkey⟩:=hk y (Array.mem_toList_iff.mp hy);simp[DictEntry.refKey,hkey]
   have a' : ¬ es.toList.any (·.refKey)=true:=by rw[a];exact aaw
   rw[if_neg a'];exact congrArg some e
variable {C:Addr}
theorem q_.look {x dx:Addr}{mA:Str->Option Value}(I:q_ h x dx C mA):∃ od,W.InstAt h x (ac2 C dx) C (some od)/\∀ name,W.lookIn name od=some (mA name) :=
 let ⟨od,ho,hl⟩:=EX I.ns
 ⟨od,⟨I.obj,rfl,rfl,ho⟩,hl⟩
section
variable {prog:Program} {w:World} {A:Around} {E:Value->Shared->Prop} {s:Shared} {K:W.Frag} {x dx C f:Addr} {mA:Str->Option Value} {name:Str} {v:Value}
theorem get_map {expr:Bool}{Q:Value->Shared->Prop}(X:K.In s.heap)(I:q_ s.heap x dx C mA)(hg:W.plainGet K C name=true)(hh:W.hasDictIn K C=true)
   (ha:abA K (.ref C) name=some none) (hv:mA name=some v) (hv':W.handedIn v=true) (h:Q v { s with toks:=s.toks+1 }) :
   wpAny (model prog w) A (getAttr (.ref x) name expr) Q E s:=by
 obtain⟨od,J,hl⟩:=I.look;exact W.get_value X J (W.plainGet_of hg).1 (W.findObj_own hh ha rfl (by rw[hl,hv])) hv' h
theorem Gf {pl:Sem Bool}{Q:Value×List Value->Shared->Prop}(X:K.In s.heap)(I:q_ s.heap x dx C mA)(hg:W.plainGet K C name=true)
   (hf:abA K (.ref C) name=some (some (.ref f))) (ht:W.isFn K (.ref f)=true) (hv:mA name=none) (h:Q (.ref f,[.ref x]) s) :
   wpAny (model prog w) A (adu (.ref x) name pl) Q E s:=by
 obtain⟨od,J,hl⟩:=I.look;exact W.method_fn X J (W.plainGet_of hg).1 (W.plainGet_of hg).2 hf (beq_iff_eq.mp ht) (by show(W.lookIn name od).map (·.isSome)=some false;rw[hl,hv];rfl) h
theorem pE {ns:List Str}{Q:Unit->Shared->Prop}(X:K.In s.heap)(I:q_ s.heap x dx C mA)
   (hs:abA K (.ref C) "__setattr__" = some (some (.builtin "object.__setattr__"))) (hp:W.plainOver K C=true) (ht:W.takerIn K C name=some none) (hh:W.hasDictIn K C=true)
   (hw:PySem.Within mA ns) (hsz:ns.length<=aar)
   (h:∀ h',q_ h' x dx C (λy=>if y=name then some v else mA y)->ab6 dx s.heap h'->Q () { s with heap:=h',toks:=s.toks+2 }) :
   wpAny (model prog w) A (setAttr (.ref x) name v) Q E s:=by
 obtain⟨od,J,hl⟩:=I.look;refine W.set_plain X J hs (W.osa_open (s:={ s with toks:=s.toks+1 }) (r:=none) X J hp ht λb=>?_);obtain⟨cd,hc,VW⟩:=W.any_some hh;have hx:s.heap.get? x=some ⟨.ref C,some dx,.plain,#[]⟩:=I.obj;refine aaf (aat (aaf (aaf (wpAny_loadPart hx (aaf (W.Looks.here (s:={ s with toks:=s.toks+1 }) (W.looks_clsIn X hc) ?_))))));rw[VW];refine aat (a:=some dx) (aaf (aat (aaf ?_)));refine wpAny_nsSet1 (s:={ s with toks:=s.toks+1 }) I.ns λh' hn2 SU=>?_;obtain⟨oD,esD,epD,hoD,hdD,hcD⟩:=hn2.count (PySem.Within.cons name v hw);refine aaf (wpAny_lookBehind hoD (by rw[hdD];exact pastItsLine_dict (aaR hcD (by rw[aaq];omega))) ?_);exact aat (h _ ⟨(SU.2 _ (Ne.symm I.ne)).trans I.obj,hn2,I.ne⟩ SU)
theorem Gk {R:Result->Shared->Prop}{vs:List Value}{kw:List (Str×Value)}(X:K.In s.heap)(hm:W.makesIn K C=true)
   (hi:abA K (.ref C) "__init__" = some (some (.ref f))) (hf:W.typeIn K (.ref f)=some (.type "function"))
   (h:codeAny (model prog w) (A.under (.builtin "type.__call__" ⟨.ref C::vs,kw⟩)) (.call (.ref f) ⟨.ref (s.heap.objs.size+1)::vs,kw⟩) (W.InitBack (s.heap.objs.size+1) R)
     { s with heap:=(s.heap.push ab9).push (ac2 C s.heap.objs.size) }) :
   codeAny (model prog w) A (.call (.ref C) ⟨vs,kw⟩) R s:=by
 obtain⟨hh,g,d,t,os⟩:=s;exact W.make_core (W.makes_of X hm) (W.looks_findIn X hi) (λself=>W.bind_fn X self hf) (.inl rfl) h
end
def aj (f:Str)(v:V):List (Str×V)->List (Str×V)
 | []=>[(f,v)]
 | (g,x)::r=>if g=f then (g,v)::r else (g,x)::aj f v r
theorem fG (f g : Str)(v : V) : ∀ fs : List (Str × V), (aj f v fs).lookup g = if g = f then some v else fs.lookup g
 | [] => by
   show abO g [(f,v)]=_;by_cases h:g=f
   . have hb : (g == f) = true := beq_iff_eq.mpr h;simp only[abO,hb,if_pos h]
   . have hb : (g == f) = false := beq_eq_false_iff_ne.mpr h;simp only[abO,hb,if_neg h]
 | (k, x) :: r => by
   have ih:=fG f g v r;rw[show aj f v ((k,x)::r)=(if k=f then (k,v)::r else (k,x)::aj f v r) from rfl];by_cases hk:k=f
   . rw[if_pos hk];by_cases h:g=k
     . have hb : (g == k) = true := beq_iff_eq.mpr h;simp only[abO,hb,if_pos (h.trans hk)]
     . have hb : (g == k) = false := beq_eq_false_iff_ne.mpr h;simp only[abO,hb,if_neg (λe:g=f=>h (e.trans hk.symm))]
   . rw[if_neg hk];by_cases h:g=k
     . have hb : (g == k) = true := beq_iff_eq.mpr h;simp only[abO,hb,if_neg (λe:g=f=>hk (h.symm.trans e))]
     . have hb : (g == k) = false := beq_eq_false_iff_ne.mpr h;simp only[abO,hb];exact ih
theorem oI (f:Str)(v:V):∀ fs:List (Str×V),f∈(aj f v fs).map (·.1)/\∀ g,g∈fs.map (·.1)->g∈(aj f v fs).map (·.1)
 | []=>⟨by simp[aj],λg h=>by simp at h⟩
 | (k, x) :: r => by
   obtain⟨i1,i2⟩:=oI f v r;rw[show aj f v ((k,x)::r)=(if k=f then (k,v)::r else (k,x)::aj f v r) from rfl];by_cases hk:k=f
   . rw[if_pos hk];subst hk;exact⟨by simp,λg h=>by simpa using h⟩
   . rw [if_neg hk];refine ⟨?_,λg h=>?_⟩
     . rw[aaQ];exact aa8 _ i1
     . rw[aaQ] at h ⊢;rcases List.mem_cons.mp h with e | e
       . exact List.mem_cons.mpr (.inl e)
       . exact aa8 _ (i2 g e)
theorem j9 (f:Str)(v:V):∀ fs:List (Str×V),(aj f v fs).length<=fs.length+1
 | []=>by simp[aj]
 | (k, x) :: r => by
   have ih:=j9 f v r;rw[show aj f v ((k,x)::r)=(if k=f then (k,v)::r else (k,x)::aj f v r) from rfl];by_cases hk:k=f
   . rw[if_pos hk,aaq,aaq];omega
   . rw[if_neg hk,aaq,aaq];omega
theorem d_.some_of {v:V}{o:Option Value}(r:d_ (some v) o):∃ u,o=some u/\RelV v u:=by
 cases o with
 | none=>exact(show False from r).elim
 | some u=>exact⟨u,rfl,r⟩
theorem d_.none_of {o:Option Value}(r:d_ none o):o=none:=by
 cases o with
 | none=>rfl
 | some u=>exact(show False from r).elim
theorem DB {v:V}(r:RelV v u):W.handedIn u=true:=by
 cases v with
 | ax=>cases (show u=acg from r);rfl
 | bl b=>cases (show u=acV b from r);rfl
 | int i=>obtain⟨t,e⟩:=(show ∃ t,u=aa3 i t from r);cases e;rfl
 | str x=>obtain⟨t,e⟩:=(show ∃ t,u=adv x t from r);cases e;rfl
 | byt b=>obtain⟨t,e⟩:=(show ∃ t,u=Value.bytes b t from r);cases e;rfl
 | yf b=>obtain⟨t,e⟩:=(show ∃ t,u=Value.float b t from r);cases e;rfl
 | ref a=>cases (show u=aaK a from r);rfl
 | ty n=>cases (show u=Value.type n from r);rfl
section
variable {P:Program} {w:World} {H H':Hp} {h h':Heap} {a C dx:Addr} {fs fs':List (Str×V)}
theorem pG (au:cK P w H h)(e:H a=some (.ins C dx fs)):∃ mA,q_ h a dx C mA/\(∀ f,d_ (fs.lookup f) (mA f))/\PySem.Within mA (fs.map (·.1))/\fs.length<=1000/\H dx=some (.own a):=by
 obtain⟨d,z,ne,ob,mA,n,r,q⟩:=(show bM P w H h a (.ins C dx fs) from au a _ e)
 exact⟨mA,⟨ob,n,ne⟩,r,q,z,d⟩
end
structure dQ (K:W.Frag)(C:Addr):Prop where
 pg:W.plainGet K C adf=true
 hd:W.hasDictIn K C=true
 po:W.plainOver K C=true
 sa:abA K (.ref C) "__setattr__" = some (some (.builtin "object.__setattr__"))
theorem dQ.get {K:W.Frag}(c:dQ K C)(f:Str):W.plainGet K C f=true:=c.pg
def aS (K:W.Frag)(C:Addr)(f:Str):Prop:=abA K (.ref C) f=some none
theorem aS.Oo {K:W.Frag}{f:Str}(n:aS K C f):W.takerIn K C f=some none:=by
 unfold W.takerIn;rw[show abA K (.ref C) f=some none from n];rfl
structure vd (K:W.Frag)(C:Addr)(m:Str)(f:Addr):Prop where
 at_:abA K (.ref C) m=some (some (.ref f))
 fn:W.isFn K (.ref f)=true
 kp:abz K (.ref f)=true
section
variable {X:Cx} {dv:List (Addr×Obj)} {Z : St} {H:Hp} {s:Shared} {a C dx:Addr} {fs:List (Str×V)} {f:Str} {v:V} {A:Around} {E:Value->Shared->Prop}
theorem C_ {b:Bool}{Q:Value->Shared->Prop}(I:Inv X dv Z H s)(e:H a=some (.ins C dx fs))(c:dQ X.K C)(n:aS X.K C f)(l:fs.lookup f=some v)
   (h:∀ u s',Inv X dv Z H s'->RelV v u->Q u s'):wpAny (model X.prog X.w) A (getAttr (.ref a) f b) Q E s:=by
 obtain⟨mA,O,r,_,_,_⟩:=pG I.au e;obtain⟨u,hu,ru⟩:=d_.some_of (v:=v) (o:=mA f) (by rw[<- l];exact r f);exact get_map I.cZ O (c.get f) c.hd n hu (DB ru) (h u _ (I.tok _) ru)
theorem su {m:Str}{g:Addr}{pl:Sem Bool}{Q:Value×List Value->Shared->Prop}(I:Inv X dv Z H s)(e:H a=some (.ins C dx fs))(c:dQ X.K C)(k:vd X.K C m g)(l:fs.lookup m=none)
   (h:Q (.ref g,[.ref a]) s):wpAny (model X.prog X.w) A (adu (.ref a) m pl) Q E s:=by
 obtain⟨mA,O,r,_,_,_⟩:=pG I.au e;have hn:mA m=none:=d_.none_of (by rw[<- l];exact r m);exact Gf I.cZ O (c.get m) k.at_ k.fn hn h
theorem Di {y:V}{Q:Unit->Shared->Prop}(I:Inv X dv Z H s)(e:H a=some (.ins C dx fs))(c:dQ X.K C)(n:aS X.K C f)(hl:fs.length<1000)(ry:RelV y u)
   (h:∀ s',Inv X dv Z (upd H a (.ins C dx (aj f y fs))) s'->Q () s'):wpAny (model X.prog X.w) A (setAttr (.ref a) f u) Q E s:=by
 obtain⟨mA,O,r,wi,_,ho⟩:=pG I.au e;have hz:(fs.map (·.1)).length<=aar:=by rw[aaa,aan];omega
 refine pE I.cZ O c.sa c.po n.Oo c.hd wi hz λh' O' sb=>h _ ?_;have hd:∃ o,h'.get? dx=some o:=let ⟨o,_,_,e',_⟩:=O'.ns;⟨o,e'⟩;refine I.write (x:=a) (e:=dx) (by rw[e];exact abq) (.inr ho) (λb q hb z=>(sb.2 b hb).trans z) hd ?_;refine⟨by rw[af O.ne];exact ho,?_,O.ne,O'.obj,_,O'.ns,λg=>?_,λg hg=>?_⟩
 . have:=j9 f y fs;omega
 . show d_ ((aj f y fs).lookup g) (if g = f then some u else mA g);rw[fG];by_cases q:g=f
   . rw[if_pos q,if_pos q];exact ry
   . rw[if_neg q,if_neg q];exact r g
 . by_cases q:g=f
   . rw[q];exact(oI f y fs).1
   . refine(oI f y fs).2 g (wi g λz=>hg ?_);show(if g=f then some u else mA g)=none;rw[if_neg q];exact z
theorem Inv.made (I:Inv X dv Z H s):Inv X dv Z (upd (upd H s.heap.objs.size (.own (s.heap.objs.size+1))) (s.heap.objs.size+1) (.ins C s.heap.objs.size []))
   { s with heap:=(s.heap.push ab9).push (ac2 C s.heap.objs.size) }:=by
 have e1:(s.heap.push ab9).get? s.heap.objs.size=some ab9:=aay s.heap rfl;have e2:((s.heap.push ab9).push (ac2 C s.heap.objs.size)).get? (s.heap.objs.size+1)=some (ac2 C s.heap.objs.size):=by
   have:=aay (s.heap.push ab9) (o:=ac2 C s.heap.objs.size) rfl
   rwa [abJ] at this
 have e3:(s.heap.push ab9).Ns s.heap.objs.size (λ_=>none):=⟨ab9,#[],_,e1,rfl,(λe he=>absurd he (by simp)),λ_=>rfl⟩
 have I1:=I.laid (a:=s.heap.objs.size) (o:=.own (s.heap.objs.size+1)) (h':=s.heap.push ab9) (t':=s.toks) (λb u q=>aaj _ q) (aai _) ⟨_,e1⟩;refine I1.laid (a:=s.heap.objs.size+1) (o:=.ins C s.heap.objs.size []) (t':=s.toks) (λb u q=>aaj _ q) (acu (abJ _ _)) ?_;have ne:s.heap.objs.size≠s.heap.objs.size+1:=aaH (abK _);refine⟨by rw[af ne,U],aaW _,ne,e2,λ_=>none,(Heap.Ns1.of_empty e3).at λo q=>aaj _ q,λ_=>abq,λy hy=>absurd rfl hy⟩
theorem Kf {prog:Program}{w:World}{env:Env}{f:Str}{pos:Pos}{s:Shared}{Q:Value->Shared->Prop}(hb:abr e f env (eval e env)=eval e env)
   (h:wpAny (model prog w) A (eval e env) (λo s₁=>wpAny (model prog w) A (getAttr o f true) Q E s₁) E s):wpAny (model prog w) A (eval (.Attribute e f pos) env) Q E s :=
 Attribute_any_ h (by rw[arm_eval_Attribute,hb])
end
def My (K:W.Frag)(f:Str):V->Hp->VK->Prop:=λx H1 Q=>∃ a C dx fs v,x=.ref a/\H1 a=some (.ins C dx fs)/\dQ K C/\aS K C f/\fs.lookup f=some v/\Q v H1
@[reducible] def Lv (K:W.Frag) (ta:TE) (f:Str):TE:=λZ H Q=>ta Z H λx H1=>My K f x H1 Q
def IK (K:W.Frag)(f:Str)(y:V)(D:Ends)(Z : St):V->Hp->Prop:=λx H2=>∃ a C dx fs,x=.ref a/\H2 a=some (.ins C dx fs)/\dQ K C/\aS K C f/\fs.length<1000/\D.nx Z (upd H2 a (.ins C dx (aj f y fs)))
@[reducible] def LB (K:W.Frag) (ta tv:TE) (f:Str):TS:=λD Z H=>tv Z H λy H1=>ta Z H1 λx H2=>IK K f y D Z x H2
section
variable {X:Cx} {o e value:Expr} {f:Str} {pos Sr Se:Pos} {ta tv:TE}
theorem MK (he:PE X e ta)(hb:abr e f X.env (eval e X.env)=eval e X.env):PE X (.Attribute e f pos) (Lv X.K ta f):=by
 intro dv s Z H Q I h;refine Kf hb (aL (he dv s Z H _ I h) λu s1 zq=>?_);obtain⟨x,H1,I1,rx,a,C,dx,fs,v,ex,ea,c,n,l,q⟩:=zq;subst ex;obtain rfl:u=aaK a:=rx;exact C_ I1 ea c n l λu' s2 I2 ru=>⟨v,H1,I2,ru,q⟩
theorem KR (ha:PE X o ta)(hv:PE X value tv)(hs:swapsWith value (some (.Attribute o f Sr)) pos.line X.env=pure false):PS X (.Assign [.Attribute o f Sr] value pos) (LB X.K ta tv f):=by
 intro dv s Z H D I h;refine plainObj_wpAny_Assign_Attribute (aL (hv dv s Z H _ I h) λu s1 zq=>bF zq λy H1 I1 ry q=>aL (ha dv s1 Z H1 _ I1 q) λov s2 zq=>?_) hs;obtain⟨x,H2,I2,rx,a,C,dx,fs,ex,ea,c,n,l,q2⟩:=zq;subst ex;obtain rfl:ov=aaK a:=rx;exact Di I2 ea c n l ry λs3 I3=>⟨Z,_,I3,q2⟩
end
section
variable {X:Cx} {dv:List (Addr×Obj)} {Z : St} {H:Hp} {s:Shared} {A:Around} {E:Value->Shared->Prop} {Q:Value->Shared->Prop} {c:Value} {b:Bool}
inductive bH (K:W.Frag) (H:Hp):V->Value->Prop where
 | ax:bH K H .ax (.type "NoneType")
 | bl (x:Bool):bH K H (.bl x) (.type "bool")
 | int (i:Int):bH K H (.int i) (.type "int")
 | str (x:Str):bH K H (.str x) (.type "str")
 | yf (x:UInt64):bH K H (.yf x) (.type "float")
 | lst {a:Addr} {xs:List V} (e:H a=some (.lst xs)):bH K H (.ref a) (.type "list")
 | cx {a:Addr} {o:Obj} {xs:List V} (e:H a=some (.cx o (.lst xs))):bH K H (.ref a) (.type "list")
 | tup {a:Addr} {xs:List V} (e:H a=some (.tup xs)):bH K H (.ref a) (.type "tuple")
 | dK {a:Addr} {kvs:List (Key×V)} (e:H a=some (.dK kvs)):bH K H (.ref a) (.type "dict")
 | dT {a:Addr} {kvs:List (List Key×V)} (e:H a=some (.dT kvs)):bH K H (.ref a) (.type "dict")
 | ins {a C dx:Addr} {fs:List (Str×V)} (e:H a=some (.ins C dx fs)) (cl:dQ K C) (ha:abA K (.ref C) "__class__" = some (some (.builtin "object.__class__")))
     (hn:W.specialIn K (.builtin "object.__class__") "__get__" = some (some (.builtin "getset_descriptor.__get__"))) (htk:W.takesIn K (.builtin "object.__class__")=some true)
     (hm:W.mroIn K C (.type "object")=some true):bH K H (.ref a) (.ref C)
theorem DI {x:V}{t:Value}(I:Inv X dv Z H s)(rx:RelV x u)(ty:bH X.K H x t)(e:aba X.K t c=some b)(h:∀ tk,Q (.bool b) { s with toks:=tk }) :
   wpAny (model X.prog X.w) A (call (.builtin "isinstance") [u,c]) Q E s:=by
 cases ty with
 | ax=>cases (show u=acg from rx);exact acf W.kitx_none I.cZ abq e (λz=>nomatch z) h
 | bl y=>cases (show u=acV y from rx);exact acf W.kitx_bool I.cZ abq e (λz=>nomatch z) h
 | int i=>obtain⟨t,q⟩:=(show ∃ t,u=aa3 i t from rx);cases q;exact acf W.kitx_int I.cZ abq e (λz=>nomatch z) h
 | str y=>obtain⟨t,q⟩:=(show ∃ t,u=adv y t from rx);cases q;exact acf W.kitx_str I.cZ abq e (λz=>nomatch z) h
 | yf y=>obtain⟨t,q⟩:=(show ∃ t,u=Value.float y t from rx);cases q;exact acf W.kitx_float I.cZ abq e (λz=>nomatch z) h
 | @lst a xs ea =>
   cases (show u=aaK a from rx)
   obtain⟨_,_,n,_,h1⟩:=(show bM X.prog X.w H s.heap a (.lst xs) from I.au a _ ea)
   exact acf W.kitx_list I.cZ ⟨_,h1,rfl⟩ e (λz=>nomatch z) h
 | @cx a ob xs ea =>
   cases (show u=aaK a from rx)
   obtain⟨_,_,_,n,_,h1⟩:=(show bM X.prog X.w H s.heap a (.cx ob (.lst xs)) from I.au a _ ea)
   exact acf W.kitx_list I.cZ ⟨_,h1,rfl⟩ e (λz=>nomatch z) h
 | @tup a xs ea =>
   cases (show u=aaK a from rx)
   obtain⟨_,_,_,p⟩:=(show bM X.prog X.w H s.heap a (.tup xs) from I.au a _ ea)
   obtain⟨o,h1,h2,_⟩:=p;exact acf W.kitx_tuple I.cZ ⟨o,h1,h2⟩ e (λz=>nomatch z) h
 | @dK a kvs ea =>
   cases (show u=aaK a from rx)
   obtain⟨_,_,vs,_,p⟩:=(show bM X.prog X.w H s.heap a (.dK kvs) from I.au a _ ea)
   obtain⟨o,es,ep,h1,h2,_⟩:=p;exact acf W.kitx_dict I.cZ ⟨o,h1,h2.1⟩ e (λz=>nomatch z) h
 | @dT a kvs ea =>
   cases (show u=aaK a from rx)
   obtain⟨_,_,xs,_,o,es,ep,h1,h2,_⟩:=(show bM X.prog X.w H s.heap a (.dT kvs) from I.au a _ ea)
   exact acf W.kitx_dict I.cZ ⟨o,h1,h2.1⟩ e (λz=>nomatch z) h
 | @ins a C dx fs ea cl ha hn htk hm =>
   cases (show u=aaK a from rx)
   obtain⟨mA,O,_⟩:=pG I.au ea;obtain⟨od,J,_⟩:=O.look;exact acf (W.kitx_own (cl.get _) cl.hd ha hn htk hm) I.cZ J e (λz=>nomatch z) h
end
structure bG (k:Nat)(A:Around):Prop where
 hd:A.handled=none
 dp:A.depth+1*k+5<recursionLimit
 un:A.units+16*k+200<cLine
 gd:A.guards=some []
theorem bG.mono {j k:Nat}(r:bG k A)(h:j<=k):bG j A:=⟨r.hd,by have:=r.dp;omega,by have:=r.un;omega,r.gd⟩
theorem bG.deeper {k:Nat}(r:bG (k+1) A)(env:Env):bG k (A.deeper env) :=
 ⟨r.hd,by have:=r.dp;show A.depth+1+1*k+5<_;omega,by have:=r.un;show A.units+3+16*k+200<_;omega,r.gd⟩
variable {kw:List (Str×Value)}
theorem C8:(A.under (.builtin "type.__call__" ⟨.ref C::us,kw⟩)).depth=A.depth+1:=by
 first | rfl | simp[Around.under,Code.weight,Code.isCreation,Code.isGuard,Code.isCaller,Code.frames,Code.isFrame,guardIds]
theorem Cq:(A.under (.builtin "type.__call__" ⟨.ref C::us,kw⟩)).units=A.units+1:=by
 first | rfl | simp[Around.under,Code.cUnits,Code.frames,Code.isFrame]
theorem As:(A.under (.builtin "type.__call__" ⟨.ref C::us,kw⟩)).guards=A.guards:=by
 have e:(Code.builtin "type.__call__" ⟨.ref C::us,kw⟩).guards=[]:=by first | rfl | simp[Code.guards,Code.isGuard,guardIds]
 simp only[Around.under,e,pushGuards]
theorem bG.make {k:Nat}(r:bG (k+1) A)(C:Addr)(us:List Value)(kw:List (Str×Value)):bG k (A.under (.builtin "type.__call__" ⟨.ref C::us,kw⟩)) :=
 ⟨r.hd,by have:=r.dp;rw[C8];omega,by have:=r.un;rw[Cq];omega,by rw[As];exact r.gd⟩
theorem bG.depth {k:Nat}(r:bG k A):A.depth<recursionLimit:=by have:=r.dp;omega
theorem bG.units {k:Nat}(r:bG k A):A.units+64<cLine:=by have:=r.un;omega
@[reducible] def GW:TA:=λ_ H Q=>Q [] H
@[reducible] def OB (ta:TE) (tr:TA):TA:=λZ H Q=>ta Z H λx H1=>tr Z H1 λxs H2=>Q (x::xs) H2
section
variable {X:Cx} {e:Expr} {es:List Expr} {te:TE} {t:TA} {pos:Pos}
theorem ao:PA X [] GW:=λ_ _ _ _ H Q I h=>Calls.spliced_nil ⟨[],H,I,.nil,h⟩
theorem aa (ha:PE X e te)(hr:PA X es t)(hs:aas (e::es) X.env=(false,eval e X.env)::aas es X.env:=by rfl):PA X (e::es) (OB te t):=by
 intro pos dv s Z H Q I h;rw[hs];show wpAny _ _ (spliced ((false,eval e X.env)::backTo pos (aas es X.env))) _ _ s;refine acL (aL (ha dv s Z H _ I h) λu s1 zq=>bF zq λx H1 I1 r1 q1=>?_);exact aL (hr pos dv s1 Z H1 _ I1 q1) λus s2 zq=>bF zq λxs H2 I2 r2 q2=>⟨x::xs,H2,I2,.cons r1 r2,q2⟩
@[reducible] def QF (t:TA):TE:=λZ H Q=>t Z H λxs H1=>Ce xs 100 (∀ p,H1 p=none->Q (.ref p) (upd H1 p (.tup xs)))
@[reducible] def P7 (t:TA):TE:=λZ H Q=>t Z H λxs H1=>Ce xs 100 (∀ p,H1 p=none->Q (.ref p) (upd H1 p (.lst xs)))
theorem iu {x1}(h:PA X es t):PE X (.Tuple es x1 pos) (QF t):=by
 intro dv s Z H Q I hq;refine wpAny_Tuple_spliced (aL (h pos dv s Z H _ I hq) λus s1 zq=>bF zq λxs H1 I1 r z0=>?_);obtain⟨z1,q⟩:=pJ z0;have z:xs.length<=aar:=aaR z1 (by rw[aan];decide);refine⟨by rw[<- r.length];exact z,?_⟩;have hf:H1 s1.heap.objs.size=none:=I1.au.fresh (aai _);refine⟨.ref s1.heap.objs.size,upd H1 s1.heap.objs.size (.tup xs),I1.laid (t':=s1.toks) (λb u e=>aaj _ e) (aai _) ?_,rfl,q _ hf⟩;exact⟨z,us,r,⟨_,aay _ rfl,rfl,_,rfl⟩⟩
theorem gj (h:PA X es t):PE X (.List es pos) (P7 t):=by
 intro dv s Z H Q I hq;refine wpAny_List_spliced (aL (h pos dv s Z H _ I hq) λus s1 zq=>bF zq λxs H1 I1 r z0=>?_);obtain⟨z1,q⟩:=pJ z0;have z:xs.length<=aar:=aaR z1 (by rw[aan];decide);refine⟨by rw[<- r.length];exact z,?_⟩;have hf:H1 s1.heap.objs.size=none:=I1.au.fresh (aai _);refine⟨.ref s1.heap.objs.size,upd H1 s1.heap.objs.size (.lst xs),I1.laid (t':=s1.toks) (λb u e=>aaj _ e) (aai _) ?_,rfl,q _ hf⟩;exact⟨z,us,0,r,aay _ rfl⟩
end
abbrev Sp:=List V->Hp->VK->XK->Prop
abbrev dB:=List Env->Hp->Shared->XK->Value->Shared->Prop
structure rT (P:Program)(w:World)(K:W.Frag)(mg:Str->Option Value)(base:Heap)(A:Around)(outer:List Env)(s:Shared)(H:Hp):Prop where
 frames:A.frames=some outer
 mod:Mod K mg base
 bs:∀ b o,base.get? b=some o->s.heap.get? b=some o/\H b=none
 qN:base.objs.size<=s.heap.objs.size
 fO:s.heap.FunFrames base outer
 uO:∀ b∈bE outer,H b=none
 au:cK P w H s.heap
 bare:AllBare s.gens
def CE (outer:List Env)(P:Program)(w:World)(H:Hp)(s:Shared)(Q:VK)(u:Value)(s':Shared):Prop :=
 ∃ v H',s'.os=s.os/\AllBare s'.gens/\Un (bE outer) [] H H' s.heap s'.heap/\cK P w H' s'.heap/\RelV v u/\Q v H'
def CR (CX:dB)(outer:List Env)(P:Program)(w:World)(H:Hp)(s:Shared)(Q:VK)(E:XK)(r:Result)(s':Shared):Prop :=
 match r with
 | .ok (.ret u)=>CE outer P w H s Q u s'
 | .ok _=>False
 | .error e=>CX outer H s E e s'
structure cW (P:Program)(w:World)(K:W.Frag)(mg:Str->Option Value)(base:Heap)(CX:dB)(k:Nat)(f:Addr)(fd:abc)(ps:List Str)(sp:Sp):Prop where
 len:∀ vs H Q E,sp vs H Q E->vs.length=ps.length
 run:∀ (A:Around) (outer:List Env) (s:Shared) (H:Hp) (args:Args) (us:List Value) (vs:List V) (Q:VK) (E:XK),bG k A->rT P w K mg base A outer s H->BindsTo s fd args (ps.zip us)->aE vs us->sp vs H Q E ->
   codeAny (model P w) A (.call (.ref f) args) (CR CX outer P w H s Q E) s
theorem cW.mono {P:Program}{w:World}{K:W.Frag}{mg:Str->Option Value}{base:Heap}{CX:dB}{j k:Nat}{f:Addr}{fd:abc}{ps:List Str}{sp:Sp}(F:cW P w K mg base CX j f fd ps sp)(h:j<=k) :
   cW P w K mg base CX k f fd ps sp:=⟨F.len,λA outer s H args us vs Q E hr=>F.run A outer s H args us vs Q E (hr.mono h)⟩
theorem rT.make {P:Program}{w:World}{K:W.Frag}{mg:Str->Option Value}{base:Heap}{outer:List Env}(e:rT P w K mg base A outer s H)(C:Addr)(us:List Value)(kw:List (Str×Value)) :
   rT P w K mg base (A.under (.builtin "type.__call__" ⟨.ref C::us,kw⟩)) outer s H:=⟨by first | exact e.frames | (simpa [Around.under,Code.envs,Code.isFrame,pushEnvs] using e.frames),e.mod,e.bs,e.qN,e.fO,e.uO,e.au,e.bare⟩
section
variable {X:Cx} {dv:List (Addr×Obj)} {Z : St} {H:Hp} {s s':Shared}
theorem Inv.GU (I:Inv X dv Z H s):rT X.prog X.w X.K X.mg X.base X.A X.stack s H :=
 ⟨I.ok.frames,I.ok.mod,I.bs,aaR I.ok.qN I.sz,I.stack,I.pW,I.au,I.bare⟩
theorem Inv.after {Q:VK}(I:Inv X dv Z H s)(h:CE X.stack X.prog X.w H s Q u s'):EP X dv Z Q u s':=by
 obtain⟨v,H',os,bare,un,au,r,q⟩:=h;obtain⟨hh,g,d,t,os'⟩:=s';obtain rfl:os'=s.os:=os;exact⟨v,H',I.call (h':=hh) (g':=g) (d':=d) (t':=t) (ch:=[]) un au bare (λb z=>absurd z (by simp)),r,q⟩
end
def IM (sp:Sp)(TH:List V)(E:XK)(t:TA):TE:=λZ H Q=>t Z H λvs H1=>sp (vs++TH) H1 Q E
def IU (C:Addr)(sp:Sp)(TH:List V)(E:XK)(t:TA):TE:=λZ H Q=>t Z H λvs H1=>∀ x dx,H1 x=none->H1 dx=none->dx≠x ->
 sp (.ref x::(vs++TH)) (upd (upd H1 dx (.own x)) x (.ins C dx [])) (λv H2=>v=.ax/\Q (.ref x) H2) E
def Binds (K:W.Frag)(fd:abc)(ps:List Str)(ds:List Value):Prop :=
 ∀ (s:Shared) (us:List Value),K.In s.heap->(us++ds).length=ps.length->BindsTo s fd ⟨us,[]⟩ (ps.zip (us++ds))
theorem Binds.all {K:W.Frag}{fd:abc}{ps:List Str}(h:∀ us:List Value,us.length=ps.length->acM fd ⟨us,[]⟩=pure (ps.zip us)):Binds K fd ps []:=λs us _ hl=>by
 rw[aaJ] at hl ⊢;exact .of_eq (h us hl)
def dj (CX:dB)(X:Cx)(E:XK):Prop:=∀ (dv:List (Addr×Obj)) (Z : St) (H:Hp) (s:Shared) (e:Value) (s':Shared),Inv X dv Z H s->CX X.stack H s E e s'->X.xe e s'
section
variable {X:Cx} {CX:dB} {k:Nat} {f C:Addr} {fd:abc} {ps:List Str} {sp:Sp} {TH:List V} {ds:List Value} {E:XK} {x m:Str} {p pos RL:Pos} {e o:Expr} {es:List Expr} {ta:TE} {t:TA}
theorem yd {dv:List (Addr×Obj)}{Z : St}{H:Hp}{s:Shared}{Q:VK}{us:List Value}{vs:List V}(F:cW X.prog X.w X.K X.mg X.base CX k f fd ps sp)(hr:bG k X.A)(hb:Binds X.K fd ps ds)(hd:aE TH ds)(hx:dj CX X E)
   (I:Inv X dv Z H s) (r:aE vs us) (h:sp (vs++TH) H Q E):wpAny (model X.prog X.w) X.A (call (.ref f) us) (EP X dv Z Q) X.xe s:=by
 have r2:aE (vs++TH) (us++ds):=r.append hd;have hl:(us++ds).length=ps.length:=by rw[<- r2.length];exact F.len _ _ _ _ h
 refine adz (acD (F.run X.A X.stack s H ⟨us,[]⟩ (us++ds) (vs++TH) Q E hr I.GU (hb s us I.cZ hl) r2 h) λr s' hq=>?_);cases r with
 | error e=>exact hx dv Z H s e s' I hq
 | ok fl =>
   cases fl with
   | ret u=>exact I.after hq
   | next=>exact abf hq
   | brk=>exact abf hq
   | cont=>exact abf hq
theorem Bk (F:cW X.prog X.w X.K X.mg X.base CX k f fd ps sp)(hr:bG k X.A)(hg:Gl X x)(hm:X.mg x=some (.ref f))(hk:abz X.K (.ref f)=true)(hb:Binds X.K fd ps ds)(hd:aE TH ds)(hx:dj CX X E)
   (ha:PA X (e::es) t) (Sd:(x == ("__debug__" : Str))=false:=by decide) (he:aas (e::es) X.env=(false,eval e X.env)::aas es X.env:=by rfl) (RM:(backTo pos (aas es X.env)).any (·.1)=false:=by rfl) :
   PE X (.Call (.Name x p) (e::es) [] pos) (IM sp TH E t):=by
 intro dv s Z H Q I h;refine acn (i5 I hg hm ?_ Sd);refine W.callWith_K (h₀:=X.base) I.ok.mod.yF hk (aL (ha pos dv s Z H _ I h) λus s1 zq=>bF zq λvs H1 I1 r q=>⟨I1.cZ,?_⟩) he RM;exact yd F hr hb hd hx I1 r q
structure Mk (K:W.Frag)(C f:Addr):Prop where
 makes:W.makesIn K C=true
 init:abA K (.ref C) "__init__" = some (some (.ref f))
 fn:W.isFn K (.ref f)=true
 kp:abz K (.ref C)=true
theorem HY {dv:List (Addr×Obj)}{Z : St}{H:Hp}{s:Shared}{Q:VK}{us:List Value}{vs:List V}(M:Mk X.K C f)(F:cW X.prog X.w X.K X.mg X.base CX k f fd ps sp)(hr:bG (k+1) X.A)(hb:Binds X.K fd ps ds)(hd:aE TH ds)
   (hx:dj CX X E) (I:Inv X dv Z H s) (r:aE vs us)
   (h:∀ x dx,H x=none->H dx=none->dx≠x->sp (.ref x::(vs++TH)) (upd (upd H dx (.own x)) x (.ins C dx [])) (λv H2=>v=.ax/\Q (.ref x) H2) E) :
   wpAny (model X.prog X.w) X.A (call (.ref C) us) (EP X dv Z Q) X.xe s:=by
 have hq:=h (s.heap.objs.size+1) s.heap.objs.size (I.au.fresh (ack _)) (I.au.fresh (aai _)) (aaH (abK _));have I2:=Inv.made (C:=C) I;have r2:aE (V.ref (s.heap.objs.size+1)::(vs++TH)) (aaK (s.heap.objs.size+1)::(us++ds)):=.cons rfl (r.append hd);have hl:(aaK (s.heap.objs.size+1)::us++ds).length=ps.length:=by
   have e:=r2.length;rw[F.len _ _ _ _ hq] at e;exact e.symm
 refine adz (Gk (f:=f) I.cZ M.makes M.init (beq_iff_eq.mp M.fn) (acD (F.run _ X.stack _ _ ⟨aaK (s.heap.objs.size+1)::us,[]⟩ (aaK (s.heap.objs.size+1)::(us++ds)) _ _ E (hr.make C us [])
   (I2.GU.make C us []) (hb _ (aaK (s.heap.objs.size+1)::us) I2.cZ hl) r2 hq) λr s' WD=>?_))
 cases r with
 | error e=>exact hx dv Z _ _ e s' I2 WD
 | ok fl =>
   cases fl with
   | ret u =>
     obtain⟨v,H',I3,rv,ev,q3⟩:=I2.after WD;subst ev;exact⟨rv,⟨V.ref (s.heap.objs.size+1),H',I3,rfl,q3⟩⟩
   | next=>exact abf WD
   | brk=>exact abf WD
   | cont=>exact abf WD
theorem Jx (M:Mk X.K C f)(F:cW X.prog X.w X.K X.mg X.base CX k f fd ps sp)(hr:bG (k+1) X.A)(hg:Gl X x)(hm:X.mg x=some (.ref C))(hb:Binds X.K fd ps ds)(hd:aE TH ds)(hx:dj CX X E)
   (ha:PA X (e::es) t) (Sd:(x == ("__debug__" : Str))=false:=by decide) (he:aas (e::es) X.env=(false,eval e X.env)::aas es X.env:=by rfl) (RM:(backTo pos (aas es X.env)).any (·.1)=false:=by rfl) :
   PE X (.Call (.Name x p) (e::es) [] pos) (IU C sp TH E t):=by
 intro dv s Z H Q I h;refine acn (i5 I hg hm ?_ Sd);refine W.callWith_K (h₀:=X.base) I.ok.mod.yF M.kp (aL (ha pos dv s Z H _ I h) λus s1 zq=>bF zq λvs H1 I1 r q=>⟨I1.cZ,?_⟩) he RM;exact HY M F hr hb hd hx I1 r q
end
structure ar (N P:List Str)(sc:Scope):Prop where
 kind:sc.kind=.function
 co:sc.isCoroutine=false
 gen:sc.isGenerator=false
 nd:N.Nodup
 pre:N.take P.length=P
 par:∀ x∈P,sc.names.lookup x=some .local∨sc.names.lookup x=some .cell
 L7:∀ y∈sc.names,y.2≠.free
variable {x:Str} {kindOf:Str->Option NameKind}
theorem wB:∀ {binds:List (Str×Value)} {m:Str->Option Value},(∀ v,(x,v) ∉ binds)->bindL kindOf binds m x=m x
 | [],_,_=>rfl
 | (n, v) :: r, m, h => by
   unfold bindL;rw[wB λw hw=>h w (aa8 _ hw)];split
   . have : x ≠ n := by rintro rfl; exact h v aa_
     simp[this]
   . rfl
theorem wu:∀ {binds:List (Str×Value)} {m:Str->Option Value},(∀ v,(x,v) ∉ binds)->bindC kindOf binds m x=m x
 | [],_,_=>rfl
 | (n, v) :: r, m, h => by
   unfold bindC;rw[wu λw hw=>h w (aa8 _ hw)];split
   . rfl
   . have : x ≠ n := by rintro rfl; exact h v aa_
     simp[this]
theorem wb {v:Value}:∀ {P:List Str} {vs:List Value} {i:Nat} {m:Str->Option Value},P.Nodup->P[i]? = some x->vs[i]? = some v->kindOf x=some .local ->
   bindL kindOf (P.zip vs) m x=some v
 | [],_,_,_,_,h,_,_=>by simp at h
 | _::_,[],_,_,_,_,h,_=>by simp at h
 | p :: P, w :: vs, 0, m, nd, h1, h2, hk => by
   simp at h1 h2;subst h1;subst h2;show bindL kindOf ((p,w)::P.zip vs) m p=_;unfold bindL;rw[wB λv hv=>(List.nodup_cons.mp nd).1 (List.of_mem_zip hv).1,if_pos hk]
   simp
 | p :: P, w :: vs, i + 1, m, nd, h1, h2, hk => by
   show bindL kindOf ((p,w)::P.zip vs) m x=_;unfold bindL;exact wb (i:=i) (List.nodup_cons.mp nd).2 (by simpa using h1) (by simpa using h2) hk
theorem wk {v:Value}:∀ {P:List Str} {vs:List Value} {i:Nat} {m:Str->Option Value},P.Nodup->P[i]? = some x->vs[i]? = some v->kindOf x≠some .local ->
   bindC kindOf (P.zip vs) m x=some v
 | [],_,_,_,_,h,_,_=>by simp at h
 | _::_,[],_,_,_,_,h,_=>by simp at h
 | p :: P, w :: vs, 0, m, nd, h1, h2, hk => by
   simp at h1 h2;subst h1;subst h2;show bindC kindOf ((p,w)::P.zip vs) m p=_;unfold bindC;rw[wu λv hv=>(List.nodup_cons.mp nd).1 (List.of_mem_zip hv).1,if_neg hk]
   simp
 | p :: P, w :: vs, i + 1, m, nd, h1, h2, hk => by
   show bindC kindOf ((p,w)::P.zip vs) m x=_;unfold bindC;exact wk (i:=i) (List.nodup_cons.mp nd).2 (by simpa using h1) (by simpa using h2) hk
def start (N:List Str)(vs:List V):St:=vs.map some++aaL (N.length - vs.length) none
def eE (CX:dB)(P:Program)(w:World)(K:W.Frag)(mg:Str->Option Value)(base:Heap)(N:List Str)(qual:Str)(scope:Scope)(f:Addr)(cd:Value)(A:Around)(outer:List Env)(s:Shared)(H:Hp)(E:XK):Cx where
 prog:=P
 w:=w
 K:=K
 mg:=mg
 base:=base
 A:=A.deeper (envOfC qual scope s.heap.objs.size f cd)
 N:=N
 s₀:=s
 H₀:=H
 env:=envOfC qual scope s.heap.objs.size f cd
 outer:=outer
 stack:=envOfC qual scope s.heap.objs.size f cd::outer
 ex:=[]
 calm:=true
 fn:=λ_=>true
 pn:=[]
 xe:=λe s'=>wpAny (model P w) (A.deeper (envOfC qual scope s.heap.objs.size f cd)) (leaving (envOfC qual scope s.heap.objs.size f cd) e) (λ_ Wi=>CX outer H s E e Wi) (λe' Wi=>CX outer H s E e' Wi) s'
theorem x_ {sc:Scope}{n:Nat}(h:sc.names.lookup x=some .cell):∃ c,(cellsFrom n sc.names []).lookup x=some c:=by
 have q:=W.cellsFrom_some sc.names n [] (.inl h);exact Option.isSome_iff_exists.mp q
theorem DL {CX:dB}{P:Program}{w:World}{K:W.Frag}{mg:Str->Option Value}{base:Heap}{N ps:List Str}{qual:Str}{scope:Scope}{f:Addr}{cd:Value}{A:Around}{outer:List Env}{s s1:Shared}{H:Hp}{E:XK}{us:List Value}{vs:List V}
   (S:ar N ps scope) (hd:A.handled=none) (e0:rT P w K mg base A outer s H) (hl:vs.length=ps.length) (r:aE vs us)
   (x:InCallC s s.heap.objs.size (bindL (envOfC qual scope s.heap.objs.size f cd).kindOf (ps.zip us) λ_=>none) (cellsFrom (s.heap.objs.size+1) scope.names []) (bindC (envOfC qual scope s.heap.objs.size f cd).kindOf (ps.zip us) λ_=>none) s1) :
   Inv (eE CX P w K mg base N qual scope f cd A outer s H E) [] (start N vs) H s1:=by
 have RM:ps.length<=N.length:=by have:=congrArg adq S.pre;rw[aaC] at this;omega
 obtain⟨h1,tk,rfl,hk⟩:=x.done;have noA:∀ b:Addr,b ∉ (eE CX P w K mg base N qual scope f cd A outer s H E).ex:=λb z=>absurd (show b∈([]:List Addr) from z) (by simp)
 refine ⟨⟨e0.mod,S.kind,rfl,rfl,aai _,λy z c h1 h2=>?_,λy hy=>?_,λy c _ h=>?_,λ_=>hd,Around.frames_deeper e0.frames,.inr ⟨rfl,rfl⟩,λb z=>absurd z (noA b),e0.bs,e0.qN,λb _ _=>noA b,λb z=>absurd z (noA b),e0.fO,e0.uO⟩,
   rfl,e0.bare,Un.kept hk,⟨_,x.toInCall.ns,λi y v h1 h2 h3=>?_⟩,λy c h=>⟨_,x.cell y c h⟩,e0.au.fresh (aai _),λy c h=>?_,λp hp=>absurd (show p∈([]:List (Addr×Obj)) from hp) (by simp),e0.au.kept hk,?_⟩
 . exact name_of_addr x.apart (ab1 h1) (ab1 h2)
 . have hy : scope.names.lookup y = some .cell ∨ scope.names.lookup y = some .free := hy;rcases hy with hy | hy
   . exact x_ hy
   . exact absurd rfl (S.L7 _ (ab1 hy))
 . exact adi (x.above y c (ab1 h))
 . have hi : i < vs.length := by
     unfold start at h2;by_cases hi:i<vs.length
     . exact hi
     . rw[aag (by simpa using hi)] at h2;rw[abe] at h2;split at h2 <;> cases h2
   have ha:vs[i]? = some v:=by
     unfold start at h2;rw[aak (by simpa using hi),aae] at h2;cases e:vs[i]? with
     | none=>rw[e] at h2;cases h2
     | some a=>rw[e] at h2;cases h2;rfl
   obtain⟨u,hu,rv⟩:=r.get ha;have hp:ps[i]? = some y:=by
     rw[<- S.pre,List.getElem?_take_of_lt (by omega)];exact h1
   have ndP:ps.Nodup:=by rw[<- S.pre];exact S.nd.sublist (List.take_sublist _ _)
   refine⟨u,rv,?_⟩;rcases S.par y (aad hp) with k | k
   . exact .inl ⟨k,wb ndP hp hu k⟩
   . obtain⟨c, e⟩ := x_ (n := s.heap.objs.size + 1) k;refine .inr ⟨.inl k,c,e,?_⟩;have q:=x.cell y c e;rw[wk ndP hp hu (by show scope.names.lookup y≠_;rw[k];decide)] at q;exact q
 . exact e0.au.fresh (adi (x.above y c (ab1 h)))
 . unfold start;show _=N.length;rw[aab,aaa,aao];omega
theorem xU {CX:dB}{P:Program}{w:World}{K:W.Frag}{mg:Str->Option Value}{base:Heap}{k:Nat}{f:Addr}{name qual:Str}{params:Arguments}{body:List Stmt}{scope:Scope}{dV kV RP pm RK ct oc:Value}{an od:Option Addr}
   {Si:Array (Option Value)} {N ps:List Str} {sp:Sp} (lk:K.lookup f=some ⟨oc,od,.func (W.fnOf name qual params body scope dV kV RP pm an RK ct),Si⟩) (Sn:acx K RK qual=true) (S:ar N ps scope)
   (len:∀ vs H Q E,sp vs H Q E->vs.length=ps.length)
   (RO:∀ (A:Around) (outer:List Env) (s:Shared) (H:Hp) (vs:List V) (Q:VK) (E:XK),bG k (A.deeper (envOfC qual scope s.heap.objs.size f RK))->sp vs H Q E ->
     ∃ t,iq (eE CX P w K mg base N qual scope f RK A outer s H E) body t/\t { nx:=λ_ H'=>Q .ax H',rt:=Q } (start N vs) H) :
   cW P w K mg base CX (k+1) f (W.fnOf name qual params body scope dV kV RP pm an RK ct) ps sp:=by
 refine⟨len,λA outer s H args us vs Q E hr e0 hb r T6=>?_⟩;have hl:=len _ _ _ _ T6;have KX:K.In s.heap:=e0.mod.yF.keeps λb o e=>(e0.bs b o e).1;have lim:s.heap.NoLimit:=e0.mod.nolimit.keeps λb o e=>(e0.bs b o e).1;have hkind:∀ y∈ps.zip us,scope.names.lookup y.1=some .local∨(scope.names.lookup y.1=some .cell/\((cellsFrom (s.heap.objs.size+1) scope.names []).lookup y.1).isSome=true):=λ⟨n,v⟩ hy=>by
   rcases S.par n (List.of_mem_zip hy).1 with q | q
   . exact .inl q
   . exact .inr ⟨q,W.cellsFrom_some _ _ _ (.inl q)⟩
 refine codeAny_call_function hr.depth (KX _ _ lk) rfl S.co S.gen rfl (W.codeRec_of KX Sn) (hb _ _ _ _ ?_);refine wpAny_newFunctionEnv_cells S.kind hkind λenv he s1 x=>?_;subst he;refine⟨lim.keeps x.toInCall.keep,codeAny_func ?_⟩;obtain⟨t,ht,hq⟩:=RO A outer s H vs Q E (hr.deeper _) T6;have I:Inv (eE CX P w K mg base N qual scope f RK A outer s H E) [] (start N vs) H s1:=DL S hr.hd e0 hl r x;refine aaV (ht [] s1 (start N vs) H _ I hq) (λfl s' hs=>?_) λe s' hs=>hs;have RN:∀ {Z':St} {H':Hp} {v:V} {u:Value},Inv (eE CX P w K mg base N qual scope f RK A outer s H E) [] Z' H' s'->RelV v u->Q v H'->CE outer P w H s Q u s' :=
   λ{Z' H' v u} J rv q=>⟨v,H',J.os,J.bare,J.base,J.au,rv,q⟩
 cases fl with
 | ret u =>
   obtain⟨v,Z',H',J,rv,q⟩:=hs;exact RN J rv q
 | next =>
   obtain⟨Z',H',J,q⟩:=hs;exact RN (v:=V.ax) (u:=acg) J rfl q
 | brk =>
   obtain⟨_,_,_,q⟩:=hs;exact abf q
 | cont =>
   obtain⟨_,_,_,q⟩:=hs;exact abf q
section
variable {X:Cx} {x:Str} {p pos:Pos} {e:Expr} {es:List Expr} {t:TA} {id T:String} {r:List V->Hp->VK->Prop}
@[reducible] def Iy (r:List V->Hp->VK->Prop) (t:TA):TE:=λZ H Q=>t Z H λvs H1=>r vs H1 Q
theorem aG (hc : bZ X (.builtin id) r)(hg : Gl X x)(hm : X.mg x = none)(hv : aaY x = some (.builtin id))(ha : PA X (e :: es) t)(hn : x ≠ "__name__" := by decide)(Sd : (x == ("__debug__" : Str)) = false := by decide)
   (he:aas (e::es) X.env=(false,eval e X.env)::aas es X.env:=by rfl) (RM:(backTo pos (aas es X.env)).any (·.1)=false:=by rfl):PE X (.Call (.Name x p) (e::es) [] pos) (Iy r t):=by
 intro dv s Z H Q I h;refine acn (kA I hg hm hv ?_ hn Sd);exact PyProof.Rows.callWith_builtin1 (aL (ha pos dv s Z H _ I h) λus s1 zq=>bF zq λvs H1 I1 r1 q1=>hc dv s1 Z H1 vs us Q I1 r1 q1) he RM
theorem ip (hc : bZ X (.type T) r)(hg : Gl X x)(hm : X.mg x = none)(hv : aaY x = some (.type T))(ha : PA X (e :: es) t)(hn : x ≠ "__name__" := by decide)(Sd : (x == ("__debug__" : Str)) = false := by decide)
   (he:aas (e::es) X.env=(false,eval e X.env)::aas es X.env:=by rfl) (RM:(backTo pos (aas es X.env)).any (·.1)=false:=by rfl):PE X (.Call (.Name x p) (e::es) [] pos) (Iy r t):=by
 intro dv s Z H Q I h;refine acn (kA I hg hm hv ?_ hn Sd);exact abD (aL (ha pos dv s Z H _ I h) λus s1 zq=>bF zq λvs H1 I1 r1 q1=>hc dv s1 Z H1 vs us Q I1 r1 q1) he RM
end
end L2
namespace HT
open PySem PyProof.Rows
section
variable {prog:Program} {w:World} {A:Around} {E:Value->Shared->Prop} {s:Shared}
theorem J5 {t b:Addr}{vs ws:List Value}{Q:Value->Shared->Prop}(ht:IsTup s.heap t vs.toArray)(hb:IsTup s.heap b ws.toArray)(hv:vs≠[])
   (h1:ws=[]->Q (.ref t) s) (h2:ws≠[]->Q (.ref s.heap.objs.size) { s with heap:=s.heap.push { cls:=.type "tuple",data:=.seq (vs++ws).toArray } })
   (hsz:vs.length+ws.length<=aar):wpAny (model prog w) A (abV .Add (.ref t) (.ref b)) Q E s:=by
 obtain⟨⟨cls,dd,data,sl⟩,ho,hc,n,hd⟩:=id ht;obtain⟨⟨cls2,dd2,data2,sl2⟩,ho2,hc2,n2,SI⟩:=id hb;simp only at hc hd hc2 SI;subst hc hd hc2 SI;have e:vs.toArray++ws.toArray=(vs++ws).toArray:=by simp
 by_cases hw:ws=[]
 . exact concat_meets ⟨_,ho,rfl⟩ ⟨_,ho2,rfl⟩ noFill_tuple_add seq_tuple_add PySem.F.slot_tuple_add PySem.F.entry_tuple_add (PySem.F.args_tuple_add_2 _ _)
     (tuple_addW1 t b vs.toArray ws.toArray n n2 dd dd2 sl sl2 (by simpa using hv) (by simp[hw])) ⟨ho,ho2,h1 hw⟩
 . refine concat_meets ⟨_,ho,rfl⟩ ⟨_,ho2,rfl⟩ noFill_tuple_add seq_tuple_add PySem.F.slot_tuple_add PySem.F.entry_tuple_add (PySem.F.args_tuple_add_2 _ _)
     (tuple_addW2 t b vs.toArray ws.toArray n n2 dd dd2 sl sl2 (by simpa using hv) (by simpa using hw) (by rw[aau,aau];exact hsz)) ⟨ho,ho2,?_⟩
   rw[e];exact h2 hw
def bq (n d:Nat):Option Int->Nat
 | none=>d
 | some v=>if v<0 then (v+(n:Int)).toNat else min v.toNat n
theorem Bu (n d k:Nat):bq n d (some (k:Int))=min k n:=by
 show(if (k:Int)<0 then ((k:Int)+(n:Int)).toNat else min (k:Int).toNat n)=min k n;rw[if_neg (by omega),aaA]
theorem K5 (n d:Nat)(hd:d<=n)(o:Option Int):bq n d o<=n:=by
 cases o with
 | none=>exact hd
 | some v =>
   show(if v<0 then (v+(n:Int)).toNat else min v.toNat n)<=n;by_cases hv:v<0
   . rw[if_pos hv];omega
   . rw[if_neg hv];exact Nat.min_le_right _ _
theorem Bi (v:Int)(n d:Nat):(if v<0 then max (v+(n:Int)) 0 else min v (n:Int))=((bq n d (some v):Nat):Int):=by
 show(if v<0 then max (v+(n:Int)) 0 else min v (n:Int))=(((if v<0 then (v+(n:Int)).toNat else min v.toNat n):Nat):Int)
 by_cases hv:v<0
 . simp only[if_pos hv];omega
 . simp only[if_neg hv];omega
theorem Cv (lo hi:Option Int)(n:Nat):acw lo hi 1 (n:Int)=(((bq n 0 lo:Nat):Int),((bq n n hi:Nat):Int)):=by
 have h1 : ¬ ((1:Int)<0):=by omega
 unfold acw;simp only[h1,if_false];refine Prod.ext ?_ ?_
 . cases lo with
   | none=>rfl
   | some v=>exact Bi v n 0
 . cases hi with
   | none=>rfl
   | some v=>exact Bi v n n
theorem Dh (i j:Nat):abN (i:Int) (j:Int) 1=j - i:=by
 unfold abN;have h1:(1:Int) > 0:=by omega
 simp only[h1,if_true,Int.ediv_one];split <;> omega
theorem uE {v:Value}{o:Option Int}{Q:Option Int->Shared->Prop}(p:IsPart v o)(h:Q o s):wpAny (model prog w) A (Builtin.Slice.slicePartIndex v) Q E s:=by
 cases p with
 | none=>exact slicePart_none h
 | int i t=>exact slicePart_int h
theorem rX {sl:Addr}{vl vu:Value}{lo hi:Option Int}{n:Nat}{Q:Int×Int×Nat->Shared->Prop}(hs:s.heap.IsSliceOf sl vl vu .none)(pl:IsPart vl lo)(pu:IsPart vu hi)
   (h:Q (((bq n 0 lo:Nat):Int),1,bq n n hi - bq n 0 lo) s):wpAny (model prog w) A (Builtin.Slice.sliceApplied (.ref sl) (pure (n:Int))) Q E s:=by
 obtain⟨os,T7,hcs,hds⟩:=id hs;unfold Builtin.Slice.sliceApplied Builtin.Slice.sliceFields;refine aaf (aaf (acd T7 hds (x:=vl) rfl (aaf (acd T7 hds (x:=vu) rfl (aaf (acd T7 hds (x:=.none) rfl (aat ?_)))))));refine aaf (slicePart_none ?_);show wpAny _ _ (if ((1:Int) == 0)=true then _ else _) _ _ s;rw[if_neg (by decide)];refine aaf (uE pl (aaf (uE pu (aaf (aat ?_)))));show wpAny _ _ (match acw lo hi 1 (n:Int) with | (lo,hi)=>pure (lo,(1:Int),abN lo hi 1)) _ _ s;rw[Cv lo hi n];show wpAny _ _ (pure (((bq n 0 lo:Nat):Int),(1:Int),abN ((bq n 0 lo:Nat):Int) ((bq n n hi:Nat):Int) 1)) _ _ s;rw[Dh];exact aat h
theorem GY (xs:Array Value)(i k:Nat):((aaU k).filterMap λ(m:Nat)=>xs[((i:Int)+(m:Int)*1).toNat]?).toArray=((xs.toList.drop i).take k).toArray:=by
 have e:(λ(m:Nat)=>xs[((i:Int)+(m:Int)*1).toNat]?)=λm=>xs[i+m]?:=by
   funext m
   have:((i:Int)+(m:Int)*1).toNat=i+m:=by omega
   rw[this]
 rw[e]
 have:=pick_run xs i k
 rw[adD] at this;have e2:((λx=>xs[x]?) ∘ λx=>i+x)=λm=>xs[i+m]?:=rfl;rw[e2] at this;rw[this]
theorem qf {t sl:Addr}{items:Array Value}{vl vu:Value}{lo hi:Option Int}{Q:Value->Shared->Prop}(ht:IsTup s.heap t items)(hs:s.heap.IsSliceOf sl vl vu .none)(pl:IsPart vl lo)(pu:IsPart vu hi)
   (hw : ¬ (bq items.size 0 lo=0/\bq items.size items.size hi=items.size))
   (h:Q (.ref s.heap.objs.size) { s with heap:=s.heap.push { cls:=.type "tuple",data:=.seq ((items.toList.drop (bq items.size 0 lo)).take (bq items.size items.size hi - bq items.size 0 lo)).toArray } })
   (hsz:items.size<=aar):wpAny (model prog w) A (getItem (.ref t) (.ref sl)) Q E s:=by
 have T_:sizeOk (.seq ((items.toList.drop (bq items.size 0 lo)).take (bq items.size items.size hi - bq items.size 0 lo)).toArray):=by
   show((items.toList.drop (bq items.size 0 lo)).take (bq items.size items.size hi - bq items.size 0 lo)).toArray.size<=aar;rw[aau,aaC,ac3,ab2];omega
 have hj:bq items.size items.size hi<=items.size:=K5 _ _ (aai _) hi;obtain⟨os,T7,hcs,hds⟩:=id hs;have hTs:s.TypeIs (.ref sl) "slice":=⟨os,T7,hcs⟩
 unfold getItem
 try with_reducible refine abw ?_
 first | refine aaf (aat ?_) | skip
 refine aaf (wpAny_sequenceKey ht.typeIs (by decide) ?_)
 refine aaf (acq (name:=abS "__getitem__") ht.typeIs PyProof.Rows.slot_tuple_getitem
   (acH PyProof.Rows.slot_tuple_getitem ht.typeIs entry_tuple_getitem ?_ (args_tuple_getitem _ _)))
 show wpAny _ _ (Builtin.Tuple.tupleItemsOf (.ref t) >>= _) _ _ s;refine aaf (tupleItemsOf_ ht ?_);refine aaf (wpAny_typeOf hTs ?_);rw[if_pos (by decide)];refine aaf (rX hs pl pu ?_);have WG : ¬ ((((bq items.size 0 lo:Nat):Int) == 0 && (1:Int) == 1 && (bq items.size items.size hi - bq items.size 0 lo) == items.size)=true):=by
   intro q;rw[aah,aah] at q;have q1:((bq items.size 0 lo:Nat):Int)=0:=eq_of_beq q.1.1;have q2:bq items.size items.size hi - bq items.size 0 lo=items.size:=eq_of_beq q.2;exact hw ⟨by omega,by omega⟩
 show wpAny _ _ (if (((bq items.size 0 lo:Nat):Int) == 0 && (1:Int) == 1 && (bq items.size items.size hi - bq items.size 0 lo) == items.size)=true then _ else _) _ _ s;rw[if_neg WG,GY]
 first
   | exact aaf (m:=abR _) (abF (aat ⟨_,rfl,aat h⟩) T_)
   | exact aaf (m:=abR _) (abF (aaf (aat (aat ⟨_,rfl,aat h⟩))) T_)
   | exact aaf (aaf (m:=abR _) (abF (aat (aat ⟨_,rfl,aat h⟩)) T_))
   | exact aaf (aaf (m:=abR _) (abF (aat ⟨_,rfl,aat h⟩) T_))
end
end HT
namespace L2
open PySem PySem.Spec PyProof.Rows
abbrev TO:=St->Hp->(Option Int->Hp->Prop)->Prop
def PO (X:Cx)(e:Option Expr)(t:TO):Prop :=
 ∀ (dv:List (Addr×Obj)) (s:Shared) (Z : St) (H:Hp) (Q:Option Int->Hp->Prop),Inv X dv Z H s->t Z H Q ->
   wpAny (model X.prog X.w) X.A (evalPart e X.env) (λu s'=>∃ o H',Inv X dv Z H' s'/\IsPart u o/\Q o H') X.xe s
@[reducible] def Jo:TO:=λ_ H Q=>Q none H
@[reducible] def O5 (t:TE):TO:=λZ H Q=>t Z H λx H1=>E2 x λi=>Q (some i) H1
section
variable {X:Cx} {e:Expr} {te:TE} {lo hi:Option Expr} {tl th:TO} {pos p2:Pos}
theorem vm:PO X none Jo:=by
 intro dv s Z H Q I h;rw[evalPart_none];exact aat ⟨none,H,I,.none,h⟩
theorem vF (h:PE X e te):PO X (some e) (O5 te):=by
 intro dv s Z H Q I hw;rw[evalPart_some];refine aL (h dv s Z H _ I hw) λu s1 zq=>bF zq λx H1 I1 r1 q1=>?_;obtain⟨i,rfl,q⟩:=ug q1;obtain⟨t,rfl⟩:=r1;exact⟨some i,H1,I1,.int i t,q⟩
def ud (X:Cx)(r:V->Option Int->Option Int->Hp->VK->Prop):Prop :=
 ∀ (dv:List (Addr×Obj)) (s:Shared) (Z : St) (H:Hp) (x:V) (v vl vu:Value) (lo hi:Option Int) (sl:Addr) (Q:VK),Inv X dv Z H s->RelV x v->s.heap.IsSliceOf sl vl vu .none->IsPart vl lo->IsPart vu hi->r x lo hi H Q ->
   ∃ T id,typeLookup (.type T) "__getitem__" = pure (some (.builtin id))/\s.TypeIs v T/\wpAny (model X.prog X.w) X.A (getItem v (.ref sl)) (EP X dv Z Q) X.xe s
theorem ud.or {r r':V->Option Int->Option Int->Hp->VK->Prop}(h:ud X r)(h':ud X r'):ud X (λx lo hi H Q=>r x lo hi H Q∨r' x lo hi H Q):=by
 intro dv s Z H x v vl vu lo hi sl Q I rx hs pl pu q;rcases q with q | q
 . exact h dv s Z H x v vl vu lo hi sl Q I rx hs pl pu q
 . exact h' dv s Z H x v vl vu lo hi sl Q I rx hs pl pu q
@[reducible] def Ry (r:V->Option Int->Option Int->Hp->VK->Prop) (te:TE) (tl th:TO):TE:=λZ H Q=>te Z H λx H1=>tl Z H1 λl H2=>th Z H2 λu H3=>r x l u H3 Q
theorem rZ {r:V->Option Int->Option Int->Hp->VK->Prop}(hr:ud X r)(he:PE X e te)(hl:PO X lo tl)(hu:PO X hi th):PE X (.Subscript e (.Slice lo hi none p2) pos) (Ry r te tl th):=by
 intro dv s Z H Q I h;refine Subscript_ (aL (he dv s Z H _ I h) λv s1 zq=>bF zq λx H1 I1 r1 q1=>?_);refine wpAny_Slice (aL (hl dv s1 Z H1 _ I1 q1) λvl s2 zq=>bF zq λl H2 I2 pl q2=>aL (hu dv s2 Z H2 _ I2 q2) λvu s3 zq=>bF zq λu H3 I3 pu q3=>?_);rw[evalPart_none];refine aat ?_;have I4:Inv X dv Z H3 { s3 with heap:=s3.heap.push { cls:=.type "slice",data:=.fields #[vl,vu,.none] } }:=I3.kept (t':=s3.toks) λb ob q=>aaj _ q;obtain⟨T,id,hT,ht,hg⟩:=hr dv { s3 with heap:=s3.heap.push { cls:=.type "slice",data:=.fields #[vl,vu,.none] } } Z H3 x v vl vu l u s3.heap.objs.size Q I4 r1 (Heap.IsSliceOf.new ..) pl pu q3;show wpAny (model X.prog X.w) X.A (subscriptTail e (.Slice lo hi none p2) v (.ref s3.heap.objs.size)) (EP X dv Z Q) X.xe { s3 with heap:=s3.heap.push { cls:=.type "slice",data:=.fields #[vl,vu,.none] } };exact tail_any (ops:=[.ref s3.heap.objs.size,v]) ht hT hg (by with_unfolding_all rfl)
def cE (xs:List V)(lo hi:Option Int):List V:=(xs.drop (HT.bq xs.length 0 lo)).take (HT.bq xs.length xs.length hi - HT.bq xs.length 0 lo)
theorem kf (xs:List V)(lo hi:Option Int):(cE xs lo hi).length<=xs.length:=by
 unfold cE;rw[aaC,ac3];omega
def Me (K:W.Frag):V->Option Int->Option Int->Hp->VK->Prop:=λx lo hi H Q=>∃ a xs,x=.ref a/\az K H a xs /\
 ¬ (HT.bq xs.length 0 lo=0/\HT.bq xs.length xs.length hi=xs.length)/\∀ p,H p=none->Q (.ref p) (upd H p (.tup (cE xs lo hi)))
theorem KS:ud X (Me X.K):=by
 intro dv s Z H x v vl vu lo hi sl Q I rx hs pl pu h;obtain⟨a,xs,rfl,hx,hw,q⟩:=h;cases rx
 obtain⟨its,r,ht,hz⟩:=I.tuple hx;have Bn:its.toArray.size=xs.length:=by rw[aau];exact r.length.symm
 refine⟨"tuple",_,PyProof.Rows.slot_tuple_getitem.lookup,ht.typeIs,?_⟩;refine HT.qf ht hs pl pu (by rw[Bn];exact hw) ?_ (by rw[Bn];exact hz);rw[Bn];refine⟨.ref s.heap.objs.size,_,I.laid (t':=s.toks) (o:=.tup (cE xs lo hi)) (λb ob q=>aaj _ q) (aai _) ?_,rfl,q _ (I.au.fresh (aai _))⟩;exact⟨aaR (kf xs lo hi) hz,_,(r.drop (HT.bq xs.length 0 lo)).take (HT.bq xs.length xs.length hi - HT.bq xs.length 0 lo),IsTup.new _ _⟩
def Ij (K:W.Frag):R2:=λx y H Q=>∃ a b xs ys,x=.ref a/\y=.ref b/\az K H a xs/\az K H b ys/\xs≠[]/\xs.length+ys.length<=aar /\
 (ys=[]->Q (.ref a) H)/\(ys≠[]->∀ p,H p=none->Q (.ref p) (upd H p (.tup (xs++ys))))
variable {xs:List V}
theorem aE.vi {us:List Value}(r:aE xs us):us=[] ↔ xs=[]:=by
 cases r with
 | nil=>simp
 | cons _ _=>simp
theorem Kp:bO X (abV .Add) (Ij X.K):=by
 intro dv s Z H x y v u Q I rx ry h;obtain⟨a,b,xs,ys,rfl,rfl,ha,hb,hx,hz,q1,q2⟩:=h;cases rx
 cases ry
 obtain⟨its,r1,p1,_⟩:=I.tuple ha;obtain⟨Td,r2,p2,_⟩:=I.tuple hb;refine HT.J5 p1 p2 (λz=>hx (r1.vi.mp z)) (λz=>⟨.ref a,H,I,rfl,q1 (r2.vi.mp z)⟩) (λz=>?_) (by rw[<- r1.length,<- r2.length];exact hz);refine⟨.ref s.heap.objs.size,_,I.laid (t':=s.toks) (o:=.tup (xs++ys)) (λb ob q=>aaj _ q) (aai _) ?_,rfl,q2 (λw=>z (r2.vi.mpr w)) _ (I.au.fresh (aai _))⟩;exact⟨by rw[aab];exact hz,_,r1.append r2,IsTup.new _ _⟩
end
def mC (n:Nat)(i:Int):Option Nat:=if 0<=i then (if i<n then some i.toNat else none) else if -(n:Int)<=i then some (i+n).toNat else none
def cI {α : Type}(xs:List α)(i:Int):Option α:=(mC xs.length i).bind λj=>xs[j]?
variable {n:Nat}
theorem BO {i:Int}{j:Nat}(h:mC n i=some j):seqIndex? i n=some j/\j<n/\-(n:Int)<=i/\i<n:=by
 unfold mC at h;by_cases h0 : 0<=i
 . rw[if_pos h0] at h;by_cases h1:i<n
   . rw[if_pos h1] at h;have e:i.toNat=j:=aap h;exact⟨by rw[seqIndex_of h0 h1,e],by omega,by omega,h1⟩
   . rw[if_neg h1] at h;cases h
 . rw[if_neg h0] at h;by_cases h1 : -(n:Int)<=i
   . rw[if_pos h1] at h;have e:(i+n).toNat=j:=aap h;exact⟨by rw[seqIndex_neg (by omega) h1,e],by omega,h1,by omega⟩
   . rw[if_neg h1] at h;cases h
theorem vf {α : Type}{xs:List α}{i:Int}{v : α}(h:cI xs i=some v):∃ j,seqIndex? i xs.length=some j/\xs[j]? = some v/\j<xs.length/\-(xs.length:Int)<=i/\i<xs.length:=by
 unfold cI at h;cases e:mC xs.length i with
 | none=>rw[e] at h;cases h
 | some j =>
   rw[e] at h;obtain⟨h1,h2,h3,h4⟩:=BO e;exact⟨j,h1,h,h2,h3,h4⟩
theorem cA {α : Type}{xs:List α}{j:Nat}{v : α}(h:xs[j]? = some v):cI xs (j:Int)=some v:=by
 have hj:j<xs.length:=(List.getElem?_eq_some_iff.mp h).1;have e:mC xs.length (j:Int)=some j:=by
   unfold mC;rw[if_pos (by omega),if_pos (by omega)];simp
 unfold cI;rw[e];exact h
def Kv (b:Expr):Prop:=∀ o i,subscripted b false o i=operate [o,i] (getItem o i)
def m9 (X:Cx)(r:R2):Prop :=
 ∀ (value RT:Expr) (dv:List (Addr×Obj)) (s:Shared) (Z : St) (H:Hp) (x y:V) (v u:Value) (Q:VK),Inv X dv Z H s->RelV x v->RelV y u->r x y H Q ->
   subscripted RT false v u=operate [v,u] (getItem v u)->wpAny (model X.prog X.w) X.A (subscriptTail value RT v u) (EP X dv Z Q) X.xe s
def AY (X:Cx)(id:String)(r:V->List V->Hp->VK->Prop):Prop :=
 ∀ (dv:List (Addr×Obj)) (s:Shared) (Z : St) (H:Hp) (x:V) (xs:List V) (v:Value) (us:List Value) (Q:VK),Inv X dv Z H s->RelV x v->aE xs us->r x xs H Q ->
   wpAny (model X.prog X.w) X.A (call (.builtin id) (v::us)) (EP X dv Z Q) X.xe s
section
variable {X:Cx} {a b:Expr} {ta tb:TE} {pos:Pos}
theorem m9.or {r r':R2}(h:m9 X r)(h':m9 X r'):m9 X (λx y H Q=>r x y H Q∨r' x y H Q):=by
 intro value RT dv s Z H x y v u Q I rx ry q hs;rcases q with q | q
 . exact h value RT dv s Z H x y v u Q I rx ry q hs
 . exact h' value RT dv s Z H x y v u Q I rx ry q hs
theorem bt {r:R2}(hr:m9 X r)(ha:PE X a ta)(hb:PE X b tb)(hs:Kv b):PE X (.Subscript a b pos) (Bc r ta tb):=by
 intro dv s Z H Q I h;exact Subscript_ (G1 ha hb I h λv u s2 x y H2 I2 rx ry q=>hr a b dv s2 Z H2 x y v u Q I2 rx ry q (hs _ _))
def L8 (K:W.Frag):R2:=λx y H Q=>∃ p xs i v,x=.ref p/\y=.int i/\av K H p xs/\cI xs i=some v/\Q v H
def MF (K:W.Frag):R2:=λx y H Q=>∃ p xs i v,x=.ref p/\y=.int i/\az K H p xs/\cI xs i=some v/\Q v H
def K_:R2:=λx y H Q=>∃ z i c,x=.str z/\y=.int i/\z.length<=aar/\cI z.cps.toList i=some c/\Q (.str ⟨#[c]⟩) H
theorem Jz:m9 X (L8 X.K):=by
 intro value RT dv s Z H x y v u Q I rx ry h hs;obtain⟨p,xs,i,z,rfl,rfl,hq,he,q⟩:=h;cases rx
 obtain⟨t,rfl⟩:=ry;obtain⟨its,r,pl,hz⟩:=I.list hq;obtain⟨j,h1,h2,h3,h4,h5⟩:=vf he;obtain⟨w,ew,Tt⟩:=r.get h2;have hl:=r.length;have hn:=lJ;have RN:EP X dv Z Q w s:=⟨z,H,I,Tt,q⟩
 by_cases h0 : 0<=i
 . have hj : i.toNat = j := by
     rw[seqIndex_of h0 h5] at h1;exact aap h1
   exact item_listR pl.isList h0 (by omega) (by rw[hj];simpa using ew) RN hs
 . have hj : (i + (its.toArray.size : Int)).toNat = j := by
     rw[seqIndex_neg (by omega) h4] at h1;rw[aau,<- hl];exact aap h1
   exact ado (x:=w) pl.isList.typeIs slot_list_getitem.lookup
     (wpAny_getItem_list_neg (Q:=λr s'=>r=w/\EP X dv Z Q r s') pl.isList (by omega) (by rw[aau] <;> omega) (by omega) (by rw[hj];simpa using ew) ⟨rfl,RN⟩) hs
theorem MY:m9 X (MF X.K):=by
 intro value RT dv s Z H x y v u Q I rx ry h hs;obtain⟨p,xs,i,z,rfl,rfl,hq,he,q⟩:=h;cases rx
 obtain⟨t,rfl⟩:=ry;obtain⟨its,r,pl,hz⟩:=I.tuple hq;obtain⟨j,h1,h2,h3,h4,h5⟩:=vf he;obtain⟨w,ew,Tt⟩:=r.get h2;have hl:=r.length;have hn:=lJ;have RN:EP X dv Z Q w s:=⟨z,H,I,Tt,q⟩
 exact ado (x:=w) pl.typeIs slot_tuple_getitem.lookup
   (getItem_tuple (j:=j) (Q:=λr s'=>r=w/\EP X dv Z Q r s') pl (by omega) (by omega) (by rw[aau,<- hl];exact h1) (by simpa using ew) ⟨rfl,RN⟩) hs
theorem Mz:m9 X K_:=by
 intro value RT dv s Z H x y v u Q I rx ry h hs;obtain⟨z,i,c,rfl,rfl,hz,he,q⟩:=h;obtain⟨t,rfl⟩:=rx;obtain⟨t',rfl⟩:=ry;obtain⟨j,h1,h2,h3,h4,h5⟩:=vf he;have hl:z.cps.toList.length=z.length:=by simp[Str.length]
 rw[hl] at h1 h4 h5;have hn:=lJ;exact tail_any (typeIs_str s z t) slot_str_getitem.lookup (getItem_str (c:=c) (by
   have e1:decide (i < -(2 ^ 63:Int))=false:=decide_eq_false (by omega);have e2:decide (i ≥ 2 ^ 63)=false:=decide_eq_false (by omega);rw[e1,e2,Bool.or_false]) (by rw[h1];simpa using h2) ⟨.str ⟨#[c]⟩,H,I.tok _,⟨_,rfl⟩,q⟩) hs
def Pj (K:W.Frag):R2:=λx y H Q=>L8 K x y H Q∨MF K x y H Q∨K_ x y H Q
theorem Nc:m9 X (Pj X.K):=Jz.or (MY.or Mz)
theorem CK (its:List Value)(n j:Nat)(u:Value):adl (·.setIfInBounds j u) { cls:=.type "list",data:=.seq its.toArray n }={ cls:=.type "list",data:=.seq (its.set j u).toArray n }:=by
 simp[adl]
variable {xs:List V} {s:Shared} {H:Hp} {Z : St} {dv:List (Addr×Obj)}
theorem Inv.lst {p:Addr}(I:Inv X dv Z H s)(h:H p=some (.lst xs)) :
   ∃ (its:List Value) (n:Nat),aE xs its/\s.heap.get? p=some { cls:=.type "list",data:=.seq its.toArray n }/\xs.length<=aar:=by
 obtain⟨z,its,n,r,e⟩:=I.au p _ h;exact⟨its,n,r,e,z⟩
theorem Inv.Mh {p:Addr}{ys:List V}{its its':List Value}{n n':Nat}{f:Obj->Obj}(I:Inv X dv Z H s)(h:H p=some (.lst xs))
   (ho:s.heap.get? p=some { cls:=.type "list",data:=.seq its.toArray n }) (hf:f { cls:=.type "list",data:=.seq its.toArray n }={ cls:=.type "list",data:=.seq its'.toArray n' }) (r:aE ys its') (hz:ys.length<=aar) (t:Nat) :
   Inv X dv Z (upd H p (.lst ys)) { s with heap:=s.heap.update p f,toks:=t }:=by
 have e:(s.heap.update p f).get? p=some { cls:=.type "list",data:=.seq its'.toArray n' }:=by
   rw[ade f ho (by rw[hf] <;> rfl),hf]
 refine I.write (x:=p) (e:=p) (by rw[h];trivial) (.inl rfl) (λb u hb q=>(Heap.get?_update_other _ _ (Ne.symm hb)).trans q) ⟨_,e⟩ ?_;exact⟨hz,its',n',r,e⟩
def Iz:V->V->V->Hp->(Hp->Prop)->Prop:=λo i v H Q=>∃ p xs k j,o=.ref p/\i=.int k/\H p=some (.lst xs)/\mC xs.length k=some j/\Q (upd H p (.lst (xs.set j v)))
theorem set_list:MI X Iz:=by
 intro dv s Z H o i v ov iv u Q I ro ri rv h;obtain⟨p,xs,k,j,rfl,rfl,hp,hj,q⟩:=h;cases ro
 obtain⟨t,rfl⟩:=ri;obtain⟨its,n,r,ho,hz⟩:=I.lst hp;obtain⟨h1,h2,h3,h4⟩:=BO hj;have hl:=r.length;have hn:=lJ;have I':Inv X dv Z (upd H p (.lst (xs.set j v))) { s with heap:=s.heap.update p (adl (·.setIfInBounds j u)) } :=
   I.Mh hp ho (CK its n j u) (r.set rv j) (by rw[abx];exact hz) s.toks
 by_cases h0 : 0<=k
 . have hk : k.toNat = j := by
     rw[seqIndex_of h0 h4] at h1;exact aap h1
   exact W.ki_setAt ho h0 (by omega) (by rw[aau,<- hl];exact h4) (by rw[hk];exact⟨_,I',q⟩)
 . have hk : (k + (its.toArray.size : Int)).toNat = j := by
     rw[seqIndex_neg (by omega) h3] at h1;rw[aau,<- hl];exact aap h1
   exact W.ki_setBack ho (by omega) (by rw[aau,<- hl];exact h3) (by omega) (by rw[hk];exact⟨_,I',q⟩)
theorem yc (lo hi:Option Int)(n:Nat):(acU lo hi none n).1=((HT.bq n 0 lo:Nat):Int)/\(acU lo hi none n).2.1=((HT.bq n n hi:Nat):Int)/\(acU lo hi none n).2.2=1:=by
 refine⟨?_,?_,rfl⟩
 . cases lo with
   | none=>simp[acU,HT.bq]
   | some i =>
     simp only[acU,HT.bq,Option.getD_none,show(1:Int) > 0 by decide,if_true];by_cases h:i<0
     . simp only[h,if_true] <;> omega
     . simp only[h,if_false] <;> omega
 . cases hi with
   | none=>simp[acU,HT.bq]
   | some i =>
     simp only[acU,HT.bq,Option.getD_none,show(1:Int) > 0 by decide,if_true];by_cases h:i<0
     . simp only[h,if_true] <;> omega
     . simp only[h,if_false] <;> omega
theorem xj (its:List Value)(lo hi:Option Int):slicePick its.toArray lo hi none=((its.drop (HT.bq its.length 0 lo)).take (HT.bq its.length its.length hi - HT.bq its.length 0 lo)).toArray:=by
 obtain⟨h1,h2,h3⟩:=yc lo hi its.toArray.size;unfold slicePick;rw[h1,h2,h3];simp only[sliceRange_one,pick_run,aau] <;> rfl
def K6 (K:W.Frag):V->Option Int->Option Int->Hp->VK->Prop:=λx lo hi H Q=>∃ a xs,x=.ref a/\av K H a xs/\∀ p,H p=none->Q (.ref p) (upd H p (.lst (cE xs lo hi)))
theorem JU:ud X (K6 X.K):=by
 intro dv s Z H x v vl vu lo hi sl Q I rx hs pl pu h;obtain⟨a,xs,rfl,hx,q⟩:=h;cases rx
 obtain⟨its,r,ht,hz⟩:=I.list hx;have Bn:=r.length;refine⟨"list",_,slot_list_getitem.lookup,ht.isList.typeIs,?_⟩;refine wpAny_getItem_list_slice ht.isList hs pl pu .none (by simp) ?_ (by rw[aau] <;> omega);rw[xj,<- Bn];refine⟨.ref s.heap.objs.size,_,I.laid (t':=s.toks) (o:=.lst (cE xs lo hi)) (λb ob q=>aaj _ q) (aai _) ?_,rfl,q _ (I.au.fresh (aai _))⟩;exact⟨aaR (kf xs lo hi) hz,_,0,(r.drop (HT.bq xs.length 0 lo)).take (HT.bq xs.length xs.length hi - HT.bq xs.length 0 lo),aay _ rfl⟩
def fJ:V->Bool
 | .ax=>true
 | .bl _=>true
 | .int _=>true
 | .str _=>true
 | _=>false
def nF:V->V->Bool
 | .ax,.ax=>true
 | .bl a,.bl b=>a == b
 | .bl a,.int b=>(if a then 1 else 0) == b
 | .int a,.bl b=>a == (if b then 1 else 0)
 | .int a,.int b=>a == b
 | .str a,.str b=>a == b
 | _,_=>false
variable {u:Value} {y x:V}
theorem MD {A:Around}{v:Value}(ry:RelV y u)(rx:RelV x v)(fy:fJ y=true)(fx:fJ x=true):SeqAt.EqAt A s u v (nF y x):=by
 cases y with
 | ax =>
   cases ry
   cases x with
   | ax=>cases rx;exact SeqAt.EqAt.same _
   | bl b=>cases rx;exact SeqAt.EqAt.none_bool b
   | int b=>obtain⟨t,rfl⟩:=rx;exact SeqAt.EqAt.none_int b t
   | str b=>obtain⟨t,rfl⟩:=rx;exact SeqAt.EqAt.none_str b t
   | _=>exact absurd (show false=true from fx) aaw
 | bl a =>
   cases ry
   cases x with
   | ax=>cases rx;exact SeqAt.EqAt.bool_none a
   | bl b=>cases rx;exact SeqAt.EqAt.bool_bool a b
   | int b=>obtain⟨t,rfl⟩:=rx;exact SeqAt.EqAt.bool_int a b t
   | str b=>obtain⟨t,rfl⟩:=rx;exact SeqAt.EqAt.bool_str a b t
   | _=>exact absurd (show false=true from fx) aaw
 | int a =>
   obtain⟨t',rfl⟩:=ry;cases x with
   | ax=>cases rx;exact SeqAt.EqAt.int_none a t'
   | bl b=>cases rx;exact SeqAt.EqAt.int_bool a t' b
   | int b=>obtain⟨t,rfl⟩:=rx;exact SeqAt.EqAt.int_int a t' b t
   | str b=>obtain⟨t,rfl⟩:=rx;exact SeqAt.EqAt.int_str a t' b t
   | _=>exact absurd (show false=true from fx) aaw
 | str a =>
   obtain⟨t',rfl⟩:=ry;cases x with
   | ax=>cases rx;exact SeqAt.EqAt.str_none a t'
   | bl b=>cases rx;exact SeqAt.EqAt.str_bool a t' b
   | int b=>obtain⟨t,rfl⟩:=rx;exact SeqAt.EqAt.str_int a t' b t
   | str b=>obtain⟨t,rfl⟩:=rx;exact SeqAt.EqAt.str_str a t' b t
   | _=>exact absurd (show false=true from fx) aaw
 | _=>exact absurd (show false=true from fy) aaw
def i_ (x:V)(u:Value):Bool:=match u with
 | .none=>nF .ax x
 | .bool b=>nF (.bl b) x
 | .int i _=>nF (.int i) x
 | .str z _=>nF (.str z) x
 | _=>false
theorem Fu (r:RelV y u)(f:fJ y=true):i_ x u=nF y x:=by
 cases y with
 | ax=>cases r;rfl
 | bl b=>cases r;rfl
 | int i=>obtain⟨t,rfl⟩:=r;rfl
 | str z=>obtain⟨t,rfl⟩:=r;rfl
 | _=>exact absurd (show false=true from f) aaw
theorem lj:∀ {xs:List V} {us:List Value},aE xs us->xs.all fJ=true->us.any (i_ x)=xs.any λy=>nF y x
 | _,_,.nil,_=>rfl
 | y :: xs, u :: us, .cons r t, f => by
   rw[abB,aah] at f;rw[abh,abh,Fu r f.1,lj t f.2]
theorem jh {A:Around}{v:Value}(rx:RelV x v)(fx:fJ x=true):∀ {xs:List V} {us:List Value},aE xs us->xs.all fJ=true->∀ u∈us,SeqAt.EqAt A s u v (i_ x u)
 | _,_,.nil,_=>λu hu=>by cases hu
 | y :: xs, u :: us, .cons r t, f => λu' hu => by
   rw[abB,aah] at f;rcases List.mem_cons.mp hu with rfl | hu
   . rw[Fu r f.1];exact MD r rx f.1 fx
   . exact jh rx fx t f.2 u' hu
def qh (x:V)(xs:List V):Bool:=xs.any λy=>nF y x
def El (K:W.Frag)(neg:Bool):R2:=λx y H Q=>∃ p xs,y=.ref p/\(av K H p xs∨az K H p xs)/\fJ x=true/\xs.all fJ=true/\Q (.bl (if neg then !qh x xs else qh x xs)) H
theorem FT:bO X (aa2 .In) (El X.K false):=by
 intro dv s Z H x y v u Q I rx ry h;obtain⟨p,xs,rfl,hq,fx,fs,q⟩:=h;cases ry
 rcases hq with hq | hq
 . obtain⟨its, r, pl, hz⟩ := I.list hq;refine SeqAt.in_listAt (i_ x) pl.isList (λw hw=>jh rx fx r fs w (by simpa using hw)) ⟨.bl _,H,I,rfl,?_⟩;rw[show its.toArray.any (i_ x)=its.any (i_ x) by simp,lj r fs];exact q
 . obtain⟨its, r, pl, hz⟩ := I.tuple hq;refine SeqAt.in_tupleAt (i_ x) pl (λw hw=>jh rx fx r fs w (by simpa using hw)) ⟨.bl _,H,I,rfl,?_⟩;rw[show its.toArray.any (i_ x)=its.any (i_ x) by simp,lj r fs];exact q
theorem yK:bO X (aa2 .NotIn) (El X.K true):=by
 intro dv s Z H x y v u Q I rx ry h;obtain⟨p,xs,rfl,hq,fx,fs,q⟩:=h;cases ry
 rcases hq with hq | hq
 . obtain⟨its, r, pl, hz⟩ := I.list hq;refine SeqAt.notIn_listAt (i_ x) pl.isList (λw hw=>jh rx fx r fs w (by simpa using hw)) ⟨.bl _,H,I,rfl,?_⟩;rw[show its.toArray.any (i_ x)=its.any (i_ x) by simp,lj r fs];exact q
 . obtain⟨its, r, pl, hz⟩ := I.tuple hq;refine SeqAt.notIn_tupleAt (i_ x) pl (λw hw=>jh rx fx r fs w (by simpa using hw)) ⟨.bl _,H,I,rfl,?_⟩;rw[show its.toArray.any (i_ x)=its.any (i_ x) by simp,lj r fs];exact q
theorem yV:bZ X (.type "list") (λxs H Q=>∃ p ys,xs=[.ref p]/\(av X.K H p ys∨az X.K H p ys)/\∀ l,H l=none->Q (.ref l) (upd H l (.lst ys))):=by
 intro dv s Z H xs us Q I r h;obtain⟨p,ys,rfl,hq,q⟩:=h;obtain⟨u,rfl,rx⟩:=vals1 r;cases rx
 have RN : ∀ (its : List Value), aE ys its -> ys.length <= aar -> ∀ (h' : Heap) (c' : Nat), (∀ b o', s.heap.get? b = some o' -> h'.get? b = some o') ->
     h'.get? s.heap.objs.size=some { cls:=.type "list",dict:=none,data:=.seq its.toArray c',slots:=#[] }->EP X dv Z Q (.ref s.heap.objs.size) { s with heap:=h' }:=λits r' hz h' c' kp e =>
   ⟨.ref s.heap.objs.size,_,I.laid (t':=s.toks) kp (aai _) (show bM X.prog X.w _ h' _ (.lst ys) from⟨hz,its,c',r',e⟩),rfl,q _ (I.au.fresh (aai _))⟩
 rcases hq with hq | hq
 . obtain⟨its, r', pl, hz⟩ := I.list hq;have Bn:=r'.length;obtain⟨o,ho,hc,n,hd⟩:=pl.isList;exact call_list_seq p (.inl rfl) ho hc hd (λh' c' kp e=>RN its r' hz h' c' kp e) (by simp only[aau] <;> omega)
 . obtain⟨its, r', pl, hz⟩ := I.tuple hq;have Bn:=r'.length;obtain⟨o,ho,hc,n,hd⟩:=pl;exact call_list_seq p (.inr rfl) ho hc hd (λh' c' kp e=>RN its r' hz h' c' kp e) (by simp only[aau] <;> omega)
theorem xy:bZ X (.type "tuple") (λxs H Q=>∃ p ys,xs=[.ref p]/\((av X.K H p ys/\∀ l,H l=none->Q (.ref l) (upd H l (.tup ys)))∨(az X.K H p ys/\Q (.ref p) H))):=by
 intro dv s Z H xs us Q I r h;obtain⟨p,ys,rfl,h⟩:=h;obtain⟨u,rfl,rx⟩:=vals1 r;cases rx
 rcases h with ⟨hq,q⟩ | ⟨hq,q⟩
 . obtain⟨its, r', pl, hz⟩ := I.list hq;have Bn:=r'.length;refine call_tuple_list pl.isList (λh' kp=>?_) (by simp only[aau] <;> omega);have I1:Inv X dv Z H { s with heap:=h' }:=I.kept (t':=s.toks) kp;have I2:Inv X dv Z (upd H h'.objs.size (.tup ys)) { s with heap:=h'.push { cls:=.type "tuple",data:=.seq its.toArray } } :=
     I1.laid (t':=s.toks) (λb o e=>aaj _ e) (aai _) (show bM X.prog X.w _ _ _ (.tup ys) from⟨hz,its,r',IsTup.new _ _⟩)
   exact⟨.ref h'.objs.size,_,I2,rfl,q _ (I1.au.fresh (aai _))⟩
 . obtain⟨its, r', pl, hz⟩ := I.tuple hq;exact call_tuple_same pl ⟨.ref p,H,I,rfl,q⟩
def Eg (K:W.Frag)(T:String)(x:V)(H:Hp):Prop:=match x with
 | .str _=>T = "str"
 | .int _=>T = "int"
 | .ref p=>(T = "list"/\∃ xs,av K H p xs)∨(T = "tuple"/\∃ o,K.lookup p=some o/\o.cls=.type "tuple"/\o.dict=none) ∨
     (T = "dict"/\((∃ kvs,H p=some (.dK kvs))∨∃ kvs,H p=some (.dT kvs)))∨(T = "set"/\∃ S n,H p=some (.set S n))
 | _=>False
theorem zM {T:String}{v:Value}(I:Inv X dv Z H s)(r:RelV x v)(ty:Eg X.K T x H) :
   s.TypeIs v T/\∀ a,v=.ref a->∃ ob,s.heap.get? a=some ob/\ob.dict=none:=by
 cases x with
 | str z =>
   obtain⟨t,rfl⟩:=r;cases (show T = "str" from ty)
   exact⟨typeIs_str s z t,λ_ e=>nomatch e⟩
 | int i =>
   obtain⟨t,rfl⟩:=r;cases (show T = "int" from ty)
   exact⟨typeIs_int s i t,λ_ e=>nomatch e⟩
 | ref p =>
   cases r
   rcases ty with ⟨rfl,xs,hq⟩ | ⟨rfl,o,hk,hc,hd⟩ | ⟨rfl,hk⟩ | ⟨rfl,S,n,hk⟩
   . obtain ⟨its, _, pl, _⟩ := I.list hq;refine ⟨pl.isList.typeIs,λa e=>?_⟩;cases e
     obtain⟨o,n,e,c,hd,_⟩:=pl;exact⟨o,e,hd⟩
   . refine ⟨⟨o,I.cZ p o hk,hc⟩,λa e=>?_⟩;cases e
     exact⟨o,I.cZ _ o hk,hd⟩
   . have z : ∃ o, s.heap.get? p = some o /\ o.ExactDict := by
       rcases hk with ⟨kvs,hk⟩ | ⟨kvs,hk⟩
       . obtain⟨_, _, _, _, o, _, _, e, ex, _⟩ := I.au p _ hk;exact⟨o,e,ex⟩
       . obtain⟨_, _, _, _, o, _, _, e, ex, _⟩ := I.au p _ hk;exact⟨o,e,ex⟩
     obtain⟨o,e,ex⟩:=z;refine⟨⟨o,e,ex.1⟩,λa e2=>?_⟩;cases e2
     exact⟨o,e,ex.2.1⟩
   . obtain ⟨o, _, _, _, e, ex, _⟩ := I.au p _ hk;refine ⟨⟨o,e,ex.1⟩,λa e2=>?_⟩;cases e2
     exact⟨o,e,ex.2.1⟩
 | _=>exact abf ty
@[reducible] def L1 (K:W.Frag) (T:String) (r:V->List V->Hp->VK->Prop) (to:TE):TE:=λZ H Q=>to Z H λx H1=>Eg K T x H1/\r x [] H1 Q
@[reducible] def KN (K:W.Frag) (T:String) (r:V->List V->Hp->VK->Prop) (to:TE) (t:TA):TE:=λZ H Q=>to Z H λx H1=>Eg K T x H1/\t Z H1 λxs H2=>r x xs H2 Q
variable {o e:Expr} {es:List Expr} {to:TE} {t:TA} {name:Str} {RL gV:Pos} {T id:String} {r:V->List V->Hp->VK->Prop}
theorem L4 (pa:PlainAttrs T)(slot:Slot T name id)(Vi:typeOf (.builtin id)=pure (.type "method_descriptor"))(hm:AY X id r)(ho:PE X o to)
   (R5:abr o name X.env (eval o X.env)=eval o X.env:=by rfl) (R4:(RL.endLine == gV.line)=true:=by rfl):PE X (.Call (.Attribute o name RL) [] [] gV) (L1 X.K T r to):=by
 intro dv s Z H Q I h;refine wpAny_Call_method0_late R5 R4 (aL (ho dv s Z H _ I h) λv s1 zq=>?_);obtain⟨x,H1,I1,r1,ty,q1⟩:=zq;obtain⟨h1,h2⟩:=zM I1 r1 ty;exact⟨T,id,pa,slot,Vi,h1,h2,abL rfl (PySem.evalArgs_none (hm dv s1 Z H1 x [] v [] Q I1 r1 .nil q1))⟩
theorem Ou (pa:PlainAttrs T)(slot:Slot T name id)(Vi:typeOf (.builtin id)=pure (.type "method_descriptor"))(hm:AY X id r)(ho:PE X o to)(ha:PA X (e::es) t)
   (R5:abr o name X.env (eval o X.env)=eval o X.env:=by rfl)
   (UN:((backTo gV (aas (e::es) X.env)).all (λx=>!x.1) && (acZ gV (abX [] X.env)).all (λx=>x.1.isSome)
     && decide ((e::es).length+([]:List Keyword).length+(if ([]:List Keyword).isEmpty then 0 else 1)<30))=true:=by rfl)
   (R4:(RL.endLine == gV.line)=true:=by rfl) (hs:aas (e::es) X.env=(false,eval e X.env)::aas es X.env:=by rfl) (Sv:(backTo gV (aas es X.env)).any (·.1)=false:=by rfl) :
   PE X (.Call (.Attribute o name RL) (e::es) [] gV) (KN X.K T r to t):=by
 intro dv s Z H Q I h;refine wpAny_Call_method_late R5 UN R4 rfl (aL (ho dv s Z H _ I h) λv s1 zq=>?_);obtain⟨x,H1,I1,r1,ty,q1⟩:=zq;obtain⟨h1,h2⟩:=zM I1 r1 ty;refine⟨T,id,pa,slot,Vi,h1,h2,?_⟩;have hA:=ha gV dv s1 Z H1 _ I1 q1;rw[hs] at hA ⊢;refine abL (by show(false || (backTo gV (aas es X.env)).any (·.1))=false;rw[Sv] <;> rfl) (acy ?_);exact aL hA λus s2 zq=>bF zq λvs H2 I2 r2 q2=>hm dv s2 Z H2 x vs v us Q I2 r1 r2 q2
end
def Lg (X:Cx)(id:String)(r:V->List V->Hp->VK->Prop):Prop :=
 ∀ (dv:List (Addr×Obj)) (s:Shared) (Z : St) (H:Hp) (x:V) (xs:List V) (v:Value) (us:List Value) (Q:VK),Inv X dv Z H s->RelV x v->aE xs us->r x xs H Q ->
   wpAny (model X.prog X.w) X.A (call (.builtin id) (v::us)) (EP X dv Z Q) X.xe s
variable {x:V}
theorem aE.one {us:List Value}(h:aE [x] us):∃ u,us=[u]/\RelV x u:=by
 cases h with
 | cons r t=>cases t;exact⟨_,rfl,r⟩
theorem aE.zero:∀ {us:List Value},aE [] us->us=[]
 | _,.nil=>rfl
variable {xs:List V}
theorem aE.dropLast {us:List Value}(h:aE xs us):aE xs.dropLast us.dropLast:=by
 induction h with
 | nil=>exact .nil
 | cons r t ih =>
   cases t with
   | nil=>exact .nil
   | cons q t'=>exact .cons r ih
theorem C4 {α : Type}(l:List α):l.eraseIdx (l.length - 1)=l.dropLast:=by
 induction l with
 | nil=>rfl
 | cons a r ih =>
   cases r with
   | nil=>rfl
   | cons b r =>
     have e:(a::b::r).length - 1=((b::r).length - 1)+1:=by
       have h1:(a::b::r).length=r.length+2:=rfl;have h2:(b::r).length=r.length+1:=rfl;omega
     rw[e,List.eraseIdx_cons_succ,ih];all_goals rfl
section
variable {X:Cx} {dv:List (Addr×Obj)} {Z : St} {H:Hp} {s:Shared} {l b:Addr} {xs ys zs:List V}
theorem Inv.Gi {its its':List Value}{n:Nat}{f:Array Value->Array Value}{t':Nat}(I:Inv X dv Z H s)(hH:H l=some (.lst xs))
   (e:s.heap.get? l=some { cls:=.type "list",data:=.seq its.toArray n }) (hf:f its.toArray=its'.toArray) (hv:aE ys its') (hz:ys.length<=aar) :
   Inv X dv Z (upd H l (.lst ys)) { s with heap:=s.heap.update l (adl f),toks:=t' }:=by
 have q:=PySem.IsL.update e f;rw[hf] at q;refine I.write (x:=l) (e:=l) (by rw[hH];exact trivial) (.inl rfl) (λb' u hb hu=>(Heap.get?_update_other s.heap (adl f) (Ne.symm hb)).trans hu) ⟨_,q⟩ ?_;exact⟨hz,its',_,hv,q⟩
theorem Inv.Qx {its:List Value}{t':Nat}(I:Inv X dv Z H s)(hv:aE ys its)(hz:ys.length<=aar) :
   Inv X dv Z (upd H s.heap.objs.size (.lst ys)) { s with heap:=s.heap.push { cls:=.type "list",data:=.seq its.toArray },toks:=t' } :=
 I.laid (λ_ _ q=>aaj _ q) (aai _) ⟨hz,its,0,hv,aay _ rfl⟩
theorem Inv.fresh (I:Inv X dv Z H s):H s.heap.objs.size=none:=I.au.fresh (aai _)
theorem Inv.nM (I:Inv X dv Z H s)(hH:H l=some (.lst xs)):xs.length<=aar/\∃ (its:List Value) (n:Nat),aE xs its/\xs.length=its.length/\s.heap.get? l=some { cls:=.type "list",data:=.seq its.toArray n }:=by
 obtain⟨z,its,n,r,e⟩:=I.au l _ hH;exact⟨z,its,n,r,r.length,e⟩
theorem F7 (h:n<=aar):acC n=false:=by
 unfold acC;exact decide_eq_false (by omega)
end
section
variable {X:Cx}
def vG:V->List V->Hp->VK->Prop:=λx vs H Q=>∃ l xs y,x=.ref l/\vs=[y]/\H l=some (.lst xs)/\xs.length<aar/\Q .ax (upd H l (.lst (xs++[y])))
theorem wX:Lg X "list.append" vG:=by
 intro dv s Z H x vs v us Q I rx rv h;obtain⟨l,xs,y,rfl,rfl,hH,hz,q⟩:=h;cases rx
 obtain⟨u,rfl,ru⟩:=rv.one;obtain⟨z,its,n,r,hl,e⟩:=I.nM hH;refine call_meets F.slot_list_append ⟨_,e,rfl⟩ F.entry_list_append (F.args_list_append_2 _ _) (PySem.list_append l its.toArray n u (by rw[aau];omega)) ⟨e,?_⟩;refine⟨.ax,_,I.Gi (its':=its++[u]) hH e (by simp) (r.append (.cons ru .nil)) ?_,rfl,q⟩;rw[aab,aax];omega
def pz:V->List V->Hp->VK->Prop:=λx vs H Q=>∃ l b xs zs,x=.ref l/\vs=[.ref b]/\H l=some (.lst xs)/\H b=some (.lst zs)/\xs.length+zs.length<=aar/\Q .ax (upd H l (.lst (xs++zs)))
theorem dZ:Lg X "list.extend" pz:=by
 intro dv s Z H x vs v us Q I rx rv h;obtain⟨l,b,xs,zs,rfl,rfl,hH,hB,hz,q⟩:=h;cases rx
 obtain⟨u,rfl,ru⟩:=rv.one;cases ru
 obtain⟨z,its,n,r,hl,e⟩:=I.nM hH;obtain⟨z2,Td,n2,r2,Sk,e2⟩:=I.nM hB;have hsz:its.toArray.size+Td.toArray.size<=aar:=by rw[aau,aau];omega
 have hlong : ¬ (!its.toArray.isEmpty && acC (its.toArray.size+Td.toArray.size))=true:=by
   rw[F7 hsz,acT];exact aaw
 refine call_meets F.slot_list_extend ⟨_,e,rfl⟩ F.entry_list_extend (F.args_list_extend_2 _ _)
   (AutoSeq1.list_extend_list_list_0 l its.toArray n b Td.toArray n2 hlong (by rw[aau];omega) (by omega)) ⟨e,e2,?_⟩
 refine⟨.ax,_,I.Gi (its':=its++Td) hH e (by simp) (r.append r2) ?_,rfl,q⟩;rw[aab];omega
def KL:V->List V->Hp->VK->Prop:=λx vs H Q=>∃ l xs y,x=.ref l/\vs=[]/\H l=some (.lst xs)/\xs[xs.length - 1]? = some y/\Q y (upd H l (.lst xs.dropLast))
theorem DU:Lg X "list.pop" KL:=by
 intro dv s Z H x vs v us Q I rx rv h;obtain⟨l,xs,y,rfl,rfl,hH,hy,q⟩:=h;cases rx
 have hus:=rv.zero;subst hus;obtain⟨z,its,n,r,hl,e⟩:=I.nM hH;obtain⟨u,hu,ru⟩:=r.get hy;have hy':its.toArray[its.toArray.size - 1]? = some u:=by
   show its.toArray[its.length - 1]? = some u;rw[<- ac9,<- hl];exact hu
 refine call_meets F.slot_list_pop ⟨_,e,rfl⟩ F.entry_list_pop (F.args_list_pop_1 _) (MeetsSeq.list_pop_last l its.toArray n u hy' (by rw[aau];omega)) ⟨e,?_⟩;refine⟨y,_,I.Gi (its':=its.dropLast) hH e ?_ r.dropLast ?_,ru,q⟩
 . show its.toArray.eraseIdxIfInBounds (its.toArray.size - 1) = its.dropLast.toArray;rw[aau,List.eraseIdxIfInBounds_toArray,C4]
 . rw[List.length_dropLast];omega
def LA:R2:=λx y H Q=>∃ l b xs zs,x=.ref l/\y=.ref b/\H l=some (.lst xs)/\H b=some (.lst zs)/\xs.length+zs.length<=aar/\∀ p,H p=none->Q (.ref p) (upd H p (.lst (xs++zs)))
theorem LR:bO X (abV .Add) LA:=by
 intro dv s Z H x y v u Q I rx ry h;obtain⟨l,b,xs,zs,rfl,rfl,hH,hB,hz,q⟩:=h;cases rx
 cases ry
 obtain⟨z,its,n,r,hl,e⟩:=I.nM hH;obtain⟨z2,Td,n2,r2,Sk,e2⟩:=I.nM hB;refine PySem.P.add_list e e2 ?_ (by rw[aau,aau];omega);have ea:its.toArray++Td.toArray=(its++Td).toArray:=by simp
 rw[ea];exact⟨.ref _,_,I.Qx (t':=s.toks) (r.append r2) (by rw[aab];omega),rfl,q _ I.fresh⟩
end
section
variable {κ : Type} [DecidableEq κ]
def cV (kvs:List (κ×V))(k : κ):Option V:=(kvs.find? λkv=>decide (kv.1=k)).map (·.2)
def putK (kvs:List (κ×V))(k : κ)(v:V):List (κ×V) :=
 if (kvs.any λkv=>decide (kv.1=k))=true then kvs.map (λkv=>if kv.1=k then (kv.1,v) else kv) else kvs++[(k,v)]
theorem jq {p : κ×V}{r:List (κ×V)}{k : κ}(e:p.1=k):cV (p::r) k=some p.2:=by simp[cV,abd,e]
theorem gH {p : κ×V}{r:List (κ×V)}{k : κ}(e : ¬ p.1=k):cV (p::r) k=cV r k:=by simp[cV,abd,e]
theorem rG (k : κ):∀ kvs:List (κ×V),(kvs.any λkv=>decide (kv.1=k))=(cV kvs k).isSome
 | []=>rfl
 | p :: r => by
   rw[abh];by_cases e:p.1=k
   . simp only[jq e,decide_eq_true e,Bool.true_or,Option.isSome_some]
   . rw[gH e,decide_eq_false e,abC];exact rG k r
theorem qL (kvs:List (κ×V))(k : κ)(v:V):(putK kvs k v).length<=kvs.length+1:=by
 unfold putK;split
 . rw[aaa];omega
 . rw[aab,aaq,aaZ];omega
variable {kvs:List (κ×V)}
theorem zv {k : κ}(v:V)(h:cV kvs k=none):putK kvs k v=kvs++[(k,v)]:=by
 unfold putK;rw[rG,h];exact if_neg (by decide)
theorem d_.hZ {o:Option V}{u:Option Value}(r:d_ o u):o.isSome=u.isSome:=by
 cases o with
 | none=>cases u with
   | none=>rfl
   | some _=>exact(show False from r).elim
 | some _=>cases u with
   | none=>exact(show False from r).elim
   | some _=>rfl
theorem d_.getD {o:Option V}{u:Option Value}{d:V}{d':Value}(r:d_ o u)(rd:RelV d d'):RelV (o.getD d) (u.getD d'):=by
 cases o with
 | none=>cases u with
   | none=>exact rd
   | some _=>exact(show False from r).elim
 | some _=>cases u with
   | none=>exact(show False from r).elim
   | some _=>exact r
theorem KV.val {vs:List (κ×Value)}(r:KV kvs vs)(k : κ):d_ (cV kvs k) (valueAt vs k):=by
 unfold KV at r
 induction r with
 | nil=>exact abq
 | @cons p q ps qs h t ih =>
   obtain⟨h1,h2⟩:=h;by_cases e:p.1=k
   . have e' : q.1 = k := h1.symm.trans e;have b:valueAt (q::qs) k=some q.2:=by simp [valueAt,abd,e']
     rw[jq e,b];exact h2
   . have e' : ¬ q.1 = k := λz => e (h1.trans z);have b:valueAt (q::qs) k=valueAt qs k:=by simp [valueAt,abd,e']
     rw[gH e,b];exact ih
theorem KV.any {vs:List (κ×Value)}(r:KV kvs vs)(k : κ):(kvs.any λkv=>decide (kv.1=k))=vs.any λkv=>decide (kv.1=k):=by
 unfold KV at r
 induction r with
 | nil=>rfl
 | cons h t ih=>rw[abh,abh,ih,h.1]
variable {u:Value} {y:V}
theorem KV.HH {vs:List (κ×Value)}(r:KV kvs vs)(k : κ)(ry:RelV y u) :
   KV (kvs.map λkv=>if kv.1=k then (kv.1,y) else kv) (vs.map λkv=>if kv.1=k then (kv.1,u) else kv):=by
 unfold KV at r ⊢
 induction r with
 | nil=>exact .nil
 | @cons p q ps qs h t ih =>
   rw[aaQ,aaQ];refine .cons ?_ ih;obtain⟨h1,h2⟩:=h;by_cases e:p.1=k
   . rw[if_pos e,if_pos (h1.symm.trans e)];exact⟨h1,ry⟩
   . rw[if_neg e,if_neg (λz=>e (h1.trans z))];exact⟨h1,h2⟩
theorem KV.put {vs:List (κ×Value)}(r:KV kvs vs)(k : κ)(ry:RelV y u):KV (putK kvs k y) (stored vs k u):=by
 unfold putK stored;rw[r.any k];by_cases e:(vs.any λkv=>decide (kv.1=k))=true
 . rw[if_pos e,if_pos e];exact r.HH k ry
 . rw[if_neg e,if_neg e];exact Paired.snoc r ⟨rfl,ry⟩
theorem KV.keys {vs:List (κ×Value)}(r:KV kvs vs):kvs.map (·.1)=vs.map (·.1):=by
 unfold KV at r
 induction r with
 | nil=>rfl
 | cons h t ih=>rw[aaQ,aaQ,ih,h.1]
theorem KV.length {vs:List (κ×Value)}(r:KV kvs vs):kvs.length=vs.length:=acX r
end
variable {u:Value}
theorem hU {P:Program}{w:World}{k:Key}(r:RelV (kV k) u):(bc P w).is k u=true:=by
 cases k with
 | inl i=>obtain⟨t,e⟩:=(show ∃ t,u=aa3 i t from r);subst e;exact AR P w i t
 | inr x=>obtain⟨t,e⟩:=(show ∃ t,u=adv x t from r);subst e;exact Az P w x t
theorem wx {P:Program}{w:World}:∀ {ks:List Key} {us:List Value},aE (ks.map kV) us->ItemsAre (bc P w) ks us
 | [],_,r=>by rw[List.map_nil] at r;cases r;exact .nil
 | k :: ks, _, r => by
   rw[aaQ] at r;cases r with
   | cons h t=>exact .cons (hU h) (wx t)
abbrev KT (H:Hp):List (List Key×V)->List (List Key×Addr×Value)->Prop:=Paired λp q=>p.1=q.1/\H q.2.1=some (.tup (p.1.map kV))/\RelV p.2 q.2.2
variable {H:Hp}
theorem KT.val {kvs:List (List Key×V)}{xs:List (List Key×Addr×Value)}(r:KT H kvs xs)(k:List Key):d_ (cV kvs k) ((atKey xs k).map (·.2)):=by
 induction r with
 | nil=>exact abq
 | @cons p q ps qs h t ih =>
   obtain⟨h1,_,h2⟩:=h;by_cases e:p.1=k
   . have e' : q.1 = k := h1.symm.trans e;have b:atKey (q::qs) k=some q.2:=by simp [atKey,abd,e']
     rw[jq e,b];exact h2
   . have e' : ¬ q.1 = k := λz => e (h1.trans z);have b:atKey (q::qs) k=atKey qs k:=by simp [atKey,abd,e']
     rw[gH e,b];exact ih
variable {y:V}
theorem KT.HH {kvs:List (List Key×V)}{xs:List (List Key×Addr×Value)}(r:KT H kvs xs)(k:List Key)(ry:RelV y u) :
   KT H (kvs.map λkv=>if kv.1=k then (kv.1,y) else kv) (xs.map (putAt k u)):=by
 induction r with
 | nil=>exact .nil
 | @cons p q ps qs h t ih =>
   rw[aaQ,aaQ];refine .cons ?_ ih;obtain⟨h1,h2,h3⟩:=h;unfold putAt;by_cases e:p.1=k
   . rw[if_pos e,if_pos (h1.symm.trans e)];exact⟨h1,h2,ry⟩
   . rw[if_neg e,if_neg (λz=>e (h1.trans z))];exact⟨h1,h2,h3⟩
theorem KT.put {kvs:List (List Key×V)}{xs:List (List Key×Addr×Value)}(r:KT H kvs xs)(k:List Key){b:Addr}(hb:H b=some (.tup (k.map kV)))(ry:RelV y u) :
   KT H (putK kvs k y) (storedH xs k b u):=by
 have e:(kvs.any λkv=>decide (kv.1=k))=(atKey xs k).isSome:=by
   rw[rG,(r.val k).hZ,adC]
 unfold putK storedH;rw[e];by_cases q:(atKey xs k).isSome=true
 . rw[if_pos q,if_pos q];exact r.HH k ry
 . rw[if_neg q,if_neg q];exact Paired.snoc r ⟨rfl,hb,ry⟩
theorem KT.keeps {H':Hp}{kvs:List (List Key×V)}{xs:List (List Key×Addr×Value)}(r:KT H kvs xs)(ht:∀ b ys,H b=some (.tup ys)->H' b=some (.tup ys)):KT H' kvs xs :=
 Paired.HR r λ_ _ z=>⟨z.1,ht _ _ z.2.1,z.2.2⟩
section
variable {P:Program} {w:World} {H:Hp} {h:Heap} {a:Addr}
theorem Io {u:HO}(ok:cK P w H h)(e:Rd H a u):bM P w H h a u:=e.ok ok
theorem gu {kvs:List (Key×V)}(ok:cK P w H h)(e:Rd H a (.dK kvs)):kvs.length<=aar/\(a == abE)=false/\∃ vs,KV kvs vs/\h.DictOf (bc P w) a vs :=
 show bM P w H h a (.dK kvs) from Io ok e
theorem Ow {kvs:List (Key×V)}(ok:cK P w H h)(e:H a=some (.dK kvs)):kvs.length<=aar/\(a == abE)=false/\∃ vs,KV kvs vs/\h.DictOf (bc P w) a vs:=gu ok (.inl e)
theorem kZ {ks:List Key}(ok:cK P w H h)(e:H a=some (.tup (ks.map kV))):(tupleKind (bc P w)).is h ks a:=by
 obtain⟨_,its,r,o,h1,h2,n,h3⟩:=(show bM P w H h a (.tup (ks.map kV)) from ok a _ e)
 exact⟨o,its.toArray,n,h1,h2,h3,by simpa using wx r⟩
theorem lY {kvs:List (List Key×V)}(ok:cK P w H h)(e:Rd H a (.dT kvs)):kvs.length<=aar/\(a == abE)=false /\
   ∃ xs,KT H kvs xs/\h.DictOfH (tupleKind (bc P w)) a xs:=by
 obtain⟨z,y,xs,r,o,es,ep,h1,h2,h3,h4,h5⟩:=(show bM P w H h a (.dT kvs) from Io ok e)
 refine⟨z,y,xs,r,o,es,ep,h1,h2,h3,h4,λx hx=>?_,h5⟩;have all:∀ {l:List (List Key×V)} {m:List (List Key×Addr×Value)},KT H l m->∀ x∈m,(tupleKind (bc P w)).is h x.1 x.2.1:=by
   intro l m q
   induction q with
   | nil=>intro x hx;exact nomatch hx
   | @cons p q ps qs hq t ih =>
     intro x hx;rcases List.mem_cons.mp hx with e | hx
     . subst e;exact kZ ok (by rw[<- hq.1];exact hq.2.1)
     . exact ih x hx
 exact all r x hx
theorem OW {kvs:List (List Key×V)}(ok:cK P w H h)(e:H a=some (.dT kvs)):kvs.length<=aar/\(a == abE)=false /\
   ∃ xs,KT H kvs xs/\h.DictOfH (tupleKind (bc P w)) a xs:=lY ok (.inl e)
end
def c8 (H:Hp)(a:Addr)(y:V)(r:Option V):Prop :=
 (∃ kvs k,Rd H a (.dK kvs)/\y=kV k/\r=cV kvs k)∨∃ kvs k b,Rd H a (.dT kvs)/\y=.ref b/\H b=some (.tup (k.map kV))/\r=cV kvs k
def qY (H:Hp)(a:Addr)(y v:V)(H':Hp):Prop :=
 (∃ kvs k,H a=some (.dK kvs)/\y=kV k/\kvs.length<aar/\H'=upd H a (.dK (putK kvs k v))) ∨
 ∃ kvs k b,H a=some (.dT kvs)/\y=.ref b/\H b=some (.tup (k.map kV))/\kvs.length<aar/\H'=upd H a (.dT (putK kvs k v))
theorem c8.k {a:Addr}{kvs:List (Key×V)}{k:Key}(e:H a=some (.dK kvs)):c8 H a (kV k) (cV kvs k):=.inl ⟨kvs,k,.inl e,rfl,rfl⟩
theorem qY.k {a:Addr}{kvs:List (Key×V)}{k:Key}{v:V}(e:H a=some (.dK kvs))(hl:kvs.length<aar):qY H a (kV k) v (upd H a (.dK (putK kvs k v))):=.inl ⟨kvs,k,e,rfl,hl,rfl⟩
section
variable {X:Cx} {dv:List (Addr×Obj)} {Z : St} {H:Hp} {s:Shared} {a:Addr} {y v:V} {u r:Value} {o:Option V} {A:Around} {E:Value->Shared->Prop}
theorem Inv.om (I:Inv X dv Z H s):abE<s.heap.objs.size:=by
 have h:abl<s.heap.objs.size:=(I.mod.glob.keeps I.bk).lt;exact Nat.lt_trans (by decide) h
variable {Q:Value->Shared->Prop}
theorem FV (hu:A.units+1<cLine)(I:Inv X dv Z H s)(g:c8 H a y (some v))(ry:RelV y u)(h:∀ w' s',Inv X dv Z H s'->RelV v w'->Q w' s') :
   wpAny (model X.prog X.w) A (getItem (.ref a) u) Q E s:=by
 rcases g with ⟨kvs,k,e,ey,l⟩ | ⟨kvs,k,b,e,ey,eb,l⟩
 . subst ey;obtain⟨z,hd,vs,RV,dd⟩:=gu I.au e;obtain⟨w',hw,Tt⟩:=d_.some_of (v:=v) (o:=valueAt vs k) (by rw[l];exact RV.val k);exact wpAny_getItem_of (hU ry) dd.mapOf hw (h w' _ (I.tok _) Tt)
 . subst ey;cases (show u=aaK b from ry)
   obtain⟨z,hd,xs,RV,dd⟩:=lY I.au e;obtain⟨w',hw,Tt⟩:=d_.some_of (v:=v) (o:=(atKey xs k).map (·.2)) (by rw[l];exact RV.val k);obtain⟨p,hp,U7⟩:=Option.map_eq_some_iff.mp hw;refine wpAny_getItem_heap (aco hu) (kZ I.au eb) dd hp ?_;rw[U7];exact h w' _ (I.tok _) Tt
theorem Qh (hu:A.units+1<cLine)(I:Inv X dv Z H s)(g:c8 H a y o)(ry:RelV y u)(h:∀ s',Inv X dv Z H s'->Q (.bool o.isSome) s') :
   wpAny (model X.prog X.w) A (aa2 .In u (.ref a)) Q E s:=by
 rcases g with ⟨kvs,k,e,ey,l⟩ | ⟨kvs,k,b,e,ey,eb,l⟩
 . subst ey;obtain⟨z,hd,vs,RV,dd⟩:=gu I.au e;refine wpAny_in_of (hU ry) hd dd.mapOf ?_;rw[<- (RV.val k).hZ,<- l];exact h _ (I.tok _)
 . subst ey;cases (show u=aaK b from ry)
   obtain⟨z,hd,xs,RV,dd⟩:=lY I.au e;refine wpAny_in_heap (aco hu) (kZ I.au eb) hd dd ?_;have q:=(RV.val k).hZ;rw[adC] at q;rw[<- q,<- l];exact h _ (I.tok _)
theorem JZ (hu:A.units+1<cLine)(I:Inv X dv Z H s)(g:c8 H a y o)(ry:RelV y u)(h:∀ s',Inv X dv Z H s'->Q (.bool (!o.isSome)) s') :
   wpAny (model X.prog X.w) A (aa2 .NotIn u (.ref a)) Q E s:=by
 rcases g with ⟨kvs,k,e,ey,l⟩ | ⟨kvs,k,b,e,ey,eb,l⟩
 . subst ey;obtain⟨z,hd,vs,RV,dd⟩:=gu I.au e;refine wpAny_notIn_of (hU ry) hd dd.mapOf ?_;rw[<- (RV.val k).hZ,<- l];exact h _ (I.tok _)
 . subst ey;cases (show u=aaK b from ry)
   obtain⟨z,hd,xs,RV,dd⟩:=lY I.au e;refine wpAny_notIn_heap (aco hu) (kZ I.au eb) hd dd ?_;have q:=(RV.val k).hZ;rw[adC] at q;rw[<- q,<- l];exact h _ (I.tok _)
theorem A8 {h':Heap}{t':Nat}{ob:HO}(I:Inv X dv Z H s)(mu:F1 (H a))(hs:ab6 a s.heap h')(he:∃ q,h'.get? a=some q)(new:bM X.prog X.w (upd H a ob) h' a ob) :
   Inv X dv Z (upd H a ob) { s with heap:=h',toks:=t' } :=
 I.write (x:=a) (e:=a) mu (.inl rfl) (λb q hb z=>(hs.2 b hb).trans z) he new
theorem FO {P:Program}{w:World}{H':Hp}{h':Heap}{kvs:List (Key×V)}{vs:List (Key×Value)}(z:kvs.length<=aar)(hd:(a == abE)=false)(RV:KV kvs vs)(dd:h'.DictOf (bc P w) a vs) :
   bM P w H' h' a (.dK kvs):=⟨z,hd,vs,RV,dd⟩
theorem D0 {H':Hp}{Q:Unit->Shared->Prop}(hu:A.units+1<cLine)(I:Inv X dv Z H s)(g:qY H a y v H')(ry:RelV y u)(rv:RelV v r)(h:∀ s',Inv X dv Z H' s'->Q () s') :
   wpAny (model X.prog X.w) A (setItem (.ref a) u r) Q E s:=by
 rcases g with ⟨kvs,k,e,ey,l,eH⟩ | ⟨kvs,k,b,e,ey,eb,l,eH⟩
 . subst ey eH;obtain ⟨z,hd,vs,RV,dd⟩:=Ow I.au e;have hz:vs.length<=aar:=by rw [<- RV.length];exact z
   have hl:(putK kvs k v).length<=aar:=by have:=qL kvs k v;omega
   refine wpAny_setItem_pairs (hsz:=hz) (hU ry) dd λh' dd' hs=>h _ ?_;have he:∃ q,h'.get? a=some q:=let ⟨q,_,_,hq,_⟩:=dd';⟨q,hq⟩;exact A8 I (by rw[e];exact abq) hs he (FO hl hd (RV.put k rv) dd')
 . subst ey eH;cases (show u=aaK b from ry)
   obtain⟨z,hd,xs,RV,dd⟩:=OW I.au e;have hz:xs.length<=aar:=by rw[<- acX RV];exact z
   have hl:(putK kvs k v).length<=aar:=by have:=qL kvs k v;omega
   refine wpAny_setItem_heap (hsz:=hz) (aco hu) (kZ I.au eb) dd λh' dd' hs=>h _ ?_;obtain⟨q,es,ep,hq,h2,h3,h4,_,h5⟩:=dd';refine A8 I (by rw[e];exact abq) hs ⟨q,hq⟩ ⟨hl,hd,_,(RV.put k eb rv).keeps λc ys ec=>?_,q,es,ep,hq,h2,h3,h4,h5⟩;rw[af (ID ec e (λz=>nomatch z))];exact ec
end
section
variable {X:Cx} {dv:List (Addr×Obj)} {Z : St} {H:Hp} {s:Shared} {a:Addr} {kvs:List (Key×V)} {k:Key} {u:Value} {A:Around} {E:Value->Shared->Prop}
variable {Q:Value->Shared->Prop}
theorem O_ (I:Inv X dv Z H s)(e:Rd H a (.dK kvs))(h:∀ t s',Inv X dv Z H s'->Q (.int kvs.length t) s'):wpAny (model X.prog X.w) A (call (.builtin "len") [.ref a]) Q E s:=by
 obtain⟨z,hd,vs,RV,dd⟩:=gu I.au e;refine call_len_dict hd dd (by rw[<- RV.length];rw[aan] at z;omega) ?_;rw[<- RV.length];exact h _ _ (I.tok _)
end
def Hf (i:Expr):Prop:=∀ ov iv,subscripted i false ov iv=operate [ov,iv] (getItem ov iv)
theorem Br {prog:Program}{w:World}{A:Around}{E:Value->Shared->Prop}{s:Shared}{env:Env}{value RT:Expr}{pos:Pos}{T id:String}{Q:Value->Shared->Prop}
   (hl:typeLookup (.type T) "__getitem__" = pure (some (.builtin id))) (hs:Hf RT)
   (h:wpAny (model prog w) A (eval value env) (λo s₁=>wpAny (model prog w) A (eval RT env) (λi s₂=>s₂.TypeIs o T/\wpAny (model prog w) A (getItem o i) Q E s₂) E s₁) E s) :
   wpAny (model prog w) A (eval (.Subscript value RT pos) env) Q E s:=by
 refine Subscript_ (aaV h (λo s₁ h₁=>aaV h₁ (λi s₂ h₂=>?_) λ_ _ x=>x) λ_ _ x=>x);obtain⟨hT,h₂⟩:=h₂;unfold subscriptTail;refine aaf ?_;rw[getitemInPython_of_ne hT.not_modules];refine aaf (wpAny_specialOf hT hl ?_);have RN:wpAny (model prog w) A (subscripted RT false o i) (λr s₃=>wpAny (model prog w) A (letTemporaryGo value o r >>= λ_=>pure r) Q E s₃) E s₂:=by
   rw[hs o i];exact wpAny_operating (aaV h₂ (λr s₃ h₃=>aaf (wpAny_letTemporaryGo (aat h₃))) λ_ _ x=>x)
 first
   | exact aat (aaf RN)
   | exact aaf (aat (aaf RN))
   | exact aaf RN
variable {s:Shared} {Z : St} {dv:List (Addr×Obj)}
theorem Ak {X:Cx}{a:Addr}{o:Option V}(I:Inv X dv Z H s)(g:c8 H a y o):s.TypeIs (.ref a) "dict":=by
 rcases g with ⟨kvs,k,e,_,_⟩ | ⟨kvs,k,b,e,_,_,_⟩
 . obtain⟨_, _, vs, _, dd⟩ := gu I.au e;exact dd.typeIs
 . obtain⟨_, _, xs, _, dd⟩ := lY I.au e;exact dd.typeIs
def IX (td ty:TE):TE:=λZ H Q=>td Z H λx H1=>ty Z H1 λy H2=>∃ a v,x=.ref a/\c8 H2 a y (some v)/\Q v H2
def MC (ty td:TE):TE:=λZ H Q=>ty Z H λy H1=>td Z H1 λx H2=>∃ a o,x=.ref a/\c8 H2 a y o/\Q (.bl o.isSome) H2
def A7 (ty td:TE):TE:=λZ H Q=>ty Z H λy H1=>td Z H1 λx H2=>∃ a o,x=.ref a/\c8 H2 a y o/\Q (.bl (!o.isSome)) H2
def II (td ty tv:TE):TS:=λD Z H=>tv Z H λv H1=>td Z H1 λx H2=>ty Z H2 λy H3=>∃ a H4,x=.ref a/\qY H3 a y v H4/\D.nx Z H4
section
variable {X:Cx} {o i e value:Expr} {pos Sr Se:Pos} {td ty tv:TE}
theorem iW (hu:X.A.units+1<cLine)(ho:PE X o td)(hi:PE X i ty)(hs:Hf i):PE X (.Subscript o i pos) (IX td ty):=by
 intro dv s Z H Q I h;refine Br PySem.F.slot_dict_getitem.lookup hs (aL (ho dv s Z H _ I h) λu s1 zq=>bF zq λx H1 I1 rx q1=>aL (hi dv s1 Z H1 _ I1 q1) λiv s2 zq=>?_);obtain⟨y,H2,I2,ry,a,v,ex,g,q2⟩:=zq;subst ex;obtain rfl:u=aaK a:=rx;exact⟨Ak I2 g,FV hu I2 g ry λw' s3 I3 Tt=>⟨v,H2,I3,Tt,q2⟩⟩
theorem Ei (hu:X.A.units+1<cLine)(hi:PE X i ty)(ho:PE X o td):PC X .In i o (MC ty td):=by
 intro dv s Z H Q I h;refine aL (hi dv s Z H _ I h) λiv s1 zq=>bF zq λy H1 I1 ry q1=>aL (ho dv s1 Z H1 _ I1 q1) λu s2 zq=>?_;obtain⟨x,H2,I2,rx,a,ov,ex,g,q2⟩:=zq;subst ex;obtain rfl:u=aaK a:=rx;exact Qh hu I2 g ry λs3 I3=>⟨.bl ov.isSome,H2,I3,rfl,q2⟩
theorem wm (hu:X.A.units+1<cLine)(hi:PE X i ty)(ho:PE X o td):PC X .NotIn i o (A7 ty td):=by
 intro dv s Z H Q I h;refine aL (hi dv s Z H _ I h) λiv s1 zq=>bF zq λy H1 I1 ry q1=>aL (ho dv s1 Z H1 _ I1 q1) λu s2 zq=>?_;obtain⟨x,H2,I2,rx,a,ov,ex,g,q2⟩:=zq;subst ex;obtain rfl:u=aaK a:=rx;exact JZ hu I2 g ry λs3 I3=>⟨.bl (!ov.isSome),H2,I3,rfl,q2⟩
theorem vt (hu:X.A.units+1<cLine)(ho:PE X o td)(hi:PE X i ty)(hv:PE X value tv)(hs:swapsWith value (some (.Subscript o i Sr)) pos.line X.env=pure false) :
   PS X (.Assign [.Subscript o i Sr] value pos) (II td ty tv):=by
 intro dv s Z H D I h;refine wpAny_Assign_Subscript (aL (hv dv s Z H _ I h) λr s1 zq=>bF zq λv H1 I1 rv q1=>aL (ho dv s1 Z H1 _ I1 q1) λu s2 zq=>bF zq λx H2 I2 rx q2=>aL (hi dv s2 Z H2 _ I2 q2) λiv s3 zq=>?_) hs;obtain⟨y,H3,I3,ry,a,H4,ex,g,q3⟩:=zq;subst ex;obtain rfl:u=aaK a:=rx;exact D0 hu I3 g ry rv λs4 I4=>⟨Z,H4,I4,q3⟩
end
theorem He {P:Program}{w:World}(h:Heap)(hb:abE<h.objs.size):bM P w H (h.push { cls:=.type "dict",data:=.dict #[] }) h.objs.size (.dK []) :=
 ⟨aaW _,beq_eq_false_iff_ne.mpr (Ne.symm (aaH hb)),[],.nil,Heap.DictOf.new h⟩
def DA:TE:=λ_ H Q=>∀ p,H p=none->Q (.ref p) (upd H p (.dK []))
section
variable {X:Cx} {pos:Pos}
theorem yZ:PE X (.Dict [] [] pos) DA:=λdv s Z H Q I h =>
 wpAny_Dict_empty ⟨.ref s.heap.objs.size,_,I.laid (a:=s.heap.objs.size) (o:=.dK []) (t':=s.toks) (λ_ _ q=>aaj _ q) (aai _) (He s.heap I.om),rfl,h _ (I.au.fresh (aai _))⟩
end
structure M1 (X:Cx)(o:Expr)(m:Str)(RL:Pos)(e:Expr)(gV:Pos):Prop where
 base:abr o m X.env (eval o X.env)=eval o X.env
 wK:((backTo gV (aas [e] X.env)).all (λx=>!x.1) && (acZ gV (abX [] X.env)).all (λx=>x.1.isSome)
   && decide (([e]:List Expr).length+([]:List Keyword).length+(if ([]:List Keyword).isEmpty then 0 else 1)<30))=true
 line:(RL.endLine == gV.line)=true
 trees:backTo gV (aas [e] X.env)=[(false,eval e X.env)]
structure M2 (X:Cx)(o:Expr)(m:Str)(RL:Pos)(e f:Expr)(gV:Pos):Prop where
 base:abr o m X.env (eval o X.env)=eval o X.env
 wK:((backTo gV (aas [e,f] X.env)).all (λx=>!x.1) && (acZ gV (abX [] X.env)).all (λx=>x.1.isSome)
   && decide (([e,f]:List Expr).length+([]:List Keyword).length+(if ([]:List Keyword).isEmpty then 0 else 1)<30))=true
 line:(RL.endLine == gV.line)=true
 trees:backTo gV (aas [e,f] X.env)=[(false,eval e X.env),(false,eval f X.env)]
def Mt (H:Hp)(a:Addr):Prop:=(∃ kvs,Rd H a (.dK kvs))∨∃ kvs,Rd H a (.dT kvs)
theorem MV {X:Cx}{a:Addr}(I:Inv X dv Z H s)(d:Mt H a) :
   s.TypeIs (.ref a) "dict"/\(∀ b,aaK a=.ref b->∃ ob,s.heap.get? b=some ob/\ob.dict=none)/\(a == abE)=false:=by
 rcases d with ⟨kvs,e⟩ | ⟨kvs,e⟩
 . obtain ⟨_, hd, vs, _, dd⟩ := gu I.au e;refine ⟨dd.typeIs,λb q=>?_,hd⟩;cases q
   obtain⟨ob,_,_,h1,h2,_⟩:=dd;exact⟨ob,h1,h2.2.1⟩
 . obtain ⟨_, hd, xs, _, dd⟩ := lY I.au e;refine ⟨dd.typeIs,λb q=>?_,hd⟩;cases q
   obtain⟨ob,_,_,h1,h2,_⟩:=dd;exact⟨ob,h1,h2.2.1⟩
section
variable {X:Cx} {dv:List (Addr×Obj)} {Z : St} {H:Hp} {s:Shared} {a:Addr} {y d:V} {u r:Value} {o:Option V} {A:Around} {E:Value->Shared->Prop}
variable {Q:Value->Shared->Prop}
theorem LI (hu:A.units+1<cLine)(I:Inv X dv Z H s)(g:c8 H a y o)(ry:RelV y u)(rd:RelV d r)(h:∀ w' s',Inv X dv Z H s'->RelV (o.getD d) w'->Q w' s') :
   wpAny (model X.prog X.w) A (call (.builtin "dict.get") [.ref a,u,r]) Q E s:=by
 rcases g with ⟨kvs,k,e,ey,l⟩ | ⟨kvs,k,b,e,ey,eb,l⟩
 . subst ey;obtain⟨z,hd,vs,RV,dd⟩:=gu I.au e;refine call_meetsIn abM dd.typeIs acY (PySem.F.args_dict_get_3 _ _ _) (meets_dict_get_default (bc X.prog X.w) a (hU ry) hd r) ⟨_,dd.mapOf,h _ _ (I.tok _) ?_⟩;rw[l];exact(RV.val k).getD rd
 . subst ey;cases (show u=aaK b from ry)
   obtain⟨z,hd,xs,RV,dd⟩:=lY I.au e;refine call_meetsIn abM dd.typeIs acY (PySem.F.args_dict_get_3 _ _ _) (meetsH_dict_get_default (tupleKind (bc X.prog X.w)) a b hd r) ⟨aco hu,k,xs,kZ I.au eb,dd,h _ _ (I.tok _) ?_⟩;rw[l];exact(RV.val k).getD rd
end
def E8 (td ty tx:TE):TE:=λZ H Q=>td Z H λx H1=>∃ a,x=.ref a/\Mt H1 a/\ty Z H1 λy H2=>tx Z H2 λz H3=>∃ o,c8 H3 a y o/\Q (o.getD z) H3
section
variable {X:Cx} {o e f:Expr} {RL gV:Pos} {td ty tx:TE}
theorem Hs (hu:X.A.units+1<cLine)(ho:PE X o td)(he:PE X e ty)(hf:PE X f tx)(m:M2 X o "get" RL e f gV):PE X (.Call (.Attribute o "get" RL) [e,f] [] gV) (E8 td ty tx):=by
 intro dv s Z H Q I h;refine wpAny_Call_method m.base m.wK m.line acW abM PySem.F.type_dict_get (aL (ho dv s Z H _ I h) λu s1 zq=>?_);obtain⟨x,H1,I1,rx,a,ex,d,q1⟩:=zq;subst ex;obtain rfl:u=aaK a:=rx;obtain⟨t1,t2,_⟩:=MV I1 d;refine⟨t1,t2,?_⟩;rw[m.trees];refine abL rfl (acy (acL (aL (he dv s1 Z H1 _ I1 q1) λiv s2 zq=>bF zq λy H2 I2 ry q2 =>
   acL (aL (hf dv s2 Z H2 _ I2 q2) λfv s3 ⟨z,H3,I3,rz,ov,g,q3⟩=>Calls.spliced_nil ?_))))
 exact LI hu I3 g ry rz λw' s4 I4 Tt=>⟨_,H3,I4,Tt,q3⟩
end
section
variable {X:Cx} {dv:List (Addr×Obj)} {Z : St} {H:Hp} {s:Shared} {a:Addr} {kvs:List (Key×V)} {A:Around} {E:Value->Shared->Prop}
variable {Q:Value->Shared->Prop}
theorem G4 (I:Inv X dv Z H s)(e:Rd H a (.dK kvs))(h:∀ p s',H p=none->Inv X dv Z (upd H p (.dK kvs)) s'->Q (.ref p) s'):wpAny (model X.prog X.w) A (call (.type "dict") [.ref a]) Q E s:=by
 obtain⟨z,hd,vs,RV,dd⟩:=gu I.au e;refine kt_call_dict hd dd (by rw[<- RV.length];exact z) λh' dd' hs=>?_;refine h _ _ (I.au.fresh (aai _)) (I.laid (a:=s.heap.objs.size) (o:=.dK kvs) (t':=s.toks) (λb q hq=>?_) (aai _) (FO z (beq_eq_false_iff_ne.mpr (Ne.symm (aaH I.om))) RV dd'));exact(hs.2 b (aaH (aav hq))).trans (aaj _ hq)
end
end L2
namespace Att
open PySem PySem.W PySem.Calls PyProof.Rows
theorem uy {P:Params}{h:Heap}:∀ (ns:List Int) (vs:List Value),WellAll P h vs (ns.map WData.int)->IntsAre vs ns:=by
 intro ns
 induction ns with
 | nil =>
   intro vs w;rw[List.map_nil] at w;cases w
   exact .nil
 | cons n ns ih =>
   intro vs w;rw[aaQ] at w;cases w with
   | cons a b =>
     cases a
     exact .cons _ _ (ih _ b)
theorem FX {l:OpenLaw}{n:Nat}(hn:l.most=some n){P:Params}{h:Heap}{args:List WData}{WO:List Value}
   (Vt:l.row.toRowW.claim.pre args=true) (hwl:WellAll P h WO args) :
   ∃ a vs ns,WO=[aaK a]/\args=[WData.list (ns.map WData.int)]/\h.get? a=some { cls:=.type "list",data:=.seq vs.toArray }/\IntsAre vs ns/\ns.length<=n:=by
 have hsh:WShape.hasAll [] args [.list .int]=true:=(pre_splitW Vt).1;have hc:l.pre.holds [] { args:=args }=true:=(pre_splitW Vt).2;obtain⟨d,r,rfl,h1,h2⟩:=hasAllW_cons hsh;obtain rfl:=hasAllW_nil h2;obtain⟨xs,rfl,h3⟩:=hasW_list h1;obtain⟨ns,rfl⟩:=items_int h3;have Bn:ns.length<=n:=by
   unfold OpenLaw.pre at hc;have h4:(WTm.not (.lt (.lit (.int (n:Int))) (.len (.arg 0)))).holds [] { args:=[.list (ns.map .int)] }=true:=by
     have h4:=(holds_andW hc).1;rw[hn] at h4;exact h4
   have h5:=condW_of h4 (w_not (w_lt w_lit (w_len_list (w_arg rfl))));rw[aaa] at h5;refine Nat.le_of_not_lt λq=>?_;have q':(n:Int)<((ns.length:Nat):Int):=by omega
   first
     | (rw[decide_eq_true q'] at h5;exact absurd h5 (by decide))
     | (simp at h5;omega)
 cases hwl with
 | cons w1 w2 =>
   cases w2
   cases w1 with
   | list ho Ss=>exact⟨_,_,ns,rfl,rfl,ho,uy ns _ Ss,Bn⟩
theorem FY (l:OpenLaw)(args:List WData):l.row.toRowW.claim.post args (.bool true) args=true :=
 postW_of (r:=l.row.toRowW) (X:=(true == true))
   (show WShape.has [] (.bool true) .bool=true by first | rfl | decide | simp[WShape.has,WShape.arms,WShape.armsAll])
   (show(WTm.eq .res (.lit (.bool true))).value [] { args:=args,res:=some (.bool true),after:=args }=some (.bool (true == true)) from w_eq_bool (w_res rfl) w_lit) rfl
theorem AJ {l:OpenLaw}{n:Nat}{q:Program}{SJ:List Str}{XP:(Str->Option Value)->Heap->Prop}{YP:World->Heap->Prop}{d:DefRec}
   (hn:l.most=some n) (hdf:d.params.defaults=[])
   (call:∀ (w:World) (s₀ s₁ : Shared) (mg mb:Str->Option Value) (fa:Addr) (o:Obj) (pm cd RP:Value) (a:Addr) (vs:List Value) (ns:List Int),
     Ground q SJ [] XP w s₀ mg mb s₁.heap->YP w s₁.heap ->
     s₁.heap.get? fa=some o->o.data=.func (docDef d.name d.params d.body d.scope pm cd RP)->s₁.heap.CodeRec cd d.name->mg d.name=some (.ref fa) ->
     s₁.heap.get? a=some { cls:=.type "list",data:=.seq vs.toArray }->IntsAre vs ns->ns.length<=n->s₁.gens = #[] ->
     codeAny (model l.prog w) callerA (.call (.ref fa) ⟨[.ref a],[]⟩) (λr s'=>r=.ok (.ret (.bool true))/\OldK s₁.heap s'.heap/\s'.os=s₁.os/\AllBare s'.gens) s₁) :
   WalkO q SJ XP YP l.row.toRowW d [] (λf vs=>PySem.call f vs):=by
 intro w s₀ s₁ mg mb G Y fa o pm cd RP dV kV ho hd Sn hD hmg hg args WO as Vt hlay hrd hwl hlo;obtain rfl:dV=.none:=Dflts.none hD hdf;obtain rfl:kV=.none:=Dflts.noKw hD;obtain⟨a,vs,ns,rfl,rfl,W_,UW,Bn⟩:=FX hn Vt hwl;refine enter_call (acD (call w s₀ s₁ mg mb fa o pm cd RP a vs ns G Y ho (fd_plain hd) Sn hmg W_ UW Bn hg) λr s' hq=>?_);obtain⟨rfl,h2,h3,h4⟩:=hq;exact⟨.inl ⟨.bool true,.bool true,[],rfl,λ_=>rfl,.bool true,FY l _,λ_=>⟨List.Pairwise.nil,λ_ hm=>(nomatch hm)⟩⟩,h2,h3,h4⟩
end Att
namespace L2
open PySem PySem.Spec PyProof.Rows
theorem wG:∀ {vs:List Value} {ns:List Int},IntsAre vs ns->aE (ns.map V.int) vs
 | _,_,.nil=>.nil
 | _,_,.cons n t h=>.cons ⟨t,rfl⟩ (wG h)
def GO (H:Hp):Prop:=∀ b,H b=none∨∃ o xs,H b=some (.cx o (.lst xs))
theorem Gx {P:Program}{w:World}{K:W.Frag}{mg mb:Str->Option Value}{CX:dB}{k:Nat}{fa a:Addr}{fd:abc}{x:Str}{sp:Sp}{s₁ : Shared}{vs:List Value}{ns:List Int}
   (KX:K.In s₁.heap) (hns:s₁.heap.Ns abl mg) (hb:s₁.heap.Ns builtinsNs mb) (hbb:∀ x:Str,x ≠ "__name__"->mb x=aaY x) (hlim:s₁.heap.NoLimit) (hg:s₁.gens = #[])
   (ha:s₁.heap.get? a=some { cls:=.type "list",data:=.seq vs.toArray }) (hi:IntsAre vs ns) (hl:ns.length<=aar) (hr:bG k callerA)
   (F:∀ base:Heap,K.In base->base.Ns abl mg->cW P w K mg base CX k fa fd [x] sp) (hbind:∀ (s:Shared) (u:Value),BindsTo s fd ⟨[u],[]⟩ [(x,u)])
   (T6:∀ H:Hp,GO H->av K H a (ns.map V.int)->sp [.ref a] H (λv _=>v=.bl true) λ_ _ _=>False)
   (hCX:∀ H e s',CX [] H s₁ (λ_ _ _=>False) e s'->False) :
   codeAny (model P w) callerA (.call (.ref fa) ⟨[.ref a],[]⟩) (λr s'=>r=.ok (.ret (.bool true))/\OldK s₁.heap s'.heap/\s'.os=s₁.os/\AllBare s'.gens) s₁:=by
 have rv:=wG hi;have lenV:=hi.length
 -- from an abstract heap in which nothing but the script may be SQ
 have core : ∀ H : Hp, GO H -> av K H a (ns.map V.int) -> cK P w H s₁.heap -> (∀ b, H b ≠ none -> b = a) -> (H a ≠ none -> K.lookup a = none) ->
     codeAny (model P w) callerA (.call (.ref fa) ⟨[.ref a],[]⟩) (λr s'=>r=.ok (.ret (.bool true))/\OldK s₁.heap s'.heap/\s'.os=s₁.os/\AllBare s'.gens) s₁:=by
   intro H hO hS au hA hK;have Ub:∀ {b:Addr} {o:Obj},s₁.heap.get? b=some o->H b=none->(lZ s₁.heap H).get? b=some o:=λe n=>HA e n;have noA:∀ {b:Addr} {o:Obj} {es:Array DictEntry} {ep:Nat},s₁.heap.get? b=some o->o.data=.dict es ep->H b=none:=λ{b o es ep} e d=>by
     cases q:H b with
     | none=>rfl
     | some u =>
       have e':b=a:=hA b (by rw[q];simp);subst e';rw[ha] at e;cases e;have d':Data.seq vs.toArray _=Data.dict es ep:=d;cases d'
   have nsK:∀ {b:Addr} {m:Str->Option Value},s₁.heap.Ns b m->(lZ s₁.heap H).Ns b m:=λ{b m} ⟨o,es,ep,e,d,r⟩=>⟨o,es,ep,Ub e (noA e d),d,r⟩;have hKb:K.In (lZ s₁.heap H):=λb o e=>Ub (KX b o e) (by
     cases q:H b with
     | none=>rfl
     | some u =>
       have e':b=a:=hA b (by rw[q];simp);subst e';rw[hK (by rw[q];simp)] at e;cases e)
   have hM:Mod K mg (lZ s₁.heap H):=⟨hKb,nsK hns,⟨mb,nsK hb,hbb⟩,let ⟨mc,h1,h2⟩:=hlim;⟨mc,nsK h1,h2⟩⟩
   have e0:rT P w K mg (lZ s₁.heap H) callerA [] s₁ H:=⟨rfl,hM,λb o e=>JB e,acu (Er _ _),trivial,λb hb=>absurd (show b∈([]:List Addr) from hb) (by simp),au,.of_eq hg⟩
   refine acD ((F _ hKb (nsK hns)).run callerA [] s₁ H ⟨[.ref a],[]⟩ [.ref a] [.ref a] _ _ hr e0 (hbind s₁ (.ref a)) (.cons rfl .nil) (T6 H hO hS)) λr s' h=>?_;cases r with
   | error e=>exact(hCX H e s' h).elim
   | ok fl =>
     cases fl with
     | next=>exact abf h
     | brk=>exact abf h
     | cont=>exact abf h
     | ret u =>
       obtain⟨v,H',os,bare,un,hok',r',q⟩:=h;have q':v=.bl true:=q;subst q';obtain rfl:u=acV true:=r';refine⟨rfl,OldK.of_keep λb o e=>?_,os,bare⟩;cases q:H b with
       | none=>exact un.keep b o e q (by intro z;exact absurd (show b∈([]:List Addr) from z) (by simp)) (by simp)
       | some u =>
         rcases hO b with z | ⟨ob,xs,z⟩
         . rw[q] at z;cases z
         . have z2 := un.fW b ob _ z;obtain⟨e1,_⟩:=au b _ z;obtain⟨e2,_⟩:=hok' b _ z2;rw[e] at e1;cases e1;exact e2
 cases hk:K.lookup a with
 | some o =>
   -- the script is one of the module's own objects
   have e:=KX a o hk;rw[ha] at e;cases e
   refine core (λ_=>none) (λ_=>.inl rfl) (.inr ⟨_,vs.toArray,_,hk,rfl,rfl,rfl,by rw[aau,lenV];exact hl,by simpa using rv⟩) (λb u z=>by have z':(none:Option HO)=some u:=z;cases z') (λb z=>absurd rfl z) λz=>absurd rfl z
 | none =>
   refine core (λb=>if b=a then some (.cx { cls:=.type "list",data:=.seq vs.toArray } (.lst (ns.map V.int))) else none) (λb=>?_) (.inl (.inr ⟨{ cls:=.type "list",data:=.seq vs.toArray },if_pos rfl⟩)) (λb u z=>?_) (λb z=>?_) λ_=>hk
   . by_cases hb:b=a
     . exact .inr ⟨_,_,if_pos hb⟩
     . exact .inl (if_neg hb)
   . by_cases hb:b=a
     . have z' := (if_pos hb).symm.trans z;cases z'
       subst hb;exact⟨ha,by rw[aaa];exact hl,vs,_,rv,ha⟩
     . have z' := (if_neg hb).symm.trans z;cases z'
   . by_cases hb:b=a
     . exact hb
     . exact absurd (if_neg hb) z
abbrev IQ {K:W.Frag}{h:Heap}(_:K.In h):W.Frag:=K
theorem JL {l:W.OpenLaw}{n k:Nat}{q:Program}{SJ:List Str}{XP:(Str->Option Value)->Heap->Prop}{YP:World->Heap->Prop}{d:DefRec}{K:Params->W.Frag}{CX:World->dB}{sp:World->Sp}{x:Str}
   (hn:l.most=some n) (hn2:n<=aar) (hdf:d.params.defaults=[]) (hr:bG k callerA)
   (hY:∀ (w:World) (h:Heap),YP w h->(K w.params).In h)
   (F:∀ (w:World) (mg:Str->Option Value) (fa:Addr) (h:Heap),(K w.params).In h->h.Ns abl mg->mg d.name=some (.ref fa) ->
     ∃ fd:abc,(∀ (s:Shared) (u:Value),BindsTo s fd ⟨[u],[]⟩ [(x,u)]) /\
       ∀ base:Heap,(K w.params).In base->base.Ns abl mg->cW l.prog w (K w.params) mg base (CX w) k fa fd [x] (sp w))
   (T6:∀ (w:World) (H:Hp) (a:Addr) (ns:List Int),ns.length<=n->GO H->av (K w.params) H a (ns.map V.int)->sp w [.ref a] H (λv _=>v=.bl true) λ_ _ _=>False)
   (hCX:∀ (w:World) (H:Hp) (s:Shared) (e:Value) (s':Shared),CX w [] H s (λ_ _ _=>False) e s'->False) :
   W.WalkO q SJ XP YP l.row.toRowW d [] (λf vs=>PySem.call f vs):=by
 refine Att.AJ hn hdf λw s₀ s₁ mg mb fa o pm cd RP a vs ns G Y ho hd Sn hmg W_ UW Bn hg=>?_;have KX:=hY w _ Y;obtain⟨fd,hb,hF⟩:=F w mg fa _ KX G.T.g hmg;exact Gx KX G.T.g G.T.b G.T.builtins G.T.nolimit hg W_ UW (aaR Bn hn2) hr hF hb (λH hO hS=>T6 w H a ns Bn hO hS) λH e s'=>hCX w H s₁ e s'
def inClass (s:Stmt)(j:Nat):Stmt:=match s with
 | .ClassDef _ _ _ body _ _ _ _ _ _ _=>body.getD j (.Pass ⟨0,0,0,0⟩)
 | _=>.Pass ⟨0,0,0,0⟩
def bg (s:Stmt):Arguments:=match s with
 | .FunctionDef _ a _ _ _ _ _ _ _ _=>a
 | _=>{ posonlyargs:=[],args:=[],vararg:=none,kwonlyargs:=[],kw_defaults:=[],kwarg:=none,defaults:=[] }
def a9 (s:Stmt):List Stmt:=match s with
 | .FunctionDef _ _ b _ _ _ _ _ _ _=>b
 | _=>[]
def ai (s:Stmt):Scope:=match s with
 | .FunctionDef _ _ _ _ _ _ sc _ _ _=>sc
 | _=>{ kind:=.function,names:=[],isGenerator:=false,isCoroutine:=false }
abbrev eA:dB:=λ_ _ _ _ _ _=>False
abbrev E0:XK:=λ_ _ _=>False
theorem aX {X:Cx}:dj eA X E0:=λ_ _ _ _ _ _ _ h=>h.elim
structure dY (K:W.Frag)(x qual:Str)(st:Stmt)(f:Addr)(fd:abc):Prop where
 ex:∃ (oc:Value) (od:Option Addr) (kV RP pm:Value) (an:Option Addr) (RK ct:Value) (Si:Array (Option Value)),
   fd=W.fnOf x qual (bg st) (a9 st) (ai st) .none kV RP pm an RK ct/\K.lookup f=some ⟨oc,od,.func fd,Si⟩/\acx K RK qual=true
 kp:abz K (.ref f)=true
section
variable {P:Program} {w:World} {K:W.Frag} {mg:Str->Option Value} {base:Heap}
variable {x:Str}
theorem dY.ok {qual:Str}{st:Stmt}{f:Addr}{fd:abc}{N ps:List Str}{k:Nat}{sp:Sp}(F:dY K x qual st f fd)(S:ar N ps (ai st))(len:∀ vs H Q E,sp vs H Q E->vs.length=ps.length)
   (RO:∀ (RK:Value) (A:Around) (outer:List Env) (s:Shared) (H:Hp) (vs:List V) (Q:VK) (E:XK),bG k (A.deeper (envOfC qual (ai st) s.heap.objs.size f RK))->sp vs H Q E ->
     ∃ t,iq (eE eA P w K mg base N qual (ai st) f RK A outer s H E).gm (a9 st) t/\t { nx:=λ_ H'=>Q .ax H',rt:=Q } (start N vs) H):cW P w K mg base eA (k+1) f fd ps sp:=by
 obtain⟨oc,od,kV,RP,pm,an,RK,ct,Si,rfl,lk,Sn⟩:=F.ex;refine xU lk Sn S len λA outer s H vs Q E hr T6=>?_;obtain⟨t,h,q⟩:=RO RK A outer s H vs Q E hr T6;exact⟨t,h.gm,q⟩
theorem dY.binds {qual:Str}{st:Stmt}{f:Addr}{fd:abc}{ps:List Str}(F:dY K x qual st f fd)
   (h:∀ (kV RP pm:Value) (an:Option Addr) (RK ct:Value) (us:List Value),us.length=ps.length->acM (W.fnOf x qual (bg st) (a9 st) (ai st) .none kV RP pm an RK ct) ⟨us,[]⟩=pure (ps.zip us)):Binds K fd ps []:=by
 obtain⟨oc,od,kV,RP,pm,an,RK,ct,Si,rfl,lk,Sn⟩:=F.ex;exact .all (h kV RP pm an RK ct)
theorem jo {qual:Str}{st:Stmt}{f:Addr}{oc:Value}{od an:Option Addr}{Si:Array (Option Value)}{kV RP pm RK ct:Value}(l:K.lookup f=some ⟨oc,od,.func (W.fnOf x qual (bg st) (a9 st) (ai st) .none kV RP pm an RK ct),Si⟩)
   (c:acx K RK qual=true) (k:abz K (.ref f)=true):dY K x qual st f (W.fnOf x qual (bg st) (a9 st) (ai st) .none kV RP pm an RK ct):=⟨⟨oc,od,kV,RP,pm,an,RK,ct,Si,rfl,l,c⟩,k⟩
end
theorem eL {A:Around}{k:Nat}(hr:bG k A):A.units+1<cLine:=aa1 (Nat.add_le_add_left (by decide : 1<=64) _) hr.units
section
variable {X:Cx}
variable {x:Str}
theorem pv (i : Nat){pos : Pos}(hN : X.N[i]? = some x := by rfl)(hv : Lk X.env.scope x := by first | exact Or.inl rfl | exact Or.inr (Or.inl rfl) | exact Or.inr (Or.inr rfl))(hd : (x == ("__debug__" : Str)) = false := by decide)
   (Sn:(x == ("__classdict__" : Str))=false:=by decide):PE X (.Name x pos) (Dq i):=ES hN hv hd Sn
theorem D9:bZ X (.builtin "len") (λxs H Q=>∃ a kvs,xs=[V.ref a]/\H a=some (.dK kvs)/\Q (.int kvs.length) H):=by
 intro dv s Z H xs us Q I r h;obtain⟨a,kvs,rfl,ha,q⟩:=h;obtain⟨u,rfl,ru⟩:=vals1 r;cases ru
 exact O_ I (.inl ha) λt s' I'=>⟨.int kvs.length,H,I',⟨t,rfl⟩,q⟩
end
theorem Qu {A B:Prop}(h:B):if false=true then A else B:=by
 rw[if_neg aaw];exact h
theorem PD {A B:Prop}(h:A):if true=true then A else B:=by
 rw[if_pos rfl];exact h
def ah (H H':Hp):Prop:=∀ b o,H b=some o->H' b=some o
theorem ah.refl (H:Hp):ah H H:=λ_ _ h=>h
theorem ah.trans {H H1 H2:Hp}(a:ah H H1)(b:ah H1 H2):ah H H2:=λc o h=>b c o (a c o h)
theorem ah.seq {K:W.Frag}{H H':Hp}{a:Addr}{xs:List V}(e:ah H H')(h:av K H a xs):av K H' a xs:=by
 rcases h with (h | ⟨o,h⟩) | h
 . exact .inl (.inl (e _ _ h))
 . exact .inl (.inr ⟨o,e _ _ h⟩)
 . exact .inr h
end L2
namespace Bt
theorem LD (a b:Nat)(h:a &&& b=0):a+b=a ||| b:=by
 have ha:a<2 ^ (a+b+1):=aaB adx (aby (by decide) (by omega));have hb:b<2 ^ (a+b+1):=aaB adx (aby (by decide) (by omega));have hab:a+b<2 ^ (a+b+1):=aaB adx (aby (by decide) (by omega));have e:=BitVec.add_eq_or_of_and_eq_zero (BitVec.ofNat (a+b+1) a) (BitVec.ofNat (a+b+1) b) (by
   apply BitVec.eq_of_toNat_eq;rw[BitVec.toNat_and,acJ,acJ,acA ha,acA hb,h]
   simp)
 have e2:=congrArg BitVec.toNat e;rw[BitVec.toNat_or,BitVec.toNat_add,acJ,acJ,acA ha,acA hb,acA hab] at e2;exact e2
def wo (s p:Nat):Nat:=s - (s &&& p)
theorem NX (s p:Nat):wo s p=s ^^^ (s &&& p):=by
 unfold wo;have h:(s ^^^ (s &&& p))+(s &&& p)=s:=by
   have e:(s ^^^ (s &&& p)) &&& (s &&& p)=0:=by
     apply acB;intro i;simp only[abm,Nat.testBit_xor,Nat.zero_testBit];cases s.testBit i <;> cases p.testBit i <;> rfl
   rw[LD _ _ e];apply acB;intro i;simp only[Nat.testBit_or,abm,Nat.testBit_xor];cases s.testBit i <;> cases p.testBit i <;> rfl
 omega
theorem uN (s p i:Nat):(wo s p).testBit i=(s.testBit i && !p.testBit i):=by
 rw[NX];simp only[abm,Nat.testBit_xor];cases s.testBit i <;> cases p.testBit i <;> rfl
end Bt
namespace L3
open PySem PySem.Spec PyProof.Rows L2
abbrev St:=L2.St
def gx (its:List Value):Obj:={ cls:=.type "list",data:=.seq its.toArray its.length }
theorem FH (its:List Value)(y:Value):({ cls:=.type "list",data:=.seq (its.toArray.push y) (its.length+1) }:Obj)=gx (its++[y]):=by
 show({ cls:=.type "list",data:=.seq (its.toArray.push y) (its.length+1) }:Obj)={ cls:=.type "list",data:=.seq (its++[y]).toArray (its++[y]).length }
 rw[aab,aax,List.push_toArray]
section
variable {prog:Program} {w:World} {A:Around} {R:Result->Shared->Prop} {s:Shared}
theorem AN {Ur So iter:Expr}{Tv:List Expr}{scope:Scope}{pos:Pos}{it Ts:Value}{env:Env}(I:Nat->Shared->Prop)
   (TJ : ∀ n s, I n s -> wpAny (model prog w) A (pyNext it) (λr s1 => match r with
     | none=>R (.ok .next) s1
     | some v=>wpAny (model prog w) A (adw So it v) (λ_ s2=>wpAny (model prog w) A (assign So env v) (λ_ s3 =>
         wpAny (model prog w) A (forIn Tv true λc r=>if r=true then do let ok <- isTrue c env (eval c env);pure (acv ok) else pure (acv r)) (λok s4 =>
           if ok=true then wpAny (model prog w) A (eval Ur env) (λx s5 =>
             wpAny (model prog w) A (call (.builtin "list.append") [Ts,x]) (λ_ s6=>∃ m,m<n/\I m s6) (notedBy (model prog w) A env λe s'=>R (.error e) s') s5) (notedBy (model prog w) A env λe s'=>R (.error e) s') s4
           else ∃ m,m<n/\I m s4) (notedBy (model prog w) A env λe s'=>R (.error e) s') s3) (notedBy (model prog w) A env λe s'=>R (.error e) s') s2)
         (notedBy (model prog w) A env λe s'=>R (.error e) s') s1) (notedBy (model prog w) A env λe s'=>R (.error e) s') s)
   (n:Nat) (h:I n s) :
   codeAny (model prog w) A (.compLoop (.ListComp Ur [⟨So,iter,Tv,0⟩] scope pos) 0 it Ts env) R s:=by
 refine codeAny_loop rfl I (λn s hI=>?_) n h;show wpAny _ A ((compTurn (.ListComp Ur [⟨So,iter,Tv,0⟩] scope pos) 0 it Ts env).onRaise (λx=>do noteFrame x env;theTreesLotGoes x)) _ _ s;refine wpAny_noted ?_;rw[compTurn_list];refine aaf (wpAny_standAt (aaf (aaV (TJ n s hI) (λr s1 h1=>?_) λ_ _ h'=>h')));cases r with
 | none=>exact aat h1
 | some v =>
   refine aaf (aaV h1 (λ_ s2 h2=>?_) λ_ _ h'=>h');refine aaf (aaV h2 (λ_ s3 h3=>aaf (aaV h3 (λok s4 h4=>?_) λ_ _ h'=>h')) λ_ _ h'=>h');cases ok with
   | false=>exact aat ⟨rfl,h4⟩
   | true =>
     exact aaf (aaf (aaV h4 (λx s5 h5=>aaf (aaV h5 (λ_ s6 h6=>aat (aat ⟨rfl,h6⟩)) λ_ _ h'=>h')) λ_ _ h'=>h'))
end
def bU (X:Cx)(scope:Scope)(cl:List (Str×Addr))(own:List Str)(fr:List (Str×Nat))(C:Addr)(s2:Shared)(H2:Hp)(fp:List Addr):Cx :=
 { prog:=X.prog,w:=X.w,K:=X.K,mg:=X.mg,base:=X.base,A:=X.A,N:=own++fr.map (·.1),s₀:=s2,H₀:=H2,env:=compEnvC scope cl C X.env,outer:=X.stack,stack:=X.stack,
   ex:=fp,fn:=λ_=>false,calm:=X.calm,pn:=[],xe:=λ_ _=>False }
def oA (own:List Str)(fr:List (Str×Nat))(Z : St):St:=own.map (λ_=>none)++fr.map λp=>(Z[p.2]?).join
def yl (env:Env):List (Str×Addr)->Prop
 | []=>True
 | (n,c)::r=>env.cells.lookup n=some c/\yl env r
theorem yl.get {env:Env}:∀ {cl:List (Str×Addr)} {x:Str} {c:Addr},yl env cl->cl.lookup x=some c->env.cells.lookup x=some c
 | [],_,_,_,h=>by simp at h
 | (n, d) :: r, x, c, ok, h => by
   rw[abG] at h;cases e:x == n with
   | true =>
     rw[e] at h;have e':x=n:=by simpa using e
     cases h
     rw[e'];exact ok.1
   | false =>
     rw[e] at h;exact yl.get ok.2 h
def xO (sc:Scope)(x:Str):Prop:=sc.names.lookup x=some .cell∨sc.names.lookup x=some .free
def Ah (X:Cx)(scope:Scope)(cl:List (Str×Addr)):List (Str×Nat)->Prop
 | []=>True
 | (x,j)::r=>(X.N[j]? = some x/\xO X.env.scope x/\xO (relabel scope X.env) x/\(cl.lookup x).isSome=true)/\Ah X scope cl r
variable {scope:Scope} {X:Cx}
theorem Ah.get {cl:List (Str×Addr)}:∀ {fr:List (Str×Nat)} {i:Nat} {p:Str×Nat},Ah X scope cl fr->fr[i]? = some p ->
   X.N[p.2]? = some p.1/\xO X.env.scope p.1/\xO (relabel scope X.env) p.1/\(cl.lookup p.1).isSome=true
 | [],_,_,_,h=>by simp at h
 | (x, j) :: r, 0, p, ok, h => by
   simp at h;subst h;exact ok.1
 | (x,j)::r,i+1,p,ok,h=>Ah.get (i:=i) ok.2 (by simpa using h)
structure ye (X:Cx)(scope:Scope)(cl:List (Str×Addr))(own:List Str)(fr:List (Str×Nat)):Prop where
 M8:closureFor scope X.env=pure cl
 cells:yl X.env cl
 bE:Ah X scope cl fr
 kind:scope.kind=.function
 DJ:∀ y∈scope.names,y.2≠.cell
 names:∀ y∈scope.names,y.2=.local->scope.names.lookup y.1=some .local
 has:(scope.names.all λy=>y.2 != .free || (cl.lookup y.1).isSome)=true
theorem ia {env:Env}{cl:List (Str×Addr)}:∀ {names:List (Str×NameKind)} {x:Str},(∀ y∈names,y.2≠.cell)->(names.all λy=>y.2 != .free || (cl.lookup y.1).isSome)=true ->
   ((names.map λ(n, k) => if (k == acR && env.scope.kind == .function && env.kindOf n == some .cell) then (n, NameKind.cell) else (n, k)).lookup x = some .cell ∨
    (names.map λ(n,k)=>if (k == acR && env.scope.kind == .function && env.kindOf n == some .cell) then (n,NameKind.cell) else (n,k)).lookup x=some .free)->∃ c,cl.lookup x=some c
 | [],_,_,_,h=>by rcases h with h | h <;> simp at h
 | (n, k) :: r, x, nc, ha, h => by
   rw[abB,aah] at ha;have ih:=@ia env cl r x (λy hy=>nc y (aa8 _ hy)) ha.2;have nk:k≠.cell:=nc (n,k) aa_;have hk:=ha.1;cases hx:x == n with
   | true =>
     have ex:x=n:=by simpa using hx
     subst ex;by_cases hf:k=.free
     . subst hf;have z:(cl.lookup x).isSome=true:=by simpa using hk
       exact Option.isSome_iff_exists.mp z
     . exfalso
       have hb:(k == acR)=false:=by simpa using hf
       rcases h with h | h
       . rw[aaQ] at h;simp only[hb,abj,acO,if_false,abG,beq_self_eq_true] at h;exact nk (aap h)
       . rw[aaQ] at h;simp only[hb,abj,acO,if_false,abG,beq_self_eq_true] at h;exact hf (aap h)
   | false =>
     refine ih ?_;rcases h with h | h
     . left
       rw[aaQ] at h;by_cases hc:(k == acR && env.scope.kind == .function && env.kindOf n == some .cell)=true
       . simp only[hc,if_true,abG,hx] at h;exact h
       . simp only[hc,acO,if_false,abG,hx] at h;exact h
     . right
       rw[aaQ] at h;by_cases hc:(k == acR && env.scope.kind == .function && env.kindOf n == some .cell)=true
       . simp only[hc,if_true,abG,hx] at h;exact h
       . simp only[hc,acO,if_false,abG,hx] at h;exact h
def Fy (Y:Cx)(Tv:List Expr)(t:TT):Prop :=
 ∀ (dv:List (Addr×Obj)) (s:Shared) (Z : St) (H:Hp) (Q:Bool->Hp->Prop),Inv Y dv Z H s->t Z H Q ->
   wpAny (model Y.prog Y.w) Y.A (forIn Tv true λc r=>if r=true then do let ok <- isTrue c Y.env (eval c Y.env);pure (acv ok) else pure (acv r)) (TP Y dv Z Q) Y.xe s
@[reducible] def Oa:TT:=λ_ H Q=>Q true H
theorem bh {Y:Cx}:Fy Y [] Oa:=λ_ _ _ H _ I h=>wpAny_tests_nil ⟨H,I,h⟩
theorem i9 {Y:Cx}{c:Expr}{t:TT}(h:PT Y c t):Fy Y [c] t:=λdv s Z H Q I hw=>wpAny_tests_one (h dv s Z H Q I hw)
def C7 (own:List Str)(fr:List (Str×Nat))(wi:TI)(g:TG)(tc:TT)(te:TE)(RN:List V->Hp->Prop):St->Hp->Prop:=λZ H=>wi Z H λJ H1 =>
 ∃ W:Nat->Nat->List V->St->Hp->Prop,(∃ m,W 0 m [] (oA own fr Z) H1)/\∀ i m ys Z' H',W i m ys Z' H' ->
   (J.stop i H'/\ys.length<=aar/\RN ys H') ∨
   (J.go i H'/\∃ N:List V->St->Hp->Prop,(∀ SK Z2 H2,N SK Z2 H2->SK.length<=aar/\∃ m',m'<m/\W (i+1) m' SK Z2 H2) /\
     ∀ x H2,J.qX i H' x H2->g x Z' H2 λZ3 H3=>tc Z3 H3 λb H4=>if b=true then te Z3 H4 λy H5=>N (ys++[y]) Z3 H5 else N ys Z3 H4)
structure Off (X:Cx)(dv:List (Addr×Obj))(H:Hp)(C:Addr):Prop where
 none:H C=none
 loc:C≠X.env.locals
 above:X.s₀.heap.objs.size<=C
 cell:∀ x c,X.env.cells.lookup x=some c->c≠C
 pin:∀ p∈X.pn++dv,p.1≠C
section
variable {X:Cx} {tg Ur iter:Expr} {Tv:List Expr} {scope:Scope} {cl:List (Str×Addr)} {own:List Str} {fr:List (Str×Nat)} {wi:TI} {g:TG} {tc:TT} {te:TE} {pos:Pos}
theorem wc (hc:X.calm=true)(S:ye X scope cl own fr)(hi:PI X tg iter wi)(hg:∀ C s2 H2 fp,PG (bU X scope cl own fr C s2 H2 fp) tg g)
   (ht:∀ C s2 H2 fp,Fy (bU X scope cl own fr C s2 H2 fp) Tv tc) (he:∀ C s2 H2 fp,PE (bU X scope cl own fr C s2 H2 fp) Ur te)
   {dv:List (Addr×Obj)} {s:Shared} {Z : St} {H:Hp} {RN:List V->Hp->Prop} (I:Inv X dv Z H s) (h:C7 own fr wi g tc te RN Z H)
   {RR:Value->Addr->Result->Shared->Prop}
   (hR:∀ (D C:Addr) (s4:Shared) (H3:Hp) (ys:List V) (m:Str->Option Value),H3 D=none->Inv X dv Z (upd H3 D (.lst ys)) s4->s4.heap.Ns C m->Off X dv (upd H3 D (.lst ys)) C->RN ys H3->RR (.ref D) C (.ok .next) s4) :
   wpAny (model X.prog X.w) X.A (eval iter X.env) (λx s1=>wpAny (model X.prog X.w) X.A (pyIter x) (λitv s2=>wpAny (model X.prog X.w) X.A (newList []) (λTs s3 =>
     wpAny (model X.prog X.w) X.A (newFunctionEnv scope X.env.globals cl [] X.env.qual none .none (some X.env)) (λcenv s4 =>
       codeAny (model X.prog X.w) X.A (.compStart (.ListComp Ur [⟨tg,iter,Tv,0⟩] scope pos) 0 itv Ts { cenv with scope:=relabel scope X.env }) (RR Ts cenv.locals) s4) X.xe s3) X.xe s2) X.xe s1) X.xe s:=by
 refine aL (hi dv s Z H _ I h) λv s1 h1=>aL h1 λitv s2 h2=>?_;obtain⟨it,fp,tn,J,H2,rfl,I2,T,Ve,f2,W,⟨m0,w0⟩,TJ⟩:=h2;refine abF (wpAny_newFunctionEnv S.DJ (by intro y hy;simp at hy) (λh1 hns1 Vs=>?_) S.kind);dsimp only at hns1 Vs ⊢;generalize hHP:s2.heap.push { cls:=.type "list",dict:=none,data:=.seq ([]:List Value).toArray }=HP at hns1 Vs ⊢;have hC:HP.objs.size=s2.heap.objs.size+1:=by rw[<- hHP,abJ]
 have hDC:s2.heap.objs.size≠HP.objs.size:=by rw[hC];exact aaH (abK _)
 have below:∀ b,b<s2.heap.objs.size->b≠HP.objs.size/\b≠s2.heap.objs.size:=λb hb=>⟨by rw[hC];exact aaH (acp hb),aaH hb⟩;have Uc:∀ b o,s2.heap.get? b=some o->h1.get? b=some o:=λb o e=>Vs.extBut b o (below b (aav e)).1 (aaj _ (hHP ▸ aaj _ e));have Tf:h1.get? s2.heap.objs.size=some (gx []):=Vs.extBut _ _ hDC (aaj _ (hHP ▸ aay _ rfl));have VC:∀ b∈fp,b<s2.heap.objs.size:=λb hb=>by obtain⟨o,e,_⟩:=T.obj 0 _ Ve b hb;exact aav e
 have R6:∀ x c,cl.lookup x=some c->X.env.cells.lookup x=some c:=λx c e=>S.cells.get e;have hcD:∀ x c,X.env.cells.lookup x=some c->c<s2.heap.objs.size:=λx c e=>by obtain⟨v,q⟩:=I2.cell x c e;exact q.lt
 have st1:tn 0 h1:=T.keep _ _ _ Ve λb _ o e=>Uc b o e;have hDfree:H2 s2.heap.objs.size=none:=I2.au.fresh (aai _);have hCfree:H2 HP.objs.size=none:=I2.au.fresh (by rw[hC];exact ack _);have nostk:∀ b,s2.heap.objs.size<=b->b ∉ L2.bE X.stack:=λb hb hm=>by
   rcases List.mem_cons.mp (I2.nq b hm) with e | e
   . exact absurd I2.lt (by rw[<- e];exact Nat.not_lt.mpr hb)
   . exact I2.Lc hb e
 have hDlt:s2.heap.objs.size<h1.objs.size:=aav Tf
 -- the block's context
 have YOk:(bU X scope cl own fr HP.objs.size s2 H2 fp).Ok:=by
   refine ⟨I2.ok.mod,S.kind,I2.ok.glob,I2.ok.blt,?_,λx y c e1 e2=>I2.ok.inj x y c (R6 _ _ e1) (R6 _ _ e2),λx hx=>?_,λx c hf=>?_,I2.ok.hd,I2.ok.frames,.inl rfl,λb hb=>⟨?_,λx c e=>?_⟩,
     I2.bs,aaR I2.ok.qN I2.sz,λb o e hb=>?_,λb hb hm=>?_,I2.stack,I2.pW⟩
   . show s2.heap.objs.size <= HP.objs.size;rw[hC];exact ack _
   . exact ia (env:=X.env) S.DJ S.has hx
   . cases hf
   . exact(below b (VC b hb)).1
   . exact(f2 b hb).2.2.2.2.1 x c (R6 _ _ e)
   . rcases(f2 b hb).2.2.2.1 with z | z
     . exact I2.ok.sd b o e z
     . exact absurd (aav (I2.ok.bs b o e).1) (Nat.not_lt.mpr z)
   . rcases List.mem_cons.mp (I2.nq b hm) with e | e
     . exact(f2 b hb).2.1 e
     . exact(f2 b hb).2.2.1 e
 have V8 : ∀ {h' : Heap} {its : List Value} {H' : Hp}, h'.get? s2.heap.objs.size = some (gx its) -> H' s2.heap.objs.size = none -> ∀ p ∈ ([(s2.heap.objs.size, gx its)] : List (Addr × Obj)),
     h'.get? p.1=some p.2/\H' p.1=none/\p.1≠HP.objs.size/\p.1 ∉ L2.bE X.stack/\∀ v,p.2.data≠.cell v:=λ{h' its H'} e n p hp=>by
   have e1:p=(s2.heap.objs.size,gx its):=by simpa using hp
   subst e1;exact⟨e,n,hDC,nostk _ (aai _),λv z=>by cases z⟩
 have IY:Inv (bU X scope cl own fr HP.objs.size s2 H2 fp) [(s2.heap.objs.size,gx [])] (oA own fr Z) H2 { s2 with heap:=h1,toks:=s2.toks+([]:List (Str×Value)).length }:=by
   refine⟨YOk,rfl,I2.bare,Un.kept Uc,⟨_,hns1,λi x v e1 e2 e3=>?_⟩,λx c e=>?_,hCfree,λx c e=>I2.ee x c (R6 _ _ e),V8 Tf hDfree,I2.au.kept Uc,?_⟩
   . have Uv : (own ++ fr.map (·.1))[i]? = some x := e1;have UC:(own.map (λ_=>(none:Option V))++fr.map λp=>(Z[p.2]?).join)[i]? = some (some v):=e2;by_cases Tz:i<own.length
     . rw[aak (by simpa using Tz), aae] at UC;rw[aac Tz] at UC;cases UC
     . rw[aag (by simpa using Tz), aae] at UC;rw[aag (Nat.not_lt.mp Tz),aae] at Uv;rw[aaa] at UC;cases ef:fr[i - own.length]? with
       | none=>rw[ef] at Uv;cases Uv
       | some p =>
         rw[ef] at Uv UC;have ex:p.1=x:=aap Uv;have ev:(Z[p.2]?).join=some v:=aap UC;obtain⟨hN,hk,hk2,hs⟩:=S.bE.get ef;have eZ : Z[p.2]? = some (some v):=by
           cases q : Z[p.2]? with
           | none=>rw[q] at ev;cases ev
           | some o=>rw[q] at ev;exact congrArg some ev
         obtain⟨m,hn,hl⟩:=I2.loc;obtain⟨u,r,l⟩:=hl p.2 p.1 v hN eZ (by rcases hk with k | k;exact .inr (.inl k);exact .inr (.inr k));subst ex;obtain⟨c,ec⟩:=Option.isSome_iff_exists.mp hs;refine⟨u,r,.inr ⟨hk2,c,ec,?_⟩⟩;rcases l with ⟨hl1,_⟩ | ⟨_,c',ec',z⟩
         . have Vz : X.env.scope.names.lookup p.1 = some .local := hl1;rcases hk with z | z
           . rw[z] at Vz;cases Vz
           . rw[z] at Vz;cases Vz
         . have := R6 _ _ ec;rw[ec'] at this;cases this
           exact z.keeps Uc
   . obtain⟨v, z⟩ := I2.cell x c (R6 _ _ e);exact⟨v,z.keeps Uc⟩
   . show (own.map (λ_ => (none : Option V)) ++ fr.map λp => (Z[p.2]?).join).length = (own ++ fr.map (·.1)).length
     simp
 have TM:∀ {its:List Value} {H':Hp},(∀ b∈fp,H' b=none)->∀ b∈fp,oN (bU X scope cl own fr HP.objs.size s2 H2 fp) [(s2.heap.objs.size,gx its)] H' b:=λ{its H'} hn b hb =>
   ⟨hn b hb,(below b (VC b hb)).1,λhm=>by
       rcases List.mem_cons.mp (I2.nq b hm) with e | e
       . exact(f2 b hb).2.1 e
       . exact(f2 b hb).2.2.1 e,.inl hb,λx c e=>(f2 b hb).2.2.2.2.1 x c (R6 _ _ e),λp hp=>by
       have e1:p=(s2.heap.objs.size,gx its):=by
         have hp':p∈([]:List (Addr×Obj))++[(s2.heap.objs.size,gx its)]:=hp
         simpa using hp'
       subst e1;exact(below b (VC b hb)).2.symm⟩
 have WV : ∀ s3 : Shared, s3 = { s2 with heap := h1, toks := s2.toks + ([] : List (Str × Value)).length } ->
     codeAny (model X.prog X.w) X.A (.compLoop (.ListComp Ur [⟨tg,iter,Tv,0⟩] scope pos) 0 (.ref it) (.ref s2.heap.objs.size) (compEnvC scope cl HP.objs.size X.env)) (RR (.ref s2.heap.objs.size) HP.objs.size) s3:=by
   rintro s3 rfl
   refine AN (λn s'=>∃ i ys its Z' H',Inv (bU X scope cl own fr HP.objs.size s2 H2 fp) [(s2.heap.objs.size,gx its)] Z' H' s'/\aE ys its/\tn i s'.heap/\(∀ b∈fp,H' b=none)/\W i n ys Z' H') ?_ m0
     ⟨0,[],[],oA own fr Z,H2,IY,.nil,st1,λb hb=>(f2 b hb).1,w0⟩
   rintro n s3 ⟨i,ys,its,Z3,H3,I3,rv,st3,fr3,w3⟩;rcases TJ i n ys Z3 H3 w3 with ⟨stop,hz,qn⟩ | ⟨go,N,hN,step⟩
   . refine aaV (T.done (bU X scope cl own fr HP.objs.size s2 H2 fp) rfl rfl rfl hc i _ s3 Z3 H3 (λ_ _=>False) I3 (TM fr3) st3 stop) (λr s4 h4=>?_) λ_ _ f=>f.elim;obtain⟨hr,I4⟩:=h4;subst hr;obtain⟨eD,nD,_⟩:=I4.pin (s2.heap.objs.size,gx its) (by simp[bU]);obtain⟨m,hn,_⟩:=id I4.loc;have nC:H3 HP.objs.size=none:=I4.free;have bu:=I4.base;have J4:Inv X dv Z (upd H3 s2.heap.objs.size (.lst ys)) s4:=by
       refine I2.uK (ch:=fp) I4.os ⟨λb o e n hb hx=>bu.keep b o e n hb hx,λb o e n hb hx=>bu.slot b o e n hb hx,λb o e n hx=>?_,λb o e hx=>bu.there b o e hx,λb xs e=>?_,λb o u e=>?_,λb ps e=>?_⟩ ?_ I4.bare ?_
       . rw[af (below b (aav e)).2];exact bu.free b o e n hx
       . have z := bu.iC b xs e;rw[af (ae z nD)];exact z
       . have z := bu.fW b o u e;rw[af (ae z nD)];exact z
       . obtain⟨more, z⟩ := bu.iD b ps e;exact⟨more,by rw[af (ae z nD)];exact z⟩
       . intro b o e;by_cases hb:b=s2.heap.objs.size
         . subst hb;rw[U] at e;cases e
           exact⟨hz,its,its.length,rv,eD⟩
         . rw[af hb] at e;exact(I4.au b o e).iB (λc u _ q=>q) (λc q=>by rw[af (ae q nD)];exact q) λc xs q=>by rw[af (ae q nD)];exact q
       . intro b hb;exact⟨(f2 b hb).2.2.2.1,(f2 b hb).2.1,(f2 b hb).2.2.2.2.1,(f2 b hb).2.2.2.2.2⟩
     refine hR _ _ s4 H3 ys m nD J4 hn ⟨?_,?_,?_,?_,?_⟩ qn
     . rw[af hDC.symm];exact nC
     . exact abU (aaB I2.lt (by rw[hC];exact ack _))
     . exact aaR I2.sz (by rw[hC];exact ack _)
     . exact λx c e=>(below c (hcD x c e)).1
     . exact λp hp=>(below p.1 (aav (I2.pin p hp).1)).1
   . refine aaV (T.item (bU X scope cl own fr HP.objs.size s2 H2 fp) rfl rfl rfl hc i _ s3 Z3 H3 (λ_ _=>False) I3 (TM fr3) st3 go) (λr s4 h4=>?_) λ_ _ f=>f.elim;obtain⟨u,hr,h4⟩:=h4;subst hr;refine aaV h4 (λ_ s5 h5=>?_) λ_ _ f=>f.elim;obtain⟨x,H5,I5,r5,y5,Wd,fr5⟩:=h5;have I5':=I5.pinned (TM fr5) (T.obj _ _ Wd);refine aaV (hg _ _ _ _ _ s5 Z3 H5 x u _ I5' r5 (step x H5 y5)) (λ_ s6 h6=>?_) λ_ _ f=>f.elim;obtain⟨Z6,H6,I6,q6⟩:=h6;refine aaV (ht _ _ _ _ _ s6 Z6 H6 _ I6 q6) (λok s7 h7=>?_) λ_ _ f=>f.elim;obtain⟨H7,I7,q7⟩:=h7;have UR:∀ {Z8:St} {H8:Hp} {s8:Shared} {l:List (Addr×Obj)},Inv (bU X scope cl own fr HP.objs.size s2 H2 fp) (l++ik fp s5.heap) Z8 H8 s8->tn (i+1) s8.heap/\∀ b∈fp,H8 b=none:=λ{Z8 H8 s8 l} I8=>by
       refine⟨T.keep _ _ _ Wd λb hb o e=>(I8.pin (b,o) (aaz _ (aaz _ (iR hb e)))).1,λb hb=>?_⟩;obtain⟨o,e,_⟩:=T.obj _ _ Wd b hb;exact(I8.pin (b,o) (aaz _ (aaz _ (iR hb e)))).2.1
     cases ok with
     | false =>
       rw[if_neg aaw] at q7 ⊢;obtain⟨_,m',hm,w7⟩:=hN _ _ _ q7;exact⟨m',hm,i+1,ys,its,Z6,H7,I7.md,rv,(UR I7).1,(UR I7).2,w7⟩
     | true =>
       rw[if_pos rfl] at q7 ⊢;refine aaV (he _ _ _ _ _ s7 Z6 H7 _ I7 q7) (λy s8 h8=>?_) λ_ _ f=>f.elim;obtain⟨yv,H8,I8,r8,n8⟩:=h8;obtain⟨hlt',m',hm,w8⟩:=hN _ _ _ n8;have RJ:ys.length<aar:=by rw[aab] at hlt';exact hlt'
       obtain⟨eD,nD,nL,_,_⟩:=I8.pin (s2.heap.objs.size,gx its) (by simp[bU]);refine append_at (its:=its.toArray) (n:=its.length) (hsz:=by rw[aau,<- rv.length];exact adi RJ) eD λh9 sb9 eD9=>?_;have I8p:Inv (bU X scope cl own fr HP.objs.size s2 H2 fp) (ik fp s5.heap) Z6 H8 s8:=I8.pS λp hp=>I8.pin p (aaz _ (aaz _ hp));have I9p:Inv (bU X scope cl own fr HP.objs.size s2 H2 fp) (ik fp s5.heap) Z6 H8 { s8 with heap:=h9 } :=
         I8p.turned (t':=s8.toks) (λb o hb e=>(sb9.2 b hb).trans e) nD nL (.inr (aai _)) (λx c e=>(below c (hcD x c (R6 _ _ e))).2) λp hp=>by
           have hp':p∈ik fp s5.heap:=by simpa [bU] using hp
           exact(below p.1 (VC _ (wQ hp').1)).2
       have eD9':h9.get? s2.heap.objs.size=some (gx (its++[y])):=eD9.trans (congrArg some (FH its y));have I9:Inv (bU X scope cl own fr HP.objs.size s2 H2 fp) [(s2.heap.objs.size,gx (its++[y]))] Z6 H8 { s8 with heap:=h9 }:=I9p.pS (V8 eD9' nD);have K9:=UR (l:=[]) (by simpa using I9p);exact⟨m',hm,i+1,ys++[yv],its++[y],Z6,H8,I9,rv.append (.cons r8 .nil),K9.1,K9.2,w8⟩
 exact codeAny_compStart_list (WV _ rfl) (T.self _ 0 _ _ _ st1 (WV _ rfl))
def Ec (own:List Str)(fr:List (Str×Nat))(wi:TI)(g:TG)(tc:TT)(te:TE):TE:=λZ H Q=>C7 own fr wi g tc te (λys H3=>∀ p,H3 p=none->Q (.ref p) (upd H3 p (.lst ys))) Z H
theorem bB (hc:X.calm=true)(S:ye X scope cl own fr)(hi:PI X tg iter wi)(hg:∀ C s2 H2 fp,PG (bU X scope cl own fr C s2 H2 fp) tg g)
   (ht:∀ C s2 H2 fp,Fy (bU X scope cl own fr C s2 H2 fp) Tv tc) (he:∀ C s2 H2 fp,PE (bU X scope cl own fr C s2 H2 fp) Ur te)
   (hs:∀ x,foldedSetIterable iter X.env x=pure x:=by intro _;rfl):PE X (.ListComp Ur [⟨tg,iter,Tv,0⟩] scope pos) (Ec own fr wi g tc te):=by
 intro dv s Z H Q I h;rw[eval_ListComp];refine wpAny_comprehension_free (use:=none) rfl hs S.M8 S.kind S.names ?_;refine wc hc S hi hg ht he I h λD C s4 H3 ys m nD J hn off q=>?_;refine⟨m,hn,λh' sb=>⟨.ref D,_,J.turned (t':=s4.toks) (λb o hb e=>(sb.2 b hb).trans e) off.none off.loc (.inr off.above) off.cell off.pin,rfl,q D nD⟩⟩
def EC (i:Nat)(own:List Str)(fr:List (Str×Nat))(wi:TI)(g:TG)(tc:TT)(te:TE):TS:=λD Z H=>C7 own fr wi g tc te (λys H3=>∀ p,H3 p=none->cU i (.ref p) Z (upd H3 p (.lst ys)) D.nx) Z H
variable {i:Nat}
theorem gU {y:Str}{py spos:Pos}(hN:X.N.Nodup)(Tz:X.N[i]? = some y)(hx:X.env.scope.names.lookup y=some .local)(hc:X.calm=true)(S:ye X scope cl own fr)(hi:PI X tg iter wi)(hg:∀ C s2 H2 fp,PG (bU X scope cl own fr C s2 H2 fp) tg g)
   (ht:∀ C s2 H2 fp,Fy (bU X scope cl own fr C s2 H2 fp) Tv tc) (he:∀ C s2 H2 fp,PE (bU X scope cl own fr C s2 H2 fp) Ur te)
   (hsw:swapsWith (.ListComp Ur [⟨tg,iter,Tv,0⟩] scope pos) (some (.Name y py)) spos.line X.env=pure true:=by rfl)
   (hs:∀ x,foldedSetIterable iter X.env x=pure x:=by intro _;rfl):PS X (.Assign [.Name y py] (.ListComp Ur [⟨tg,iter,Tv,0⟩] scope pos) spos) (EC i own fr wi g tc te):=by
 intro dv s Z H D I h;rw[exec_Assign_Name_used _ _ _ _ hsw];refine aaf (wpAny_standAt (aaf ?_));show wpAny _ X.A (do let _ <- comprehension (.ListComp Ur [⟨tg,iter,Tv,0⟩] scope pos) scope X.env _ (newList []) false (eval iter X.env) (some (assign (.Name y py) X.env))) _ _ s;refine aaf (aaV (wpAny_comprehension_free (use:=some (assign (.Name y py) X.env)) (Q:=λ_ s'=>SP X dv D .next s') rfl hs S.M8 S.kind S.names ?_) (λ_ s' hq=>aat (aat hq)) λ_ _ e=>e);refine wc hc S hi hg ht he I h λDa C s4 H3 ys m nD J hn off q=>?_;show wpAny _ X.A (assign (.Name y py) X.env (.ref Da)) _ _ _;refine wpAny_assign_Name (wY J hN Tz (.inl hx) (v:=.ref Da) rfl (λs5 I5 hsb=>?_) (.inr hx));obtain⟨a,sb,ha⟩:=hsb;have nCa:C≠a:=by
   rcases ha with z | z
   . rw[z];exact off.loc
   . exact(off.cell _ _ z).symm
 refine⟨m,hn.sameBut sb nCa,λh' sb'=>⟨_,_,I5.turned (t':=s5.toks) (λb o hb e=>(sb'.2 b hb).trans e) off.none off.loc (.inr off.above) off.cell off.pin,(pZ _ _ _ _).1 (q Da nD)⟩⟩
end
section
variable {K:W.Frag} {a:Addr} {xs:List V} {own:List Str} {fr:List (Str×Nat)} {g:TG} {tc:TT} {te:TE} {RN:List V->Hp->Prop} {Z : St} {H:Hp}
def eK (J:It)(g:TG)(tc:TT)(te:TE)(RN:List V->Hp->Prop)(Z0:St)(H1:Hp):Prop :=
 ∃ W:Nat->Nat->List V->St->Hp->Prop,(∃ m,W 0 m [] Z0 H1)/\∀ i m ys Z' H',W i m ys Z' H' ->
   (J.stop i H'/\ys.length<=aar/\RN ys H') ∨
   (J.go i H'/\∃ N:List V->St->Hp->Prop,(∀ SK Z2 H2,N SK Z2 H2->SK.length<=aar/\∃ m',m'<m/\W (i+1) m' SK Z2 H2) /\
     ∀ x H2,J.qX i H' x H2->g x Z' H2 λZ3 H3=>tc Z3 H3 λb H4=>if b=true then te Z3 H4 λy H5=>N (ys++[y]) Z3 H5 else N ys Z3 H4)
variable {Z0:St}
theorem bz (Pv:Nat->List V->St->Hp->Prop)(h0:Pv 0 [] Z0 H)(hl:∀ i ys Z H,i<=xs.length->Pv i ys Z H->av K H a xs/\ys.length<=aar)
   (hs:∀ i x ys Z H,xs[i]? = some x->Pv i ys Z H->g x Z H λZ3 H3=>tc Z3 H3 λb H4=>if b=true then te Z3 H4 λy H5=>Pv (i+1) (ys++[y]) Z3 H5 else Pv (i+1) ys Z3 H4)
   (hd:∀ ys Z H,Pv xs.length ys Z H->RN ys H):eK (uA K a) g tc te RN Z0 H:=by
 refine⟨λi m ys Z H=>m=xs.length - i/\i<=xs.length/\Pv i ys Z H,⟨xs.length,by simp,aaW _,h0⟩,?_⟩;rintro i m ys Z H ⟨rfl,hi,p⟩;obtain⟨q,hz⟩:=hl i ys Z H hi p;by_cases RJ:i<xs.length
 . refine .inr ⟨⟨xs, xs[i], q, by simp[RJ]⟩, Pv (i + 1), λSK Z2 H2 p' => ⟨(hl (i + 1) SK Z2 H2 RJ p').2, xs.length - (i + 1), by omega, rfl, RJ, p'⟩, λx H2 y => ?_⟩;obtain⟨e,y⟩:=y;subst e;exact hs i x ys Z _ (y xs q) p
 . have e : i = xs.length := by omega
   subst e;exact .inl ⟨⟨xs,q,aai _⟩,hz,hd ys Z H p⟩
variable {n:Nat}
theorem ux {lo:Int}(Pv:Nat->List V->St->Hp->Prop)(h0:Pv 0 [] Z0 H)(hl:∀ i ys Z H,i<=n->Pv i ys Z H->ys.length<=aar)
   (hs:∀ i ys Z H,i<n->Pv i ys Z H->g (.int (lo+i)) Z H λZ3 H3=>tc Z3 H3 λb H4=>if b=true then te Z3 H4 λy H5=>Pv (i+1) (ys++[y]) Z3 H5 else Pv (i+1) ys Z3 H4)
   (hd:∀ ys Z H,Pv n ys Z H->RN ys H):eK (ui lo n) g tc te RN Z0 H:=by
 refine⟨λi m ys Z H=>m=n - i/\i<=n/\Pv i ys Z H,⟨n,by simp,aaW _,h0⟩,?_⟩;rintro i m ys Z H ⟨rfl,hi,p⟩;by_cases RJ:i<n
 . refine .inr ⟨RJ, Pv (i + 1), λSK Z2 H2 p' => ⟨hl (i + 1) SK Z2 H2 RJ p', n - (i + 1), by omega, rfl, RJ, p'⟩, λx H2 y => ?_⟩;obtain⟨e,y⟩:=y;subst e y;exact hs i ys Z _ RJ p
 . have e : i = n := by omega
   subst e;exact .inl ⟨aai _,hl _ ys Z H hi p,hd ys Z H p⟩
end
open PySem PySem.Spec PyProof.Rows L2 PySem.SeqAt
variable {o:HO} {p q:Addr} {H:Hp}
theorem ak {u:HO}(hq:H q=some u)(hp:H p=none):upd H p o q=some u:=by
 rw[af (ae hq hp)];exact hq
theorem uU {u:Option HO}(Tp:q≠p)(hq:H q=u):upd H p o q=u:=by
 rw[af Tp];exact hq
theorem eO (h:upd H p o q=none):H q=none/\q≠p:=by
 by_cases e:q=p
 . subst e;rw[U] at h;cases h
 . rw[af e] at h;exact⟨h,e⟩
theorem ag (h:H p=none):ah H (upd H p o):=λb u q=>ak q h
variable {H1:Hp}
theorem lR (s:ah H H1)(h:H p=none):ah H (upd H1 p o):=λb u q=>by
 rw[af (ae q h)];exact s b u q
variable {xs:List V} {H':Hp}
theorem bf {K:W.Frag}{a:Addr}(e:ah H H')(h:az K H a xs):az K H' a xs:=by
 rcases h with (h | ⟨o,h⟩) | h
 . exact .inl (.inl (e _ _ h))
 . exact .inl (.inr ⟨o,e _ _ h⟩)
 . exact .inr h
mutual
def Dp (K:W.Frag)(H:Hp):PyData->V->Prop
 | .none,v=>v=.ax
 | .bool b,v=>v=.bl b
 | .int i,v=>v=.int i
 | .str x,v=>v=.str x
 | .list ds,v=>∃ a xs,v=.ref a/\av K H a xs/\df K H ds xs
 | .tuple ds,v=>∃ a xs,v=.ref a/\az K H a xs/\df K H ds xs
 | .dict _,_=>False
def df (K:W.Frag)(H:Hp):List PyData->List V->Prop
 | [],vs=>vs=[]
 | d::ds,vs=>∃ v r,vs=v::r/\Dp K H d v/\df K H ds r
end
theorem cG {K:W.Frag}(i:Int):Dp K H (.int i) (.int i):=by rw[Dp]
theorem si {K:W.Frag}(x:Str):Dp K H (.str x) (.str x):=by rw[Dp]
theorem kS {K:W.Frag}{a:Addr}{ds:List PyData}(h:av K H a xs)(q:df K H ds xs):Dp K H (.list ds) (.ref a):=by
 rw[Dp];exact⟨a,_,rfl,h,q⟩
theorem eh {K:W.Frag}{a:Addr}{ds:List PyData}(h:az K H a xs)(q:df K H ds xs):Dp K H (.tuple ds) (.ref a):=by
 rw[Dp];exact⟨a,_,rfl,h,q⟩
theorem b8 {K:W.Frag}:df K H [] []:=by rw[df]
theorem aI {K:W.Frag}{d:PyData}{ds:List PyData}{v:V}{r:List V}(h:Dp K H d v)(q:df K H ds r):df K H (d::ds) (v::r):=by
 rw[df];exact⟨_,_,rfl,h,q⟩
section
variable {X:Cx} {dv:List (Addr×Obj)} {Z : St} {H:Hp} {s:Shared}
mutual
theorem jg (I:Inv X dv Z H s):∀ (d:PyData) (v:V) (u:Value),Dp X.K H d v->RelV v u->∃ as,Reads s.heap u d as
 | .none, v, u, h, r => by
   rw[Dp] at h;subst h;cases (show u=acg from r);exact⟨_,.none⟩
 | .bool b, v, u, h, r => by
   rw[Dp] at h;subst h;cases (show u=acV b from r);exact⟨_,.bool b⟩
 | .int i, v, u, h, r => by
   rw[Dp] at h;subst h;obtain⟨t,e⟩:=(show ∃ t,u=aa3 i t from r);subst e;exact⟨_,.int i t⟩
 | .str x, v, u, h, r => by
   rw[Dp] at h;subst h;obtain⟨t,e⟩:=(show ∃ t,u=adv x t from r);subst e;exact⟨_,.str x t⟩
 | .list ds, v, u, h, r => by
   rw[Dp] at h;obtain⟨a,xs,e,hq,ha⟩:=h;subst e;cases (show u=aaK a from r)
   obtain⟨its,rv,pl,hz⟩:=I.list hq;obtain⟨o,ho,hc,n,hd⟩:=pl.isList;obtain⟨as,z⟩:=ko I ds xs its ha rv;exact⟨_,.list ho hc hd (by simpa using z)⟩
 | .tuple ds, v, u, h, r => by
   rw[Dp] at h;obtain⟨a,xs,e,hq,ha⟩:=h;subst e;cases (show u=aaK a from r)
   obtain⟨its,rv,pl,hz⟩:=I.tuple hq;obtain⟨o,ho,hc,n,hd⟩:=pl;obtain⟨as,z⟩:=ko I ds xs its ha rv;exact⟨_,.tuple ho hc hd (by simpa using z)⟩
 | .dict _,v,u,h,r=>by rw[Dp] at h;exact h.elim
theorem ko (I:Inv X dv Z H s):∀ (ds:List PyData) (vs:List V) (us:List Value),df X.K H ds vs->aE vs us->∃ as,ReadsAll s.heap us ds as
 | [], vs, us, h, r => by
   rw[df] at h;subst h;cases r;exact⟨_,.nil⟩
 | d :: ds, vs, us, h, r => by
   rw[df] at h;obtain⟨v,rr,e,h1,h2⟩:=h;subst e;cases r with
   | cons r1 r2 =>
     obtain⟨as,z1⟩:=jg I d _ _ h1 r1;obtain⟨bs,z2⟩:=ko I ds _ _ h2 r2;exact⟨_,.cons z1 z2⟩
end
end
def MS (K:W.Frag):R2:=λx y H Q=>∃ dx dy,Dp K H dx x/\Dp K H dy y/\shaped dx=true/\shaped dy=true/\Q (.bl (adA dx dy)) H
def LW (K:W.Frag):R2:=λx y H Q=>∃ dx dy,Dp K H dx x/\Dp K H dy y/\shaped dx=true/\shaped dy=true/\Q (.bl (!PyData.eqv dx dy)) H
def BR (K:W.Frag):R2:=λx y H Q=>Pr x y H Q∨MS K x y H Q
def uY (K:W.Frag):R2:=λx y H Q=>Pf x y H Q∨LW K x y H Q
section
variable {X:Cx}
theorem MG (hu:X.A.units+64<cLine):bO X (aa2 .Eq) (MS X.K):=by
 intro dv s Z H x y v u Q I rx ry h;obtain⟨dx,dy,hx,hy,sx,sy,q⟩:=h;obtain⟨as,ra⟩:=jg I dx x v hx rx;obtain⟨bs,rb⟩:=jg I dy y u hy ry;exact eq_dataH ra rb sx sy hu ⟨.bl _,H,I,rfl,q⟩
theorem Ls (hu:X.A.units+64<cLine):bO X (aa2 .NotEq) (LW X.K):=by
 intro dv s Z H x y v u Q I rx ry h;obtain⟨dx,dy,hx,hy,sx,sy,q⟩:=h;obtain⟨as,ra⟩:=jg I dx x v hx rx;obtain⟨bs,rb⟩:=jg I dy y u hy ry;exact ne_dataH ra rb sx sy hu ⟨.bl _,H,I,rfl,q⟩
theorem MP (hu:X.A.units+64<cLine):bO X (aa2 .Eq) (BR X.K):=Oj.or (MG hu)
theorem LC (hu:X.A.units+64<cLine):bO X (aa2 .NotEq) (uY X.K):=OS.or (Ls hu)
end
theorem Fi (d:PyData)(h:shaped d=true):d.canLay0=true:=(Bool.and_eq_true_iff.mp h).1
variable {Q:VK} {y:V}
theorem IF {K:W.Frag}{x:V}(h:BS x y=true)(q:Q (.bl (decide (x=y))) H):BR K x y H Q:=.inl ⟨h,q⟩
theorem I_ {K:W.Frag}{x:V}(h:BS x y=true)(q:Q (.bl (!decide (x=y))) H):uY K x y H Q:=.inl ⟨h,q⟩
theorem IC {K:W.Frag}{x:V}(d:PyData)(hx:Dp K H d x)(hy:Dp K H d y)(hs:shaped d=true)(q:Q (.bl false) H):uY K x y H Q :=
 .inr ⟨d,d,hx,hy,hs,hs,by rw[eqv_refl d (Fi d hs)];exact q⟩
def g_:V->Value
 | .ty n=>.type n
 | .ref a=>.ref a
 | _=>.none
theorem yh {c:V}{u:Value}(r:RelV c u)(h:g_ c≠.none):u=g_ c:=by
 cases c <;> first | exact r | exact(h rfl).elim
def nZ (K:W.Frag):List V->Hp->VK->Prop:=λxs H Q=>∃ x c t b,xs=[x,c]/\g_ c≠.none/\bH K H x t/\aba K t (g_ c)=some b/\Q (.bl b) H
theorem GQ:bZ X (.builtin "isinstance") (nZ X.K):=by
 intro dv s Z H xs us Q I r h;obtain⟨x,c,t,b,rfl,hc,ty,e,q⟩:=h;obtain⟨u,w',rfl,rx,rc⟩:=vals2 r;cases yh rc hc
 exact DI I rx ty e λtk=>⟨.bl b,H,I.tok _,rfl,q⟩
theorem eY {K:W.Frag}{x c:V}{t:Value}{b:Bool}(hc:g_ c≠.none)(ty:bH K H x t)(e:aba K t (g_ c)=some b)(q:Q (.bl b) H):nZ K [x,c] H Q:=⟨x,c,t,b,rfl,hc,ty,e,q⟩
def Gv (K:W.Frag):List V->Hp->VK->Prop:=λxs H Q=>∃ (p:Addr) (bs:List Bool),xs=[.ref p]/\av K H p (bs.map V.bl)/\Q (.bl (bs.all id)) H
theorem all_range (bs:List Bool):(aaU bs.length).all (λi=>bs.getD i false)=bs.all id:=by
 induction bs with
 | nil=>rfl
 | cons b r ih =>
   rw[aaq,ac8,abB,abB,ab5];rw[<- ih];rfl
theorem HV (hc:X.calm=true):bZ X (.builtin "all") (Gv X.K):=by
 intro dv s Z H xs us Q I r h;obtain⟨p,bs,rfl,hq,q⟩:=h;obtain⟨u,rfl,rx⟩:=vals1 r;cases rx
 obtain⟨its,rv,pl,hz⟩:=I.list hq;have Bn:=rv.length;rw[aaa] at Bn;have RJ:p<s.heap.objs.size:=by obtain⟨o,e,_⟩:=pl.isList;exact aav e
 refine call_all_walk (abt pl.isList ?_);refine⟨s.heap.objs.size,_,_,_,_,_,λi=>bs.getD i false,rfl,Walks.list (by exact I.ok.hd hc) s.heap.objs.size p (aaH RJ) its.toArray,⟨⟨_,aay _ rfl,rfl,rfl⟩,pl.isList.push _⟩,?_,?_⟩
 . intro i v s' Q' E' hP hQ';have V1:its[i]? = some v:=by simpa using hP
   have hi:i<its.length:=(List.getElem?_eq_some_iff.mp V1).1;have hb:(bs.map V.bl)[i]? = some (V.bl (bs.getD i false)):=by
     rw[aae,aac (by omega)];simp[List.getD,aac (show i<bs.length by omega)]
   obtain⟨u',U5,ru'⟩:=rv.get hb;rw[V1] at U5;cases U5
   cases (show v=acV _ from ru')
   exact aa9 hQ'
 . intro h' tk kk;have e:(aaU its.toArray.size).all (λi=>bs.getD i false)=bs.all id:=by
     rw[aau,<- Bn];exact all_range bs
   rw[e];refine⟨.bl _,H,?_,rfl,q⟩;have I1:Inv X dv Z H { s with heap:=s.heap.push { cls:=.type "list_iterator",data:=.fields #[.ref p,.int 0 0] } }:=I.kept (t':=s.toks) λb o e=>aaj _ e;have f:=I.lN (H':=H) (aai _) I.fresh;exact I1.turned (it:=s.heap.objs.size) (h':=h') (t':=tk) (λb o hb e=>kk b o (by simpa using hb) e) f.1 f.2.1 f.2.2.2.1 f.2.2.2.2.1 f.2.2.2.2.2
theorem CM:typeLookup (.type "bool") "__index__" = pure (some (.builtin "int.__index__")):=by rw[typeLookup_type,builtinLookup_eq_fast];kernel_rfl
variable {s:Shared}
theorem nJ {M : Model}{A : Around}{E : Value -> Shared -> Prop}{b : Bool}{Q : Option Int -> Shared -> Prop}(h : Q (some (if b then 1 else 0)) s) :
   wpAny M A (acj (.bool b)) Q E s:=by
 unfold acj;refine aaf (wpAny_specialOf (T:="bool") (show s.TypeIs (.bool b) "bool" from rfl) CM ?_);show wpAny M A (asIndex (.bool b) >>= _) Q E s;refine aaf (wpAny_of_eq (a:=if b then 1 else 0) rfl ?_);show wpAny M A (if (!Builtin.List.listFitsIndex (if b then 1 else 0))=true then _ else _) Q E s;rw[if_neg (by cases b <;> decide)];exact aat h
variable {l:Addr}
theorem p9 {prog:Program}{w:World}{A:Around}{E:Value->Shared->Prop}{items:Array Value}{b:Bool}{x:Value}{Q:Value->Shared->Prop}(hl:s.heap.IsList l items)
   (hx:items[if b then 1 else 0]? = some x) (h:Q x s):wpAny (model prog w) A (getItem (.ref l) (.bool b)) Q E s:=by
 obtain⟨o,ho,hc,ne,hd⟩:=id hl;unfold getItem
 try with_reducible refine abw ?_
 first | refine aaf (aat ?_) | skip
 refine aaf (wpAny_sequenceKey hl.typeIs (by decide) ?_)
 refine aaf (acq (name:=abS "__getitem__") hl.typeIs slot_list_getitem
   (acH slot_list_getitem hl.typeIs entry_list_getitem ?_ (args_list_getitem _ _)))
 show wpAny _ _ (acj (.bool b) >>= _) _ _ s;refine aaf (nJ ?_);cases b with
 | true =>
   have SG:items[1]? = some x:=hx;show wpAny _ _ ((seqItemAt l 1 >>= λr=>pure (r.map (1,·))) >>= _) _ _ s;refine aaf (aaf (wpAny_seqItemAt ho hd (aat ?_)));rw[SG]
   first
     | exact aaf (aat (aat ⟨x,rfl,aat h⟩))
     | exact aat ⟨x,rfl,aat h⟩
 | false =>
   have SG:items[0]? = some x:=hx;show wpAny _ _ ((seqItemAt l 0 >>= λr=>pure (r.map (0,·))) >>= _) _ _ s;refine aaf (aaf (wpAny_seqItemAt ho hd (aat ?_)));rw[SG]
   first
     | exact aaf (aat (aat ⟨x,rfl,aat h⟩))
     | exact aat ⟨x,rfl,aat h⟩
def K4 (K:W.Frag):R2:=λx y H Q=>∃ p xs b v,x=.ref p/\y=.bl b/\av K H p xs/\xs[if b then 1 else 0]? = some v/\Q v H
theorem Kr:m9 X (K4 X.K):=by
 intro value RT dv s Z H x y v u Q I rx ry h hs;obtain⟨p,xs,b,z,rfl,rfl,hq,he,q⟩:=h;cases rx
 cases ry
 obtain⟨its,r,pl,hz⟩:=I.list hq;obtain⟨w,ew,Tt⟩:=r.get he
 exact ado (x:=w) pl.isList.typeIs slot_list_getitem.lookup
   (p9 (Q:=λr s'=>r=w/\EP X dv Z Q r s') pl.isList (by simpa using ew) ⟨rfl,z,H,I,Tt,q⟩) hs
def Ai (K:W.Frag):R2:=λx y H Q=>Pj K x y H Q∨K4 K x y H Q
theorem L_:m9 X (Ai X.K):=Nc.or Kr
theorem Og {K:W.Frag}{i:Int}{v:V}(h:av K H p xs)(e:cI xs i=some v)(q:Q v H):Ai K (.ref p) (.int i) H Q:=.inl (.inl ⟨p,xs,i,v,rfl,rfl,h,e,q⟩)
theorem CV {K:W.Frag}{i:Int}{v:V}(h:az K H p xs)(e:cI xs i=some v)(q:Q v H):Ai K (.ref p) (.int i) H Q:=.inl (.inr (.inl ⟨p,xs,i,v,rfl,rfl,h,e,q⟩))
def P1:R2:=λx y H Q=>∃ i j,x=.str i/\y=.str j/\i.length+j.length<=aar/\Q (.str (i++j)) H
def uk (K:W.Frag):R2:=λx y H Q=>mM (λi j=>.int (i+j)) x y H Q∨LA x y H Q∨Ij K x y H Q∨P1 x y H Q
theorem Jp:bO X (abV .Add) (uk X.K):=Ln.or (LR.or (Kp.or Dt))
variable {j:Int}
theorem JO {K:W.Frag}{i:Int}(q:Q (.int (i+j)) H):uk K (.int i) (.int j) H Q:=.inl q
variable {ys:List V}
theorem bA {K:W.Frag}{a b:Addr}(ha:H a=some (.lst xs))(hb:H b=some (.lst ys))(hz:xs.length+ys.length<=aar)(q:∀ p,H p=none->Q (.ref p) (upd H p (.lst (xs++ys)))) :
   uk K (.ref a) (.ref b) H Q:=.inr (.inl ⟨a,b,xs,ys,rfl,rfl,ha,hb,hz,q⟩)
def B5 (K:W.Frag):V->Option Int->Option Int->Hp->VK->Prop:=λx lo hi H Q=>K6 K x lo hi H Q∨Me K x lo hi H Q
theorem Ng:ud X (B5 X.K):=JU.or KS
structure iI (P:Program)(w:World)(K:W.Frag)(mg:Str->Option Value)(base:Heap)(CX:dB)(k:Nat)(x:Str)(sp:Sp):Prop where
 ex:∃ (f:Addr) (fd:abc) (ps:List Str),cW P w K mg base CX k f fd ps sp/\mg x=some (.ref f)/\abz K (.ref f)=true/\Binds K fd ps []
structure iQ (P:Program)(w:World)(K:W.Frag)(mg:Str->Option Value)(base:Heap)(CX:dB)(k:Nat)(C:Addr)(m:Str)(sp:Sp):Prop where
 cl:dQ K C
 ex:∃ (f:Addr) (fd:abc) (ps:List Str),vd K C m f/\cW P w K mg base CX k f fd ps sp/\Binds K fd ps []
structure EO (P:Program)(w:World)(K:W.Frag)(mg:Str->Option Value)(base:Heap)(CX:dB)(k:Nat)(x:Str)(C:Addr)(sp:Sp):Prop where
 ex:∃ (f:Addr) (fd:abc) (ps:List Str),Mk K C f/\cW P w K mg base CX k f fd ps sp/\mg x=some (.ref C)/\Binds K fd ps []
variable {C:Addr}
theorem iQ.mono {P:Program}{w:World}{K:W.Frag}{mg:Str->Option Value}{base:Heap}{CX:dB}{j k:Nat}{m:Str}{sp:Sp}(M:iQ P w K mg base CX j C m sp)(h:j<=k):iQ P w K mg base CX k C m sp:=by
 obtain⟨f,fd,ps,a,b,c⟩:=M.ex;exact⟨M.cl,f,fd,ps,a,b.mono h,c⟩
@[reducible] def zF (sp:Sp) (E:XK) (t:TA):TE:=λZ H Q=>t Z H λvs H1=>sp vs H1 Q E
@[reducible] def yr (C:Addr) (sp:Sp) (E:XK) (t:TA):TE:=λZ H Q=>t Z H λvs H1=>∀ x dx,H1 x=none->H1 dx=none->dx≠x ->
 sp (.ref x::vs) (upd (upd H1 dx (.own x)) x (.ins C dx [])) (λv H2=>v=.ax/\Q (.ref x) H2) E
def IT (P:Program)(w:World)(K:W.Frag)(mg:Str->Option Value)(base:Heap)(CX:dB)(k:Nat)(m:Str)(E:XK)(Z : St)(t:TA):V->Hp->VK->Prop:=λx H1 Q =>
 ∃ a C dx fs sp,x=.ref a/\H1 a=some (.ins C dx fs)/\fs.lookup m=none/\iQ P w K mg base CX k C m sp/\t Z H1 λvs H2=>sp (.ref a::vs) H2 Q E
@[reducible] def kE (P:Program) (w:World) (K:W.Frag) (mg:Str->Option Value) (base:Heap) (CX:dB) (k:Nat) (m:Str) (E:XK) (ta:TE) (t:TA):TE:=λZ H Q=>ta Z H λx H1=>IT P w K mg base CX k m E Z t x H1 Q
section
variable {X:Cx} {CX:dB} {k:Nat} {C:Addr} {sp:Sp} {E:XK} {x m:Str} {p pos RL:Pos} {e o:Expr} {es:List Expr} {ta:TE} {t:TA}
theorem aQ (G : iI X.prog X.w X.K X.mg X.base CX k x sp)(hr : bG k X.A)(hx : dj CX X E)(hg : Gl X x)(ha : PA X (e :: es) t)(Sd : (x == ("__debug__" : Str)) = false := by decide)
   (he:aas (e::es) X.env=(false,eval e X.env)::aas es X.env:=by rfl) (RM:(backTo pos (aas es X.env)).any (·.1)=false:=by rfl):PE X (.Call (.Name x p) (e::es) [] pos) (zF sp E t):=by
 obtain⟨f,fd,ps,F,hm,hk,hb⟩:=G.ex;have z:=Bk (p:=p) (pos:=pos) F hr hg hm hk hb .nil hx ha Sd he RM;intro dv s Z H Q I h;refine z dv s Z H Q I ?_;have e1:IM sp [] E t=zF sp E t:=by
   funext Z H Q
   show t Z H (λvs H1=>sp (vs++[]) H1 Q E)=t Z H (λvs H1=>sp vs H1 Q E);simp only[aaJ]
 rw[e1];exact h
theorem dA (G : EO X.prog X.w X.K X.mg X.base CX k x C sp)(hr : bG (k + 1) X.A)(hx : dj CX X E)(hg : Gl X x)(ha : PA X (e :: es) t)(Sd : (x == ("__debug__" : Str)) = false := by decide)
   (he:aas (e::es) X.env=(false,eval e X.env)::aas es X.env:=by rfl) (RM:(backTo pos (aas es X.env)).any (·.1)=false:=by rfl):PE X (.Call (.Name x p) (e::es) [] pos) (yr C sp E t):=by
 obtain⟨f,fd,ps,M,F,hm,hb⟩:=G.ex;have z:=Jx (p:=p) (pos:=pos) M F hr hg hm hb .nil hx ha Sd he RM;intro dv s Z H Q I h;refine z dv s Z H Q I ?_;have e1:IU C sp [] E t=yr C sp E t:=by
   funext Z H Q
   show t Z H (λvs H1=>∀ x dx,H1 x=none->H1 dx=none->dx≠x->sp (.ref x::(vs++[])) _ _ E)=t Z H (λvs H1=>∀ x dx,H1 x=none->H1 dx=none->dx≠x->sp (.ref x::vs) _ _ E);simp only[aaJ]
 rw[e1];exact h
theorem Hc {pl:Sem Bool}(he:PE X o ta)(hr:bG k X.A)(hx:dj CX X E)(ha:PA X (e::es) t)
   (RU:aas (e::es) X.env=(false,eval e X.env)::aas es X.env:=by rfl) (RM:(backTo pos (aas es X.env)).any (·.1)=false:=by rfl)
   (ht : eval (.Call (.Attribute o m RL) (e :: es) [] pos) X.env = (do
     let ov <- eval o X.env
     standAt RL.atName
     let (f,first) <- holding [ov] (adu ov m pl)
     callWith pos f first (backTo pos (aas (e::es) X.env)) (acZ pos (abX [] X.env))):=by rfl) :
   PE X (.Call (.Attribute o m RL) (e::es) [] pos) (kE X.prog X.w X.K X.mg X.base CX k m E ta t):=by
 intro dv s Z H Q I h;refine W.methodCall_KW (pl:=pl) (aL (he dv s Z H _ I h) λu s1 zq=>?_) ht;obtain⟨x,H1,I1,rx,a,C,dx,fs,sp,ex,ea,l,M,q⟩:=zq;subst ex;obtain rfl:u=aaK a:=rx;obtain⟨f,fd,ps,hm,F,hb⟩:=M.ex;refine su I1 ea M.cl hm l ?_;refine W.callWith_K (first:=[.ref a]) (h₀:=X.base) I.ok.mod.yF hm.kp (aL (ha pos dv s1 Z H1 _ I1 q) λus s2 zq=>bF zq λvs H2 I2 r q2=>⟨I2.cZ,?_⟩) RU RM;exact yd (us:=.ref a::us) (vs:=.ref a::vs) F hr hb .nil hx I2 (.cons rfl r) (by rw[aaJ];exact q2)
theorem En {pl:Sem Bool}(he:PE X o ta)(hr:bG k X.A)(hx:dj CX X E)
   (ht : eval (.Call (.Attribute o m RL) [] [] pos) X.env = (do
     let ov <- eval o X.env
     standAt RL.atName
     let (f,first) <- holding [ov] (adu ov m pl)
     callWith pos f first (backTo pos (aas [] X.env)) (acZ pos (abX [] X.env))):=by rfl) :
   PE X (.Call (.Attribute o m RL) [] [] pos) (kE X.prog X.w X.K X.mg X.base CX k m E ta GW):=by
 intro dv s Z H Q I h;refine W.methodCall_KW (pl:=pl) (aL (he dv s Z H _ I h) λu s1 zq=>?_) ht;obtain⟨x,H1,I1,rx,a,C,dx,fs,sp,ex,ea,l,M,q⟩:=zq;subst ex;obtain rfl:u=aaK a:=rx;obtain⟨f,fd,ps,hm,F,hb⟩:=M.ex;refine su I1 ea M.cl hm l ?_;exact W.callWith_K0 (first:=[.ref a]) I1.cZ hm.kp (yd (us:=[.ref a]) (vs:=[.ref a]) F hr hb .nil hx I1 (.cons rfl .nil) q)
end
theorem du:aaY "len" = some (.builtin "len"):=by decide +kernel
theorem pV:aaY "all" = some (.builtin "all"):=by decide +kernel
theorem aZ:aaY "isinstance" = some (.builtin "isinstance"):=by decide +kernel
theorem O0:aaY "int" = some (.type "int"):=by decide +kernel
theorem Nr:aaY "bool" = some (.type "bool"):=by decide +kernel
theorem lC:aaY "list" = some (.type "list"):=by decide +kernel
theorem i6:aaY "tuple" = some (.type "tuple"):=by decide +kernel
theorem Om:aaY "str" = some (.type "str"):=by decide +kernel
def uV (K:W.Frag):List V->Hp->VK->Prop:=λxs H Q=>∃ x n,xs=[x]/\L9 K x H n/\Q (.int n) H
theorem EH:bZ X (.builtin "len") (uV X.K):=HK
theorem dH {K:W.Frag}(h:av K H p xs)(q:Q (.int xs.length) H):uV K [.ref p] H Q:=⟨.ref p,xs.length,rfl,.inl ⟨xs,h,rfl⟩,q⟩
theorem pf {K:W.Frag}(h:az K H p xs)(q:Q (.int xs.length) H):uV K [.ref p] H Q:=⟨.ref p,xs.length,rfl,.inr ⟨xs,h,rfl⟩,q⟩
def Gm (K:W.Frag):List V->Hp->VK->Prop:=λxs H Q=>∃ p ys,xs=[.ref p]/\(av K H p ys∨az K H p ys)/\∀ l,H l=none->Q (.ref l) (upd H l (.lst ys))
theorem Cf:bZ X (.type "list") (Gm X.K):=yV
theorem Kt {K:W.Frag}(h:av K H p xs)(q:∀ l,H l=none->Q (.ref l) (upd H l (.lst xs))):Gm K [.ref p] H Q:=⟨p,xs,rfl,.inl h,q⟩
theorem l0 {K:W.Frag}{bs:List Bool}(h:av K H p (bs.map V.bl))(q:Q (.bl (bs.all id)) H):Gv K [.ref p] H Q:=⟨p,bs,rfl,h,q⟩
theorem OU {K:W.Frag}{lo hi:Option Int}(h:av K H p xs)(q:∀ l,H l=none->Q (.ref l) (upd H l (.lst (cE xs lo hi)))):B5 K (.ref p) lo hi H Q:=.inl ⟨p,xs,rfl,h,q⟩
theorem xW {K:W.Frag}{lo hi:Option Int}(h:az K H p xs)(hn : ¬ (HT.bq xs.length 0 lo=0/\HT.bq xs.length xs.length hi=xs.length))(q:∀ l,H l=none->Q (.ref l) (upd H l (.tup (cE xs lo hi)))) :
   B5 K (.ref p) lo hi H Q:=.inr ⟨p,xs,rfl,h,hn,q⟩
def Hg (K:W.Frag)(x:V)(H:Hp)(Q:Bool->Hp->Prop):Prop:=∃ k,Gs K x H k/\Q k H
theorem Lo {K:W.Frag}{b:Bool}{Q:Bool->Hp->Prop}(q:Q b H):Hg K (.bl b) H Q:=⟨b,rfl,q⟩
theorem L0 {K:W.Frag}{i:Int}{Q:Bool->Hp->Prop}(q:Q (i != 0) H):Hg K (.int i) H Q:=⟨_,rfl,q⟩
variable {A B:Prop}
theorem Ov (h:B):if (!true)=true then A else B:=h
theorem OM (h:A):if (!false)=true then A else B:=h
theorem A9 {K:W.Frag}{a:Addr}(h:av K H a xs)(hp:H p=none):av K (upd H p o) a xs:=ah.seq (ag hp) h
theorem BE {K:W.Frag}{a:Addr}(h:az K H a xs)(hp:H p=none):az K (upd H p o) a xs:=bf (ag hp) h
theorem JE {u:HO}(s:ah H H')(h:H q=some u):H' q=some u:=s _ _ h
theorem zf {k:Int}{j:Nat}{v:V}{Q:Hp->Prop}(h:H p=some (.lst xs))(e:mC xs.length k=some j)(q:Q (upd H p (.lst (xs.set j v)))):Iz (.ref p) (.int k) v H Q:=⟨p,xs,k,j,rfl,rfl,h,e,q⟩
theorem rA (h:H l=some (.lst xs))(z:xs.length<aar)(q:Q .ax (upd H l (.lst (xs++[y])))):vG (.ref l) [y] H Q:=⟨l,xs,y,rfl,rfl,h,z,q⟩
theorem ty_list {K:W.Frag}(h:H p=some (.lst xs)):Eg K "list" (.ref p) H:=.inl ⟨rfl,xs,av.of h⟩
variable {Z : St}
@[reducible] def Lr (K:W.Frag) (tl:TE):TI:=λZ H R=>tl Z H λx H1=>∃ a,x=.ref a/\(((∃ xs,av K H1 a xs)/\R (uA K a) H1)∨((∃ xs,az K H1 a xs)/\R (Iq K a) H1))
theorem LK {ta:TA}{R:It->Hp->Prop}(q:ta Z H λvs H1=>∃ j:Int,vs=[.int j]/\-(2 ^ 62)<=j/\j<2 ^ 62/\R (ui 0 j.toNat) H1):C1 ta Z H R:=q
theorem LJ {tg l:Expr}{tl:TE}(hl:PE X l tl):PI X tg l (Lr X.K tl):=by
 intro dv s Z H R I h;refine aL (hl dv s Z H _ I h) λv s1 zq=>bF zq λx H1 I1 r1 q1=>?_;obtain⟨a,e,hq⟩:=q1;subst e;cases r1
 rcases hq with ⟨⟨xs,hq⟩,q⟩ | ⟨⟨xs,hq⟩,q⟩
 . obtain ⟨its, rv, p, hz⟩ := I1.list hq;refine abt p.isList ?_;refine ⟨s1.heap.objs.size,[s1.heap.objs.size],_,_,H1,rfl,I1.kept (t':=s1.toks) λb o e=>aaj _ e,FA a _,⟨_,aay _ rfl,rfl,rfl⟩,λb hb=>?_,q⟩;have e:b=s1.heap.objs.size:=by simpa using hb
   subst e;exact I1.lN (aai _) (I1.au.fresh (aai _))
 . obtain ⟨its, rv, p, hz⟩ := I1.tuple hq;refine wpAny_pyIter_tuple (show s1.heap.IsTuple a its.toArray from p) ?_;refine ⟨s1.heap.objs.size,[s1.heap.objs.size],_,_,H1,rfl,I1.kept (t':=s1.toks) λb o e=>aaj _ e,CT a _,⟨_,aay _ rfl,rfl,rfl⟩,λb hb=>?_,q⟩;have e:b=s1.heap.objs.size:=by simpa using hb
   subst e;exact I1.lN (aai _) (I1.au.fresh (aai _))
section
variable {Z : St} {H:Hp} {Q:VK}
theorem Bf {C:Int->Int->Prop}{g:Int->Int->V}{i:Int}(h:C i j)(q:Q (g i j) H):rI C g (.int i) (.int j) H Q:=⟨i,j,rfl,rfl,h,q⟩
theorem aN {P:Program}{w:World}{K:W.Frag}{mg:Str->Option Value}{base:Heap}{CX:dB}{k:Nat}{m:Str}{E:XK}{t:TA}{dx:Addr}{fs:List (Str×V)}{sp:Sp}(h:H p=some (.ins C dx fs))(l:fs.lookup m=none)(M:iQ P w K mg base CX k C m sp)
   (q:t Z H λvs H2=>sp (.ref p::vs) H2 Q E):IT P w K mg base CX k m E Z t (.ref p) H Q:=⟨p,C,dx,fs,sp,rfl,h,l,M,q⟩
theorem FI {K:W.Frag}{f:Str}{dx:Addr}{fs:List (Str×V)}{v:V}(h:H p=some (.ins C dx fs))(c:dQ K C)(n:aS K C f)(l:fs.lookup f=some v)(q:Q v H):My K f (.ref p) H Q:=⟨p,C,dx,fs,v,rfl,h,c,n,l,q⟩
end
section
variable {Z : St} {H:Hp} {Q:Bool->Hp->Prop}
theorem GP {t u:TT}(q:t Z H λc H1=>if c=true then Q true H1 else u Z H1 Q):Np t u Z H Q:=q
variable {ta:TE}
@[reducible] def K8 (K:W.Frag) (ta:TE):TT:=λZ H Q=>ta Z H λx H'=>Hg K x H' Q
theorem Lm {a:Expr}(ha:PE X a ta)(he:∀ R_,isTrue a X.env R_=(do let v <- R_;standAt a.pos;holding [v] (truthy v)):=by intro _;rfl):PT X a (K8 X.K ta):=Hm ha he
end
section
variable {D:Ends} {Z : St} {H:Hp}
theorem J2 {K:W.Frag}{f:Str}{dx:Addr}{fs:List (Str×V)}(h:H p=some (.ins C dx fs))(c:dQ K C)(n:aS K C f)(l:fs.length<1000)(q:D.nx Z (upd H p (.ins C dx (aj f y fs)))):IK K f y D Z (.ref p) H:=⟨p,C,dx,fs,rfl,h,c,n,l,q⟩
end
theorem fH {c:Prop}[Decidable c](h1:c->A)(h2 : ¬ c->B):if decide c=true then A else B:=by
 by_cases h:c
 . rw[if_pos (decide_eq_true h)];exact h1 h
 . rw[if_neg (by rw[decide_eq_false h];exact aaw)];exact h2 h
theorem sJ {c:Prop}[Decidable c](h1 : ¬ c->A)(h2:c->B):if (!decide c)=true then A else B:=by
 by_cases h:c
 . rw[if_neg (by rw[decide_eq_true h];decide)];exact h2 h
 . rw[if_pos (by rw[decide_eq_false h];rfl)];exact h1 h
theorem B9 {a b:Int}(h1:a=b->A)(h2:a≠b->B):if decide (V.int a=V.int b)=true then A else B :=
 fH (λe=>h1 (by cases e;rfl)) λe=>h2 λz=>e (by rw[z])
theorem jw {a b:Int}(h1:a≠b->A)(h2:a=b->B):if (!decide (V.int a=V.int b))=true then A else B :=
 sJ (λe=>h1 λz=>e (by rw[z])) λe=>h2 (by cases e;rfl)
section
variable {P:Program} {w:World} {K:W.Frag} {mg:Str->Option Value} {base:Heap} {x qual:Str} {st:Stmt} {N ps:List Str} {sp:Sp} {C:Addr}
def Gg (P:Program)(w:World)(K:W.Frag)(mg:Str->Option Value)(base:Heap)(qual:Str)(st:Stmt)(N:List Str)(f:Addr)(RK:Value)(A:Around)(outer:List Env)(s:Shared)(E:XK)(Q:VK)(H:Hp)(vs:List V):Prop :=
 ∃ t,iq (eE eA P w K mg base N qual (ai st) f RK A outer s H E).gm (a9 st) t/\t { nx:=λ_ H'=>Q .ax H',rt:=Q } (start N vs) H
def BodyOk (P:Program)(w:World)(K:W.Frag)(mg:Str->Option Value)(base:Heap)(k:Nat)(qual:Str)(st:Stmt)(N:List Str)(sp:Sp):Prop :=
 ∀ (f:Addr) (RK:Value) (A:Around) (outer:List Env) (s:Shared) (H:Hp) (vs:List V) (Q:VK) (E:XK),bG k (A.deeper (envOfC qual (ai st) s.heap.objs.size f RK))->sp vs H Q E ->
   Gg P w K mg base qual st N f RK A outer s E Q H vs
theorem aR (k:Nat)(h:∃ f fd,dY K x qual st f fd/\mg x=some (.ref f)/\Binds K fd ps [])(S:ar N ps (ai st))(len:∀ vs H Q E,sp vs H Q E->vs.length=ps.length)
   (RO:BodyOk P w K mg base k qual st N sp):iI P w K mg base eA (k+1) x sp:=by
 obtain⟨f,fd,F,hm,hb⟩:=h;exact⟨f,fd,ps,F.ok S len (RO f),hm,F.kp,hb⟩
theorem aK (k:Nat)(c:dQ K C)(h:∃ f fd,dY K x qual st f fd/\vd K C x f/\Binds K fd ps [])(S:ar N ps (ai st))(len:∀ vs H Q E,sp vs H Q E->vs.length=ps.length)
   (RO:BodyOk P w K mg base k qual st N sp):iQ P w K mg base eA (k+1) C x sp:=by
 obtain⟨f,fd,F,hm,hb⟩:=h;exact⟨c,f,fd,ps,hm,F.ok S len (RO f),hb⟩
theorem fz {y:Str}(k:Nat)(hy:mg y=some (.ref C))(h:∃ f fd,dY K "__init__" qual st f fd/\Mk K C f/\Binds K fd ps [])(S:ar N ps (ai st))(len:∀ vs H Q E,sp vs H Q E->vs.length=ps.length)
   (RO:BodyOk P w K mg base k qual st N sp):EO P w K mg base eA (k+1) y C sp:=by
 obtain⟨f,fd,F,hm,hb⟩:=h;exact⟨f,fd,ps,hm,F.ok S len (RO f),hy,hb⟩
end
section
variable {X:Cx} {K:W.Frag}
theorem eR (h:X.K=K):bO X (abV .Add) (uk K):=by subst h;exact Jp
theorem jj (h:X.K=K)(hu:X.A.units+64<cLine):bO X (aa2 .Eq) (BR K):=by subst h;exact MP hu
theorem ou (h:X.K=K)(hu:X.A.units+64<cLine):bO X (aa2 .NotEq) (uY K):=by subst h;exact LC hu
theorem LS (h:X.K=K):bO X (aa2 .In) (El K false):=by subst h;exact FT
theorem Et (h:X.K=K):bO X (aa2 .NotIn) (El K true):=by subst h;exact yK
theorem b_ (h:X.K=K):m9 X (Ai K):=by subst h;exact L_
theorem HU (h:X.K=K):ud X (B5 K):=by subst h;exact Ng
theorem bj {tg l:Expr}{tl:TE}(h:X.K=K)(hl:PE X l tl):PI X tg l (Lr K tl):=by subst h;exact LJ hl
theorem bK (h:X.K=K):bZ X (.builtin "len") (uV K):=by subst h;exact EH
theorem CL (h:X.K=K):bZ X (.type "list") (Gm K):=by subst h;exact Cf
theorem cf (h:X.K=K):bZ X (.builtin "isinstance") (nZ K):=by subst h;exact GQ
theorem ic (h:X.K=K)(hc:X.calm=true):bZ X (.builtin "all") (Gv K):=by subst h;exact HV hc
def LU (K:W.Frag):List V->Hp->VK->Prop:=λxs H Q=>∃ p ys,xs=[.ref p]/\((av K H p ys/\∀ l,H l=none->Q (.ref l) (upd H l (.tup ys)))∨(az K H p ys/\Q (.ref p) H))
theorem wR (h:X.K=K):bZ X (.type "tuple") (LU K):=by subst h;exact xy
variable {ta:TE}
theorem aV {e:Expr}{f:Str}{pos:Pos}(h:X.K=K)(he:PE X e ta)(hb:abr e f X.env (eval e X.env)=eval e X.env:=by rfl):PE X (.Attribute e f pos) (Lv K ta f):=by subst h;exact MK he hb
theorem gM {o value : Expr}{f : Str}{pos Sr : Pos}{tv : TE}(h : X.K = K)(ha : PE X o ta)(hv : PE X value tv)(hs : swapsWith value (some (.Attribute o f Sr)) pos.line X.env = pure false := by rfl) :
   PS X (.Assign [.Attribute o f Sr] value pos) (LB K ta tv f):=by subst h;exact KR ha hv hs
theorem cJ {a:Expr}(h:X.K=K)(ha:PE X a ta)(he:∀ R_,isTrue a X.env R_=(do let v <- R_;standAt a.pos;holding [v] (truthy v)):=by intro _;rfl):PT X a (K8 K ta):=by subst h;exact Lm ha he
theorem fb {es:List Expr}{k:Nat}{t:qx}{n:Nat}{pos:Pos}(hK:X.K=K)(hc:X.calm=true)(h:EE X es t)
   (hn:(acP es X.env).length=n:=by rfl) (RU:(acP es X.env).findIdx? (·.1)=none:=by rfl):PG X (.Tuple es k pos) (Hn K n t):=by subst hK;exact MB hc h hn RU
theorem Bd {o:Expr}{to:TE}{name:Str}{RL gV:Pos}{T id:String}{r:V->List V->Hp->VK->Prop}(h:X.K=K)(pa:PlainAttrs T)(slot:Slot T name id)(Vi:typeOf (.builtin id)=pure (.type "method_descriptor"))(hm:AY X id r)(ho:PE X o to)
   (R5:abr o name X.env (eval o X.env)=eval o X.env:=by rfl) (R4:(RL.endLine == gV.line)=true:=by rfl):PE X (.Call (.Attribute o name RL) [] [] gV) (L1 K T r to):=by subst h;exact L4 pa slot Vi hm ho R5 R4
theorem ei {o e:Expr}{es:List Expr}{to:TE}{t:TA}{name:Str}{RL gV:Pos}{T id:String}{r:V->List V->Hp->VK->Prop}(h:X.K=K)(pa:PlainAttrs T)(slot:Slot T name id)(Vi:typeOf (.builtin id)=pure (.type "method_descriptor"))(hm:AY X id r)(ho:PE X o to)(ha:PA X (e::es) t)
   (R5:abr o name X.env (eval o X.env)=eval o X.env:=by rfl)
   (UN:((backTo gV (aas (e::es) X.env)).all (λx=>!x.1) && (acZ gV (abX [] X.env)).all (λx=>x.1.isSome)
     && decide ((e::es).length+([]:List Keyword).length+(if ([]:List Keyword).isEmpty then 0 else 1)<30))=true:=by rfl)
   (R4:(RL.endLine == gV.line)=true:=by rfl) (hs:aas (e::es) X.env=(false,eval e X.env)::aas es X.env:=by rfl) (Sv:(backTo gV (aas es X.env)).any (·.1)=false:=by rfl) :
   PE X (.Call (.Attribute o name RL) (e::es) [] gV) (KN K T r to t):=by subst h;exact Ou pa slot Vi hm ho ha R5 UN R4 hs Sv
end
section
variable {X:Cx} {P:Program} {w:World} {K:W.Frag} {mg:Str->Option Value} {base:Heap} {CX:dB} {k:Nat} {E:XK} {m:Str} {pos RL:Pos} {e o:Expr} {es:List Expr} {ta:TE} {t:TA}
theorem fK {pl:Sem Bool}(hP:X.prog=P/\X.w=w/\X.K=K/\X.mg=mg/\X.base=base)(he:PE X o ta)(hr:bG k X.A)(hx:dj CX X E)(ha:PA X (e::es) t)
   (RU:aas (e::es) X.env=(false,eval e X.env)::aas es X.env:=by rfl) (RM:(backTo pos (aas es X.env)).any (·.1)=false:=by rfl)
   (ht : eval (.Call (.Attribute o m RL) (e :: es) [] pos) X.env = (do
     let ov <- eval o X.env
     standAt RL.atName
     let (f,first) <- holding [ov] (adu ov m pl)
     callWith pos f first (backTo pos (aas (e::es) X.env)) (acZ pos (abX [] X.env))):=by rfl) :
   PE X (.Call (.Attribute o m RL) (e::es) [] pos) (kE P w K mg base CX k m E ta t):=by
 obtain⟨rfl,rfl,rfl,rfl,rfl⟩:=hP;exact Hc (pl:=pl) he hr hx ha RU RM ht
theorem wH {pl:Sem Bool}(hP:X.prog=P/\X.w=w/\X.K=K/\X.mg=mg/\X.base=base)(he:PE X o ta)(hr:bG k X.A)(hx:dj CX X E)
   (ht : eval (.Call (.Attribute o m RL) [] [] pos) X.env = (do
     let ov <- eval o X.env
     standAt RL.atName
     let (f,first) <- holding [ov] (adu ov m pl)
     callWith pos f first (backTo pos (aas [] X.env)) (acZ pos (abX [] X.env))):=by rfl) :
   PE X (.Call (.Attribute o m RL) [] [] pos) (kE P w K mg base CX k m E ta GW):=by
 obtain⟨rfl,rfl,rfl,rfl,rfl⟩:=hP;exact En (pl:=pl) he hr hx ht
end
theorem Ji {R:Addr->Prop}(q:∀ p,H p=none->R p):∀ p,H p=none->R p:=q
theorem aB (s:ah H H')(h:H' q=none):H q=none:=by
 cases e:H q with
 | none=>rfl
 | some u=>rw[s _ _ e] at h;cases h
theorem same_none (s:ah H H1)(h:H1 p=none):ah H (upd H1 p o):=s.trans (ag h)
def fw {α : Type}(xs:List α)(f : α->V)(Sg:St->Prop)(H:Hp)(i:Nat)(ys:List V)(Z : St)(H1:Hp):Prop:=ah H H1/\Sg Z/\ys=(xs.take i).map f
variable {i:Nat} {α : Type}
theorem fw.next {xs:List α}{f : α->V}{Sg:St->Prop}{H5:Hp}{Z3:St}{x : α}(c:fw xs f Sg H i ys Z H1)(hx:xs[i]? = some x)(e:y=f x)(s:ah H H5)(sg:Sg Z3):fw xs f Sg H (i+1) (ys++[y]) Z3 H5:=by
 obtain⟨_,_,rfl⟩:=c;refine⟨s,sg,?_⟩;subst e;rw[aaI,hx,aaE,aal];rfl
variable {Z0:St}
theorem wj {K:W.Frag}{a:Addr}{xs:List α}{emb : α->V}{g:TG}{tc:TT}{te:TE}{RN:List V->Hp->Prop}(f : α->V)(Sg:St->Prop)(hl:av K H a (xs.map emb))(hz:xs.length<=aar)(h0:Sg Z0)
   (hs:∀ (i:Nat) (x : α) (ys:List V) (Z : St) (H1:Hp),xs[i]? = some x->fw xs f Sg H i ys Z H1->ah H H1->Sg Z ->
     g (emb x) Z H1 λZ3 H3=>tc Z3 H3 λb H4=>if b=true then te Z3 H4 λy H5=>fw xs f Sg H (i+1) (ys++[y]) Z3 H5 else fw xs f Sg H (i+1) ys Z3 H4)
   (hd:∀ H1,ah H H1->RN (xs.map f) H1):eK (uA K a) g tc te RN Z0 H:=by
 refine bz (xs:=xs.map emb) (fw xs f Sg H) ⟨ah.refl _,h0,rfl⟩ ?_ ?_ ?_
 . rintro i ys Z H1 hi ⟨s,_,rfl⟩;refine⟨s.seq hl,?_⟩;rw[aaa,aaC];omega
 . intro i x ys Z H1 hx c;rw[aae] at hx;obtain⟨z,hz,rfl⟩:=Option.map_eq_some_iff.mp hx;exact hs i z ys Z H1 hz c c.1 c.2.1
 . rintro ys Z H1 ⟨s,_,rfl⟩;rw[aaa,aaG];exact hd H1 s
theorem Iv {b:Bool}(h1:b=true->A)(h2:b=false->B):if b=true then A else B:=by
 cases b with
 | true=>exact h1 rfl
 | false=>exact h2 rfl
theorem Qf {R:Prop}(h1 : -(2 ^ 62)<=j)(h2:j<2 ^ 62)(q:R) : -(2 ^ 62)<=j/\j<2 ^ 62/\R:=⟨h1,h2,q⟩
theorem OH {K:W.Frag}{a:Addr}(h:av K H a xs)(q:A):((∃ xs,av K H a xs)/\A)∨((∃ xs,az K H a xs)/\B):=.inl ⟨⟨xs,h⟩,q⟩
theorem Ob {K:W.Frag}{a:Addr}(h:az K H a xs)(q:B):((∃ xs,av K H a xs)/\A)∨((∃ xs,az K H a xs)/\B):=.inr ⟨⟨xs,h⟩,q⟩
theorem Ox {K:W.Frag}{R:Prop}(h:H p=some (.lst xs))(q:R):Eg K "list" (.ref p) H/\R:=⟨ty_list h,q⟩
theorem Bl {K:W.Frag}:Dp K H .none .ax:=by rw[Dp]
variable {D:Ends} {te:TE} {tc:TT} {g:TG}
theorem F9 {own:List Str}{fr:List (Str×Nat)}{wi:TI}{Zi:St}(h:oA own fr Z = Zi)(q:wi Z H λJ H1=>eK J g tc te (λys H3=>∀ p,H3 p=none->cU i (.ref p) Z (upd H3 p (.lst ys)) D.nx) Zi H1):EC i own fr wi g tc te D Z H:=by subst h;exact q
theorem Hv {own:List Str}{fr:List (Str×Nat)}{wi:TI}{Zi:St}(h:oA own fr Z = Zi)(q:wi Z H λJ H1=>eK J g tc te (λys H3=>∀ p,H3 p=none->Q (.ref p) (upd H3 p (.lst ys))) Zi H1):Ec own fr wi g tc te Z H Q:=by subst h;exact q
def uX:R2:=λx y H Q=>y=.ax/\Q (.bl (decide (x=.ax))) H
def iS:R2:=λx y H Q=>y=.ax/\Q (.bl (!decide (x=.ax))) H
theorem vO:bO X (aa2 .Is) uX:=MJ
theorem lW:bO X (aa2 .IsNot) iS:=JP
theorem Nv (q:Q (.bl false) H):uX (.ref p) .ax H Q:=⟨rfl,q⟩
theorem M_ (q:Q (.bl true) H):uX .ax .ax H Q:=⟨rfl,q⟩
theorem NA {i:Int}(q:Q (.bl false) H):uX (.int i) .ax H Q:=⟨rfl,q⟩
theorem JX (q:Q (.bl false) H):iS .ax .ax H Q:=⟨rfl,q⟩
theorem JN {i:Int}(q:Q (.bl true) H):iS (.int i) .ax H Q:=⟨rfl,q⟩
theorem Jj {K:W.Frag}{a:Addr}(s:ah H H1)(h:H p=none)(q:av K H a xs):av K (upd H1 p o) a xs:=ah.seq (lR s h) q
def Mn (i j:Int):Prop:=0<=j/\j<=1000000/\∃ k:Nat,k<=1000000/\i.natAbs<2 ^ k
theorem Jf:bO X (abV .LShift) (rI Mn λi j=>.int (i*2 ^ j.toNat)):=F6 λi j _ _ _ _ _ hc q=>by
 obtain⟨h0,h1,k,hk,hb⟩:=hc
 have:=PySem.intBits_le_iff.mpr hb
 exact lshift_int h0 (by have e:(2:Int) ^ 27=134217728:=rfl;rw[e];omega) q
theorem v7 (h0 : 0<=j)(h1:j<=1000000):Mn 1 j:=⟨h0,h1,1,by decide,by decide⟩
theorem uT (j:Nat):(1:Int)*2 ^ j=((2 ^ j:Nat):Int):=by rw[Int.one_mul];exact(Int.natCast_pow 2 j).symm
theorem iU (s t:Nat):aaP (s:Int) (t:Int)=((s &&& t:Nat):Int):=by
 unfold aaP;rw[decide_eq_true (aaO s),decide_eq_true (aaO t)];show((((s:Int).toNat &&& (t:Int).toNat:Nat)):Int)=_;rw[aaA,aaA]
theorem ie (s t:Nat):aaP (s:Int) (aaF (t:Int))=((Bt.wo s t:Nat):Int):=by
 have hn : ¬ (0:Int)<=aaF (t:Int):=by unfold aaF;omega
 have e:(aaF (aaF (t:Int))).toNat=t:=by unfold aaF;omega
 unfold aaP;rw[decide_eq_true (aaO s),decide_eq_false hn];show(s:Int) - (((s:Int).toNat &&& (aaF (aaF (t:Int))).toNat:Nat):Int)=_;rw[aaA,e]
 have:(s &&& t)<=s:=Nat.and_le_left
 unfold Bt.wo;omega
theorem DY (s t:Nat):Builtin.bitOr (s:Int) (t:Int)=((s ||| t:Nat):Int):=by
 have hs : ¬ (0:Int)<=aaF (s:Int):=by unfold aaF;omega
 have ht : ¬ (0:Int)<=aaF (t:Int):=by unfold aaF;omega
 have es:(aaF (aaF (s:Int))).toNat=s:=by unfold aaF;omega
 have et:(aaF (aaF (t:Int))).toNat=t:=by unfold aaF;omega
 unfold Builtin.bitOr aaP;rw[decide_eq_false hs,decide_eq_false ht];show aaF (aaF (((aaF (aaF (s:Int))).toNat ||| (aaF (aaF (t:Int))).toNat:Nat):Int))=_;rw[es,et];unfold aaF;omega
def fN {α : Type}(xs:List α)(f : α->V)(pr : α->Bool)(Sg:St->Prop)(H:Hp)(i:Nat)(ys:List V)(Z : St)(H1:Hp):Prop:=ah H H1/\Sg Z/\ys=((xs.take i).filter pr).map f
theorem fN.yes {xs:List α}{f : α->V}{pr : α->Bool}{Sg:St->Prop}{H5:Hp}{Z3:St}{x : α}(c:fN xs f pr Sg H i ys Z H1)(hx:xs[i]? = some x)(hp:pr x=true)(e:y=f x)(s:ah H H5)(sg:Sg Z3):fN xs f pr Sg H (i+1) (ys++[y]) Z3 H5:=by
 obtain⟨_,_,rfl⟩:=c;refine⟨s,sg,?_⟩;subst e;rw[aaI,hx,aaE,acN,aal,ac4,if_pos hp];rfl
theorem fN.no {xs:List α}{f : α->V}{pr : α->Bool}{Sg:St->Prop}{H5:Hp}{Z3:St}{x : α}(c:fN xs f pr Sg H i ys Z H1)(hx:xs[i]? = some x)(hp:pr x=false)(s:ah H H5)(sg:Sg Z3):fN xs f pr Sg H (i+1) ys Z3 H5:=by
 obtain⟨_,_,rfl⟩:=c;refine⟨s,sg,?_⟩;rw[aaI,hx,aaE,acN,aal,ac4,if_neg (by rw[hp];decide)]
 simp
def Iu:List V->Hp->VK->Prop:=λxs H Q=>∃ a kvs,xs=[.ref a]/\Rd H a (.dK kvs)/\∀ p,H p=none->Q (.ref p) (upd H p (.dK kvs))
theorem BX:bZ X (.type "dict") Iu:=by
 intro dv s Z H xs us Q I r h;obtain⟨a,kvs,rfl,e,q⟩:=h;obtain⟨u,rfl,rx⟩:=vals1 r;cases rx
 exact G4 I e λp s' hp I'=>⟨.ref p,_,I',rfl,q p hp⟩
variable {kvs:List (Key×V)}
theorem K7 {a:Addr}(h:H a=some (.dK kvs))(q:∀ p,H p=none->Q (.ref p) (upd H p (.dK kvs))):Iu [.ref a] H Q:=⟨a,kvs,rfl,.inl h,q⟩
theorem Ll (q:∀ p,H p=none->Q (.ref p) (upd H p (.dK []))):DA Z H Q:=q
variable {td ty:TE}
theorem LL {tv:TE}(q:tv Z H λv H1=>td Z H1 λx H2=>ty Z H2 λy H3=>∃ a H4,x=.ref a/\qY H3 a y v H4/\D.nx Z H4):II td ty tv D Z H:=q
theorem kJ {k:Int}{v:V}{R:Hp->Prop}(h:H p=some (.dK kvs))(hl:kvs.length<aar)(q:R (upd H p (.dK (putK kvs (.inl k) v)))):∃ a H4,V.ref p=.ref a/\qY H a (.int k) v H4/\R H4 :=
 ⟨p,_,rfl,qY.k (k:=.inl k) h hl,q⟩
theorem kB (q:td Z H λx H1=>ty Z H1 λy H2=>∃ a v,x=.ref a/\c8 H2 a y (some v)/\Q v H2):IX td ty Z H Q:=q
theorem IP (q:ty Z H λy H1=>td Z H1 λx H2=>∃ a o,x=.ref a/\c8 H2 a y o/\Q (.bl o.isSome) H2):MC ty td Z H Q:=q
theorem zA (q:ty Z H λy H1=>td Z H1 λx H2=>∃ a o,x=.ref a/\c8 H2 a y o/\Q (.bl (!o.isSome)) H2):A7 ty td Z H Q:=q
theorem uM {k:Int}{R:Option V->Prop}(h:H p=some (.dK kvs))(q:R (cV kvs (.inl k))):∃ a o,V.ref p=.ref a/\c8 H a (.int k) o/\R o:=⟨p,_,rfl,c8.k (k:=.inl k) h,q⟩
theorem B0 {t:TE}{Q:Bool->Hp->Prop}(q:t Z H λx H'=>∃ b,x=.bl b/\Q b H'):tB t Z H Q:=q
structure eJ (K:W.Frag)(x qual:Str)(st:Stmt)(f:Addr)(fd:abc):Prop where
 ex:∃ (oc:Value) (od:Option Addr) (da:Addr) (kV RP pm:Value) (an:Option Addr) (RK ct:Value) (Si:Array (Option Value)) (o:Obj) (n:Nat),
   fd=W.fnOf x qual (bg st) (a9 st) (ai st) (.ref da) kV RP pm an RK ct/\K.lookup f=some ⟨oc,od,.func fd,Si⟩/\acx K RK qual=true/\K.lookup da=some o/\o.data=.seq #[.none] n
 kp:abz K (.ref f)=true
variable {f:Addr} {st:Stmt} {x qual:Str}
theorem JW {K:W.Frag}{da:Addr}{o:Obj}{oc:Value}{od an:Option Addr}{Si:Array (Option Value)}{kV RP pm RK ct:Value}(l:K.lookup f=some ⟨oc,od,.func (W.fnOf x qual (bg st) (a9 st) (ai st) (.ref da) kV RP pm an RK ct),Si⟩)
   (d:K.lookup da=some o/\∃ n,o.data=.seq #[.none] n) (c:acx K RK qual=true) (k:abz K (.ref f)=true):eJ K x qual st f (W.fnOf x qual (bg st) (a9 st) (ai st) (.ref da) kV RP pm an RK ct) :=
 let ⟨n,e⟩:=d.2;⟨⟨oc,od,da,kV,RP,pm,an,RK,ct,Si,o,n,rfl,l,c,d.1,e⟩,k⟩
section
variable {P:Program} {w:World} {K:W.Frag} {mg:Str->Option Value} {base:Heap}
theorem eJ.ok {fd:abc}{N ps:List Str}{k:Nat}{sp:Sp}(F:eJ K x qual st f fd)(S:ar N ps (ai st))(len:∀ vs H Q E,sp vs H Q E->vs.length=ps.length)
   (RO:∀ (RK:Value) (A:Around) (outer:List Env) (s:Shared) (H:Hp) (vs:List V) (Q:VK) (E:XK),bG k (A.deeper (envOfC qual (ai st) s.heap.objs.size f RK))->sp vs H Q E ->
     ∃ t,iq (eE eA P w K mg base N qual (ai st) f RK A outer s H E).gm (a9 st) t/\t { nx:=λ_ H'=>Q .ax H',rt:=Q } (start N vs) H):cW P w K mg base eA (k+1) f fd ps sp:=by
 obtain⟨oc,od,da,kV,RP,pm,an,RK,ct,Si,o,n,rfl,lk,Sn,_,_⟩:=F.ex;refine xU lk Sn S len λA outer s H vs Q E hr T6=>?_;obtain⟨t,h,q⟩:=RO RK A outer s H vs Q E hr T6;exact⟨t,h.gm,q⟩
theorem eJ.F4 {fd:abc}{ps:List Str}(F:eJ K x qual st f fd)
   (h:∀ (da:Addr) (kV RP pm:Value) (an:Option Addr) (RK ct:Value) (us:List Value),us.length+1=ps.length->∃ k:Option (Array Value)->Sem (List (Str×Value)),acM (W.fnOf x qual (bg st) (a9 st) (ai st) (.ref da) kV RP pm an RK ct) ⟨us,[]⟩=adt (.ref da) >>= k/\k (some #[.none])=pure (ps.zip (us++[.none]))):Binds K fd ps [.none]:=by
 obtain⟨oc,od,da,kV,RP,pm,an,RK,ct,Si,o,n,rfl,lk,Sn,ld,ed⟩:=F.ex;intro s us KX hl;obtain⟨k,h1,h2⟩:=h da kV RP pm an RK ct us (by rw[aab] at hl;exact hl);exact .of_defaults rfl (KX _ _ ld) ed h1 h2
end
structure Pp (P:Program)(w:World)(K:W.Frag)(mg:Str->Option Value)(base:Heap)(CX:dB)(k:Nat)(x:Str)(C:Addr)(sp:Sp):Prop where
 ex:∃ (f:Addr) (fd:abc) (ps:List Str),Mk K C f/\cW P w K mg base CX k f fd ps sp/\mg x=some (.ref C)/\Binds K fd ps [.none]
section
variable {P:Program} {w:World} {K:W.Frag} {mg:Str->Option Value} {base:Heap} {x qual:Str} {st:Stmt} {N ps:List Str} {sp:Sp} {C:Addr}
theorem Km {y:Str}(k:Nat)(hy:mg y=some (.ref C))(h:∃ f fd,eJ K "__init__" qual st f fd/\Mk K C f/\Binds K fd ps []/\Binds K fd ps [.none])(S:ar N ps (ai st))(len:∀ vs H Q E,sp vs H Q E->vs.length=ps.length)
   (RO:BodyOk P w K mg base k qual st N sp):EO P w K mg base eA (k+1) y C sp/\Pp P w K mg base eA (k+1) y C sp:=by
 obtain⟨f,fd,F,hm,hb,hb2⟩:=h;exact⟨⟨f,fd,ps,hm,F.ok S len (RO f),hy,hb⟩,⟨f,fd,ps,hm,F.ok S len (RO f),hy,hb2⟩⟩
end
theorem Dc {K:W.Frag}{neg:Bool}{x:V}(h:av K H p xs)(hx:fJ x=true)(hs:xs.all fJ=true)(q:Q (.bl (if neg then !qh x xs else qh x xs)) H):El K neg x (.ref p) H Q:=⟨p,xs,rfl,.inl h,hx,hs,q⟩
variable {n:Nat}
theorem FK {g:TG}{tc:TT}{te:TE}{RN:List V->Hp->Prop}{H:Hp}{lo:Int}(f:Nat->V)(pr:Nat->Bool)(Sg:St->Prop)(hz:n<=aar)(h0:Sg Z0)
   (hs:∀ (i:Nat) (ys:List V) (Z : St) (H1:Hp),i<n->fN (aaU n) f pr Sg H i ys Z H1->ah H H1->Sg Z ->
     g (.int (lo+i)) Z H1 λZ3 H3=>tc Z3 H3 λb H4=>if b=true then te Z3 H4 λy H5=>fN (aaU n) f pr Sg H (i+1) (ys++[y]) Z3 H5 else fN (aaU n) f pr Sg H (i+1) ys Z3 H4)
   (hd:∀ H1,ah H H1->RN (((aaU n).filter pr).map f) H1):eK (ui lo n) g tc te RN Z0 H:=by
 refine ux (fN (aaU n) f pr Sg H) ⟨ah.refl _,h0,rfl⟩ ?_ ?_ ?_
 . rintro i ys Z H1 hi ⟨s,_,rfl⟩;have h1:=acs pr ((aaU n).take i);rw[aaC,aa4] at h1;rw[aaa];omega
 . intro i ys Z H1 hi c;exact hs i ys Z H1 hi c c.1 c.2.1
 . rintro ys Z H1 ⟨s,_,rfl⟩;rw[ac7 (by rw[aa4];exact aai _)];exact hd H1 s
section
variable {K:W.Frag} {a:Addr} {xs:List V} {g:TG} {tc:TT} {te:TE} {RN:List V->Hp->Prop} {H:Hp}
theorem mx (Pv:Nat->List V->St->Hp->Prop)(h0:Pv 0 [] Z0 H)(hl:∀ i ys Z H,i<=xs.length->Pv i ys Z H->az K H a xs/\ys.length<=aar)
   (hs:∀ i x ys Z H,xs[i]? = some x->Pv i ys Z H->g x Z H λZ3 H3=>tc Z3 H3 λb H4=>if b=true then te Z3 H4 λy H5=>Pv (i+1) (ys++[y]) Z3 H5 else Pv (i+1) ys Z3 H4)
   (hd:∀ ys Z H,Pv xs.length ys Z H->RN ys H):eK (Iq K a) g tc te RN Z0 H:=by
 refine⟨λi m ys Z H=>m=xs.length - i/\i<=xs.length/\Pv i ys Z H,⟨xs.length,by simp,aaW _,h0⟩,?_⟩;rintro i m ys Z H ⟨rfl,hi,p⟩;obtain⟨q,hz⟩:=hl i ys Z H hi p;by_cases RJ:i<xs.length
 . refine .inr ⟨⟨xs, xs[i], q, by simp[RJ]⟩, Pv (i + 1), λSK Z2 H2 p' => ⟨(hl (i + 1) SK Z2 H2 RJ p').2, xs.length - (i + 1), by omega, rfl, RJ, p'⟩, λx H2 y => ?_⟩;obtain⟨e,y⟩:=y;subst e;exact hs i x ys Z _ (y xs q) p
 . have e : i = xs.length := by omega
   subst e;exact .inl ⟨⟨xs,q,aai _⟩,hz,hd ys Z H p⟩
theorem Fv {xs:List α}{emb : α->V}(f : α->V)(Sg:St->Prop)(hl:az K H a (xs.map emb))(hz:xs.length<=aar)(h0:Sg Z0)
   (hs:∀ (i:Nat) (x : α) (ys:List V) (Z : St) (H1:Hp),xs[i]? = some x->fw xs f Sg H i ys Z H1->ah H H1->Sg Z ->
     g (emb x) Z H1 λZ3 H3=>tc Z3 H3 λb H4=>if b=true then te Z3 H4 λy H5=>fw xs f Sg H (i+1) (ys++[y]) Z3 H5 else fw xs f Sg H (i+1) ys Z3 H4)
   (hd:∀ H1,ah H H1->RN (xs.map f) H1):eK (Iq K a) g tc te RN Z0 H:=by
 refine mx (xs:=xs.map emb) (fw xs f Sg H) ⟨ah.refl _,h0,rfl⟩ ?_ ?_ ?_
 . rintro i ys Z H1 hi ⟨s,_,rfl⟩;refine⟨bf s hl,?_⟩;rw[aaa,aaC];omega
 . intro i x ys Z H1 hx c;rw[aae] at hx;obtain⟨z,hz,rfl⟩:=Option.map_eq_some_iff.mp hx;exact hs i z ys Z H1 hz c c.1 c.2.1
 . rintro ys Z H1 ⟨s,_,rfl⟩;rw[aaa,aaG];exact hd H1 s
end
section
variable {prog:Program} {w:World} {A:Around} {E:Value->Shared->Prop} {s:Shared}
theorem KP {it t:Addr}{its:Array Value}{Q:Value->Shared->Prop}(hi:s.heap.IsTupleIter it t i)(ht:s.heap.IsTuple t its)
   (q1:∀ x,its[i]? = some x->∀ h',h'.IsTupleIter it t (i+1)->ab6 it s.heap h'->Q x { s with heap:=h' })
   (q2:its[i]? = none->A.handled=none/\∀ h' e,Heap.ExtBut it s.heap h'->(∃ o,h'.get? e=some o/\o.cls=.type "StopIteration")->E (.ref e) { s with heap:=h' }) :
   wpAny (model prog w) A (abo (.ref it)) Q E s:=by
 obtain⟨o,ho,hc,hd⟩:=id hi;obtain⟨ot,hot,_,nt,hdt⟩:=ht;unfold abo;refine aaf (acq (name:=abS "__next__") hi.typeIs F.slot_tuple_iterator_next (acH F.slot_tuple_iterator_next hi.typeIs F.entry_tuple_iterator_next ?_ (F.args_tuple_iterator_next_1 _)));show wpAny _ _ (field (.ref it) 0 >>= _) _ _ _;refine aaf (acd ho hd (x:=.ref t) rfl ?_);show wpAny _ _ (if (aaK t == acg)=true then _ else _) _ _ _;rw[if_neg (show ¬ (aaK t == acg)=true from λz=>aaw z)];show wpAny _ _ (field (.ref it) 1 >>= _) _ _ _;refine aaf (acd ho hd (x:=.int i 0) rfl ?_);show wpAny _ _ (adt (.ref t) >>= _) _ _ _;refine aaf (wpAny_seqItems hot hdt ?_);cases hx:its[i]? with
 | some x =>
   simp only[aaA,hx];refine aaf (wpAny_setField ho hd (by simp) (aat ⟨x,rfl,aat (q1 x hx _ ?_ (ac1 ..))⟩));refine⟨_,ade _ ho (Obj.isFreed_of_fields (Obj.data_mapFields hd _)),(Obj.cls_mapFields ..).trans hc,?_⟩;rw[Obj.data_mapFields hd];simp[rawInt]
 | none =>
   obtain⟨hh,q2⟩:=q2 hx;simp only[aaA,hx];refine aaf (wpAny_rule (aaf (wpAny_setField ho hd (by simp) ?_)));show wpAny _ _ (newExc (.type "StopIteration") [] >>= _) _ _ _;refine aaf ?_;simp only[newExc,newTuple];refine aaf (abF ?_ (by size_fits));refine aaf (m:=firstArgMember _ _) (wpAny_of_eq (a:=acg) (by first | rfl | (simp only[firstArgMember];rfl)) (abF ?_ (by size_fits)));simp only[raiseNew];refine aaf (wpAny_handled ?_);rw[show A.in1.handled=none from hh];refine aaf (aat (wpAny_throw ?_));exact q2 _ _ (((ac1 ..).extBut.push _).push _) ⟨_,aay _ rfl,rfl⟩
end
def Bo (K:W.Frag)(a b:Addr):It :=
 ⟨λi H=>∃ xs ys x y,az K H a xs/\az K H b ys/\xs[i]? = some x/\ys[i]? = some y,
  λi H v H'=>∃ T x y,v=.ref T/\H T=none/\H'=upd H T (.tup [x,y])/\∀ xs ys,az K H a xs->az K H b ys->xs[i]? = some x/\ys[i]? = some y,
  λi H=>∃ xs ys,az K H a xs/\az K H b ys/\(xs.length<=i∨ys.length<=i)⟩
theorem nY {dv:List (Addr×Obj)}{h':Heap}{ch:List Addr}{T:Addr}{xs:List V}(I:Inv X dv Z H s)(hf:∀ b∈ch,oN X dv H b)(hT:s.heap.objs.size<=T)
   (k:∀ b o,b ∉ ch->s.heap.get? b=some o->h'.get? b=some o) (kc:∀ b∈ch,∃ o,h'.get? b=some o) (new:bM X.prog X.w (upd H T (.tup xs)) h' T (.tup xs)):Inv X dv Z (upd H T (.tup xs)) { s with heap:=h' }:=by
 have hn:H T=none:=I.au.fresh hT;have nc:∀ b u,H b=some u->b ∉ ch:=λb u e hb=>by rw[(hf b hb).1] at e;cases e
 have nT:∀ b o,s.heap.get? b=some o->b≠T:=λb o e z=>absurd (aav e) (by rw[z];exact Nat.not_lt.mpr hT);refine I.uK (ch:=ch) rfl ⟨λb o e _ _ hc=>k b o hc e,λb o e _ _ hc=>⟨o.slots,k b o hc e⟩,λb o e n _=>by rw[af (nT b o e)];exact n,λb o e hc=>⟨o,k b o hc e⟩,λb xs e=>?_,λb o u e=>?_,λb ps e=>⟨#[],?_⟩⟩ ?_ I.bare ?_
 . rw[af (ae e hn)];exact e
 . rw[af (ae e hn)];exact e
 . rw[af (ae e hn),e];simp
 . intro b u e;by_cases hb:b=T
   . subst hb;rw[U] at e;cases e
     exact new
   . rw [af hb] at e;refine (I.au b u e).iB (λc v hc q=>k c v ?_ q) (λc q=>by rw [af (ae q hn)];exact q) λc ys q=>by rw [af (ae q hn)];exact q
     rcases hc with z | z
     . rw[z];exact nc b u e
     . exact nc c _ z
 . intro b hb;obtain⟨f0,f1,f2,f3,f4,f5⟩:=hf b hb;exact⟨f3,f1,f4,f5⟩
theorem OC:aaY "zip" = some (.type "zip"):=by decide +kernel
def Nw (K:W.Frag)(ta:TA):TI:=λZ H R=>ta Z H λvs H1=>∃ a b xs ys,vs=[.ref a,.ref b]/\az K H1 a xs/\az K H1 b ys/\R (Bo K a b) H1
theorem N9 {K:W.Frag}{ta:TA}{R:It->Hp->Prop}(q:ta Z H λvs H1=>∃ a b xs ys,vs=[.ref a,.ref b]/\az K H1 a xs/\az K H1 b ys/\R (Bo K a b) H1):Nw K ta Z H R:=q
theorem oa {K:W.Frag}{a b:Addr}{xs:List α}{e1 e2 : α->V}{g:TG}{tc:TT}{te:TE}{RN:List V->Hp->Prop}(f : α->V)(Sg:St->Prop)(ha:az K H a (xs.map e1))(hb:az K H b (xs.map e2))(hz:xs.length<=aar)(h0:Sg Z0)
   (hs:∀ (i:Nat) (x : α) (ys:List V) (Z : St) (H1:Hp) (T:Addr),xs[i]? = some x->fw xs f Sg H i ys Z H1->ah H H1->Sg Z->H1 T=none ->
     g (.ref T) Z (upd H1 T (.tup [e1 x,e2 x])) λZ3 H3=>tc Z3 H3 λb H4=>if b=true then te Z3 H4 λy H5=>fw xs f Sg H (i+1) (ys++[y]) Z3 H5 else fw xs f Sg H (i+1) ys Z3 H4)
   (hd:∀ H1,ah H H1->RN (xs.map f) H1):eK (Bo K a b) g tc te RN Z0 H:=by
 refine⟨λi m ys Z H1=>m=xs.length - i/\i<=xs.length/\fw xs f Sg H i ys Z H1,⟨xs.length,by simp,aaW _,ah.refl _,h0,rfl⟩,?_⟩;rintro i m ys Z H1 ⟨rfl,hi,c⟩;obtain⟨s,sg,rfl⟩:=id c;by_cases RJ:i<xs.length
 . refine .inr ⟨⟨_, _, e1 xs[i], e2 xs[i], bf s ha, bf s hb, by simp [RJ], by simp [RJ]⟩, fw xs f Sg H (i + 1), λSK Z2 H2 p' => ⟨?_, xs.length - (i + 1), by omega, rfl, RJ, p'⟩, λv H2 y => ?_⟩
   . obtain⟨_, _, rfl⟩ := p';rw[aaa,aaC];omega
   . obtain ⟨T, x, y', rfl, hT, rfl, Ui⟩ := y;obtain ⟨q1,q2⟩:=Ui _ _ (bf s ha) (bf s hb);have Uv:e1 xs[i]=x:=by simpa [RJ] using q1
     have UC:e2 xs[i]=y':=by simpa [RJ] using q2
     rw[<- Uv,<- UC];exact hs i xs[i] _ Z H1 T (by simp[RJ]) c s sg hT
 . have e : i = xs.length := by omega
   subst e;refine .inl ⟨⟨_,_,bf s ha,bf s hb,.inl (by simp)⟩,?_,?_⟩
   . rw[aaa,aaC];omega
   . rw[aaG];exact hd H1 s
theorem Pt {K:W.Frag}{a:Addr}{its:Array Value}{od:Option Addr}{sl:Array (Option Value)}(l:K.lookup a=some ⟨.type "tuple",od,.seq its n,sl⟩)(hz:its.size<=aar)(v:aE xs its.toList):∀ H,az K H a xs:=λH=>.inr ⟨_,its,n,l,rfl,rfl,hz,v⟩
theorem IB (h:H l=some (.lst (xs++[y])))(q:Q y (upd H l (.lst xs))):KL (.ref l) [] H Q:=by
 refine⟨l,xs++[y],y,rfl,rfl,h,?_,?_⟩
 . simp
 . simpa using q
theorem jD {b:Addr}{zs:List V}(h:H l=some (.lst xs))(hb:H b=some (.lst zs))(hz:xs.length+zs.length<=aar)(q:Q .ax (upd H l (.lst (xs++zs)))):pz (.ref l) [.ref b] H Q:=⟨l,b,xs,zs,rfl,rfl,h,hb,hz,q⟩
theorem PS.gm {t:TS}(h:PS X.gm st t):PS X st t:=λdv s Z H D I hw =>
 aaV (h dv s Z H D (I.gv _) hw) (λ_ _ q=>q.eB) λ_ _ z=>z.elim
theorem PA.gm {es:List Expr}{t:TA}(h:PA X.gm es t):PA X es t:=λpos dv s Z H Q I hw =>
 aaV (h pos dv s Z H Q (I.gv _) hw) (λ_ _ zq=>bF zq λv H' I' r q=>⟨v,H',I'.eB,r,q⟩) λ_ _ z=>z.elim
theorem ER {P:Program}{w:World}{h0 h5:Heap}{l:List Addr}(x:cK P w H h0)(hl:∀ b∈l,H b=none)(k:(adm h0 l).StaysIn h5):cK P w H h5:=λa o e=>by
 refine(x a o e).iB (λb u hb q=>k b u (W.hideAll_get _ q λhm=>?_)) (λ_ q=>q) λ_ _ q=>q;have hn:=hl b hm;rcases hb with rfl | hb
 . rw[e] at hn;cases hn
 . rw[hb] at hn;cases hn
variable {h:Heap}
theorem GI {fs:List Addr}{h0 h5:Heap}{l:List Addr}(u:Un fs [] H H' h h0)(hl:∀ b∈l,b∈fs∨h.objs.size<=b)(k:(adm h0 l).StaysIn h5)(up:h0.UpToSlots h5)
   (hf:∀ b∈fs,H b=none/\∀ o,h.get? b=some o->∀ vs,o.data≠.fields vs):Un fs [] H H' h h5:=by
 have nl:∀ b o,h.get? b=some o->b ∉ fs->b ∉ l:=λb o q hb hm=>by
   rcases hl b hm with z | z
   . exact hb z
   . exact absurd (aaB (aav q) z) (ace _)
 have sl:∀ b o,h.get? b=some o->b∈fs->∃ sl,h5.get? b=some { o with slots:=sl }:=λb o q hb=>by
   obtain⟨s1,e1⟩:=u.slot b o q (hf b hb).1 hb (by simp);obtain⟨s2,e2⟩:=up b _ e1 ((hf b hb).2 o q);exact⟨s2,e2⟩
 refine⟨λb o q n hb hx=>k b o (W.hideAll_get _ (u.keep b o q n hb hx) (nl b o q hb)),λb o q _ hb _=>sl b o q hb,u.free,λb o q hx=>?_,u.iC,u.fW,u.iD⟩;by_cases hb:b∈fs
 . obtain⟨s2, e2⟩ := sl b o q hb;exact⟨_,e2⟩
 . obtain⟨o', e'⟩ := u.there b o q hx;exact⟨o',k b o' (W.hideAll_get _ e' (nl b o q hb))⟩
structure ym (P:Program)(w:World)(outer:List Env)(H:Hp)(s:Shared)(ea C:Addr)(H':Hp)(s':Shared):Prop where
 os:s'.os=s.os
 bare:AllBare s'.gens
 ex:∃ (h0:Heap) (l:List Addr) (a0:Value),Un (bE outer) [] H H' s.heap h0/\cK P w H' h0/\(∀ b∈l,H' b=none/\(b∈bE outer∨s.heap.objs.size<=b))/\h0.get? ea=none /\
   Heap.FlyingW (adm h0 l) outer ea (.ref C) a0 s'.heap/\h0.UpToSlots s'.heap
def cS (P:Program)(w:World):dB:=λouter H s E e s'=>∃ (ea C:Addr) (H':Hp),e=.ref ea/\ym P w outer H s ea C H' s'/\E (.ref C) none H'
structure rV (K:W.Frag)(mg:Str->Option Value)(x:Str)(C:Addr):Prop where
 glob:mg x=some (.ref C)
 ex:W.excIn K C [.type "ValueError",.type "Exception",.type "BaseException",.type "object"] "ValueError.__new__" = true
theorem rV.obj {K:W.Frag}{mg:Str->Option Value}(c:rV K mg x C)(X:K.In h) :
   ∃ (bm:List Value) (N:Addr) (nm qn:Str) (bs:List Value) (hd:Bool) (sn:List Str) (sub:List Value) (ab:Bool) (col:Option Bool) (dd:Option Addr) (k0 k1 k2 k3 k5:Option Value) (mN:Str->Option Value),
     h.get? C=some (excClassObj nm qn C N bs bm hd sn sub ab col dd k0 k1 k2 k3 k5 "ValueError.__new__")/\h.Ns N mN/\mN "__init__" = none /\
     OwnTail h [.type "ValueError",.type "Exception",.type "BaseException",.type "object"] bm:=by
 have hq:=c.ex;unfold W.excIn at hq;split at hq
 . rename_i dd cd sl Vm;split at hq
   . rename_i C' bm k0 k1 k2 k3 id k5 hmro Vj;simp only[aah,Bool.not_eq_true',beq_iff_eq] at hq;obtain⟨⟨⟨⟨⟨e1,e2⟩,e3⟩,e4⟩,e5⟩,e6⟩:=hq;subst e1 e2;obtain⟨nm,bs,mro,ns,qn,hd,sn,sub,ab,col,del⟩:=cd;dsimp only at hmro e3 e5 e6;subst hmro e3;obtain⟨sl⟩:=sl;dsimp only at Vj;subst Vj;exact⟨bm,ns,nm,qn,bs,hd,sn,sub,ab,col,dd,k0,k1,k2,k3,k5,_,X _ _ Vm,.of_isNs (W.isNs_of_in X e5),W.nsMap_none_of_in X e5 e6,W.tail_of_in X e4⟩
   . cases hq
 . cases hq
def Fj (C:Addr)(E:XK)(t:TA):TS:=λ_ Z H=>t Z H λvs H1=>vs.length<=1000/\E (.ref C) none H1
theorem G_ (RU:X.stack=X.env::X.outer)(Um:X.env.frame=some X.env.locals):bE X.stack=X.env.locals::bE X.outer:=by
 rw[RU];unfold bE;rw[ab4,Um]
theorem Af {dv:List (Addr×Obj)}{h':Heap}{e C:Addr}{args:List Value}{Q:Unit->Shared->Prop}{Ex:Value->Shared->Prop}(I:Inv X dv Z H s)
   (RU:X.stack=X.env::X.outer) (Um:X.env.frame=some X.env.locals) (hex:X.ex=[]) (hx:Heap.MadeExcOf s.heap h' e (.ref C) args)
   (hQ:∀ s',ym X.prog X.w X.outer X.H₀ X.s₀ e C H s'->Q () s'):wpAny (model X.prog X.w) X.A (leaving X.env (.ref e)) Q Ex { s with heap:=h' }:=by
 have hfs:=G_ RU Um;have hin:∀ env∈X.stack,∀ a,env.frame=some a->a∈bE X.stack:=λenv he b hb=>List.mem_filterMap.mpr ⟨env,he,hb⟩;have hl:s.heap.FunFrames (adm s.heap (bE X.stack)) (X.env::X.outer):=by
   have z:=W.funFrames_hide I.stack hin;rw[RU] at z ⊢;exact z
 refine wpAny_leaves_madeW (s:={ s with heap:=h' }) (by rw[<- RU];exact I.ok.frames) Um (λb o q=>W.of_hideAll _ q) hl hx λh2 t x1 _ _ x4=>hQ _ ⟨I.os,I.bare,?_⟩;have hb:=I.base;rw[hex] at hb;refine⟨s.heap,bE X.stack,.ref t,hb,I.au,λb hm=>⟨I.pW b hm,?_⟩,hx.new,x1,(Heap.UpToSlots.of_keeps hx.keeps).trans x4⟩;rw[hfs] at hm;rcases List.mem_cons.mp hm with rfl | hm
 . exact .inr I.ok.above
 . exact .inl hm
theorem gR {P:Program}{w:World}{K:W.Frag}{mg:Str->Option Value}{base:Heap}{N:List Str}{qual:Str}{scope:Scope}{f:Addr}{cd:Value}{A:Around}{outer:List Env}{s0:Shared}{H0:Hp}{E:XK}
   {C:Addr} {x:Str} {np gV pos:Pos} {e0:Expr} {es:List Expr} {t:TA} (c:rV K mg x C) (hg:Gl (eE (cS P w) P w K mg base N qual scope f cd A outer s0 H0 E) x)
   (ha:PA (eE (cS P w) P w K mg base N qual scope f cd A outer s0 H0 E).gm (e0::es) t) (Sd:(x == ("__debug__" : Str))=false:=by decide)
   (he:aas (e0::es) (eE (cS P w) P w K mg base N qual scope f cd A outer s0 H0 E).env=(false,eval e0 (eE (cS P w) P w K mg base N qual scope f cd A outer s0 H0 E).env)::aas es (eE (cS P w) P w K mg base N qual scope f cd A outer s0 H0 E).env:=by rfl)
   (RM:(backTo gV (aas es (eE (cS P w) P w K mg base N qual scope f cd A outer s0 H0 E).env)).any (·.1)=false:=by rfl) :
   PS (eE (cS P w) P w K mg base N qual scope f cd A outer s0 H0 E) (.Raise (some (.Call (.Name x np) (e0::es) [] gV)) none pos) (Fj C E t):=by
 intro dv s Z H D I h;obtain⟨bm,N',nm,qn,bs,hd,sn,sub,ab,col,dd,k0,k1,k2,k3,k5,mN,hC,hN,hni,TL⟩:=c.obj I.ok.mod.yF
 refine wpAny_Raise_call_subU (C:=C) (mN:=mN) (N:=N') (nm:=nm) (q:=qn) (bs:=bs) (bm:=bm) (hdct:=hd) (sn:=sn) (sub:=sub) (ab:=ab) (col:=col) (dd:=dd) (k0:=k0) (k1:=k1) (k2:=k2) (k3:=k3) (k5:=k5)
   PySem.F.excBase_ValueError (by decide +kernel) PySem.F.excBase_ValueError (TL.hasType (by decide +kernel)) (I.ok.hd rfl) (by rw[he];show(false || (backTo gV (aas es _)).any (·.1))=false;rw[RM];rfl) hni ?_
 refine i5 I hg c.glob ⟨rfl,?_⟩ Sd;have Wa:=(L3.PA.gm ha) gV dv s Z H _ I h;rw[he] at Wa ⊢;refine acy (aL Wa λus s1 zq=>?_);obtain⟨vs,H1,I1,r,Bn,q⟩:=zq;refine⟨rfl,?_,I1.bk _ _ hC,hN.keeps I1.bk,TL.keeps I1.bk,λh' e hm=>?_⟩
 . show us.length <= aar;rw[<- r.length];exact aaR Bn (by decide +kernel)
 . exact Af (X:=eE (cS P w) P w K mg base N qual scope f cd A outer s0 H0 E) I1 rfl rfl rfl hm λs' th=>⟨e,C,H1,rfl,th,q⟩
theorem fP {P:Program}{w:World}{K:W.Frag}{mg:Str->Option Value}{base:Heap}{N:List Str}{qual:Str}{scope:Scope}{f:Addr}{cd:Value}{A:Around}{outer:List Env}{s0:Shared}{H0:Hp}{E:XK} :
   dj (cS P w) (eE (cS P w) P w K mg base N qual scope f cd A outer s0 H0 E) E:=by
 intro dv Z H s e s' I h;obtain⟨ea,C,H',rfl,⟨os,bare,h0,l,a0,u,au,hl,hn,fl,up⟩,q⟩:=h;show wpAny _ _ (leaving _ (.ref ea)) _ _ s';refine wpAny_leaves_onW (outer:=outer) I.ok.frames rfl fl λh2 fl2 up2=>⟨ea,C,H',rfl,⟨os.trans I.os,bare,h0,l,a0,?_,au,λb hb=>⟨(hl b hb).1,?_⟩,hn,fl2,up.trans up2⟩,q⟩
 . have J := I.call (h' := h0) (g' := s'.gens) (d' := s'.drawn) (t' := s'.toks) (ch := []) u au bare (λb z => absurd z (by simp));exact J.base
 . rcases(hl b hb).2 with z | z
   . have z' : b ∈ bE (envOfC qual scope s0.heap.objs.size f cd :: outer) := z;have e1:bE (envOfC qual scope s0.heap.objs.size f cd::outer)=s0.heap.objs.size::bE outer:=by unfold bE;rw [ab4];rfl
     rw[e1] at z';rcases List.mem_cons.mp z' with rfl | z'
     . exact .inr (aai _)
     . exact .inl z'
   . exact .inr (aaR I.sz z)
section
variable {P:Program} {w:World} {K:W.Frag} {mg:Str->Option Value} {base:Heap} {x qual:Str} {st:Stmt} {N ps:List Str} {sp:Sp} {C:Addr} {k:Nat}
def Ki (P:Program)(w:World)(K:W.Frag)(mg:Str->Option Value)(base:Heap)(qual:Str)(st:Stmt)(N:List Str)(f:Addr)(RK:Value)(A:Around)(outer:List Env)(s:Shared)(E:XK)(Q:VK)(H:Hp)(vs:List V):Prop :=
 ∃ t,iq (eE (cS P w) P w K mg base N qual (ai st) f RK A outer s H E) (a9 st) t/\t { nx:=λ_ H'=>Q .ax H',rt:=Q } (start N vs) H
def sP (P:Program)(w:World)(K:W.Frag)(mg:Str->Option Value)(base:Heap)(k:Nat)(qual:Str)(st:Stmt)(N:List Str)(sp:Sp):Prop :=
 ∀ (f:Addr) (RK:Value) (A:Around) (outer:List Env) (s:Shared) (H:Hp) (vs:List V) (Q:VK) (E:XK),bG k (A.deeper (envOfC qual (ai st) s.heap.objs.size f RK))->sp vs H Q E ->
   Ki P w K mg base qual st N f RK A outer s E Q H vs
theorem dY.DN {fd:abc}(F:dY K x qual st f fd)(S:ar N ps (ai st))(len:∀ vs H Q E,sp vs H Q E->vs.length=ps.length)(RO:sP P w K mg base k qual st N sp):cW P w K mg base (cS P w) (k+1) f fd ps sp:=by
 obtain⟨oc,od,kV,RP,pm,an,RK,ct,Si,rfl,lk,Sn⟩:=F.ex;exact xU lk Sn S len λA outer s H vs Q E hr T6=>RO f RK A outer s H vs Q E hr T6
theorem sm (k:Nat)(h:∃ f fd,dY K x qual st f fd/\mg x=some (.ref f)/\Binds K fd ps [])(S:ar N ps (ai st))(len:∀ vs H Q E,sp vs H Q E->vs.length=ps.length)
   (RO:sP P w K mg base k qual st N sp):iI P w K mg base (cS P w) (k+1) x sp:=by
 obtain⟨f,fd,F,hm,hb⟩:=h;exact⟨f,fd,ps,dY.DN F S len RO,hm,F.kp,hb⟩
theorem Gy (k:Nat)(c:dQ K C)(h:∃ f fd,dY K x qual st f fd/\vd K C x f/\Binds K fd ps [])(S:ar N ps (ai st))(len:∀ vs H Q E,sp vs H Q E->vs.length=ps.length)
   (RO:sP P w K mg base k qual st N sp):iQ P w K mg base (cS P w) (k+1) C x sp:=by
 obtain⟨f,fd,F,hm,hb⟩:=h;exact⟨c,f,fd,ps,hm,dY.DN F S len RO,hb⟩
end
section
variable {X:Cx} {dv:List (Addr×Obj)} {Z : St} {H:Hp} {s:Shared}
theorem Kn {M:Model}{A:Around}{E:Value->Shared->Prop}{n:Str}{pos:Pos}{Q:Unit->Shared->Prop}(I:Inv X dv Z H s)(hN:X.N.Nodup)(hi:X.N[i]? = some n)(hk:X.env.scope.names.lookup n=some .local)
   (h:∀ s',Inv X dv (Z.set i none) H s'->Q () s'):wpAny M A (do bindName X.env n .none;unbindBehindTheSuite X.env n pos) Q E s:=by
 obtain⟨m,hn,hl⟩:=id I.loc;have hiZ : i < Z.length:=by rw[I.len];exact(List.getElem?_eq_some_iff.mp hi).1
 have nG:=I.nG;obtain⟨oL,_,_,hoL,_⟩:=id hn;refine wpAny_nameGoes_keeps hk hn (by rw[I.ok.kind];rfl) λh' v hn' hs=>h _ ?_;have lo:∀ b o,X.s₀.heap.get? b=some o->h'.get? b=s.heap.get? b:=λb o e=>hs.2 b (aaH (aaB (aav e) I.ok.above));refine⟨I.ok,I.os,I.bare,⟨λb o e n hb hx=>?_,λb o e n hb hx=>?_,I.base.free,λb o e hx=>?_,I.base.iC,I.base.fW,I.base.iD⟩,⟨_,hn',λj y v' e1 e2 e3=>?_⟩,λy c e=>?_,I.free,I.ee,λp hp=>?_,λb ob e=>?_,by simpa using I.len⟩
 . rw[lo b o e];exact I.base.keep b o e n hb hx
 . rw[lo b o e];exact I.base.slot b o e n hb hx
 . rw[lo b o e];exact I.base.there b o e hx
 . by_cases hj:j=i
   . subst hj;rw[aaS hiZ] at e2;cases e2
   . rw[aaT (Ne.symm hj)] at e2;obtain⟨u',r',q⟩:=hl j y v' e1 e2 e3;refine⟨u',r',?_⟩;rcases q with ⟨k,e⟩ | ⟨k,c,e,z⟩
     . have ne : y ≠ n := λe => hj (rL hN e1 (e ▸ hi));exact .inl ⟨k,by simp[ne,e]⟩
     . exact .inr ⟨k,c,e,z.sameBut hs (nG y c e)⟩
 . obtain⟨w', z⟩ := I.cell y c e;exact⟨w',z.sameBut hs (nG y c e)⟩
 . obtain⟨e, n, ne, nf, d⟩ := I.pin p hp;exact⟨(hs.2 p.1 ne).trans e,n,ne,nf,d⟩
 . refine (I.au b ob e).iB (λc w' hc q=>(hs.2 c ?_).trans q) (λ_ q=>q) λ_ _ q=>q;rintro rfl;have hf:=I.free;rcases hc with hc | hc
   . rw[hc,e] at hf;cases hf
   . rw[hc] at hf;cases hf
abbrev Cx.sup (X:Cx)(e:Addr)(pl:List (Addr×Obj)):Cx:={ X with A:=X.A.mark (some (.ref e)),calm:=false,xe:=λ_ _=>False,pn:=X.pn++pl }
variable {e:Addr}
theorem Cx.Ok.sup {pl:List (Addr×Obj)}(ok:X.Ok):(Cx.sup X e pl).Ok :=
 ⟨ok.mod,ok.kind,ok.glob,ok.blt,ok.above,ok.inj,ok.has,ok.zR,(λz=>by cases z),ok.frames,ok.AU,ok.Jb,ok.bs,ok.qN,ok.sd,ok.vE,ok.fO,ok.uO⟩
theorem Cx.Ok.Dw {pl:List (Addr×Obj)}(ok:(Cx.sup X e pl).Ok)(h:X.calm=true->X.A.handled=none):X.Ok :=
 ⟨ok.mod,ok.kind,ok.glob,ok.blt,ok.above,ok.inj,ok.has,ok.zR,h,ok.frames,ok.AU,ok.Jb,ok.bs,ok.qN,ok.sd,ok.vE,ok.fO,ok.uO⟩
theorem Inv.sup {pl:List (Addr×Obj)}(I:Inv X dv Z H s)(h:∀ p∈pl,s.heap.get? p.1=some p.2/\H p.1=none/\p.1≠X.env.locals/\p.1 ∉ X.fs/\∀ v,p.2.data≠.cell v):Inv (Cx.sup X e pl) dv Z H s :=
 ⟨Cx.Ok.sup I.ok,I.os,I.bare,I.base,I.loc,I.cell,I.free,I.ee,λp hp=>by
   rcases List.mem_append.mp hp with hp | hp
   . rcases List.mem_append.mp hp with hp | hp
     . exact I.pin p (aa5 _ hp)
     . exact h p hp
   . exact I.pin p (aaz _ hp),I.au,I.len⟩
theorem Inv.Dw {pl:List (Addr×Obj)}(I:Inv (Cx.sup X e pl) dv Z H s)(h:X.calm=true->X.A.handled=none):Inv X dv Z H s :=
 ⟨Cx.Ok.Dw I.ok h,I.os,I.bare,I.base,I.loc,I.cell,I.free,I.ee,λp hp=>by
   rcases List.mem_append.mp hp with hp | hp
   . exact I.pin p (aa5 _ (aa5 _ hp))
   . exact I.pin p (aaz _ hp),I.au,I.len⟩
end
def Im (X:Cx)(dv:List (Addr×Obj))(Z : St)(Ew:XK)(ex:Value)(s':Shared):Prop :=
 ∃ (ea C:Addr) (H1:Hp) (s1:Shared) (H':Hp),ex=.ref ea/\Inv X dv Z H1 s1/\ym X.prog X.w X.stack H1 s1 ea C H' s'/\Ew (.ref C) none H'
abbrev TB:=Ends->XK->St->Hp->Prop
def PB (X:Cx)(body:List Stmt)(tb:TB):Prop :=
 ∀ (dv:List (Addr×Obj)) (s:Shared) (Z : St) (H:Hp) (D:Ends) (Ew:XK),Inv X dv Z H s->tb D Ew Z H->wpAny (model X.prog X.w) X.A (execs body X.env) (SP X dv D) (Im X dv Z Ew) s
section
variable {X:Cx} {dv:List (Addr×Obj)} {Z : St} {H:Hp} {s:Shared} {k:Nat} {g x n:Str} {sp:Sp} {e:Expr} {es:List Expr} {t:TA} {gp gV pos py:Pos}
theorem Ap {Ew:XK}(G:iI X.prog X.w X.K X.mg X.base (cS X.prog X.w) k g sp)(hr:bG k X.A)(hg:Gl X g)(ha:PA X.gm (e::es) t)(I:Inv X dv Z H s)(h:t Z H λvs H1=>sp vs H1 Q Ew)
   (Sd:(g == ("__debug__" : Str))=false) (he:aas (e::es) X.env=(false,eval e X.env)::aas es X.env) (RM:(backTo gV (aas es X.env)).any (·.1)=false) :
   wpAny (model X.prog X.w) X.A (eval (.Call (.Name g gp) (e::es) [] gV) X.env) (EP X dv Z Q) (Im X dv Z Ew) s:=by
 obtain⟨f,fd,ps,F,hm,hk,hb⟩:=G.ex;refine acn (i5 I hg hm ?_ Sd);refine W.callWith_K (h₀:=X.base) I.ok.mod.yF hk (aaV (ha gV dv s Z H _ (I.gv _) h) (λus s1 zq=>bF zq λvs H1 I1 r q=>⟨I1.cZ,?_⟩) λ_ _ z=>z.elim) he RM;have J:Inv X dv Z H1 s1:=I1.eB;have hl:us.length=ps.length:=by rw[<- r.length];exact F.len _ _ _ _ q
 have Vd:=hb s1 us J.cZ (by rw[aaJ];exact hl);rw[aaJ] at Vd;refine adz (acD (F.run X.A X.stack s1 H1 ⟨us,[]⟩ us vs Q Ew hr J.GU Vd r q) λr2 s' hq=>?_);cases r2 with
 | error ex =>
   obtain⟨ea,C,H',rfl,th,q2⟩:=(show cS X.prog X.w X.stack H1 s1 Ew ex s' from hq)
   exact⟨ea,C,H1,s1,H',rfl,J,th,q2⟩
 | ok fl =>
   cases fl with
   | ret u=>exact J.after hq
   | next=>exact abf hq
   | brk=>exact abf hq
   | cont=>exact abf hq
end
section
variable {X:Cx} {dv:List (Addr×Obj)} {Z : St} {H H1 H':Hp} {s s1 s':Shared} {ea C:Addr}
theorem wg {h0 h5:Heap}{l:List Addr}(I:Inv X dv Z H1 s1)(os:s'.os=s1.os)(bare:AllBare s'.gens)(u:Un (bE X.stack) [] H1 H' s1.heap h0)(au:cK X.prog X.w H' h0)
   (hl:∀ b∈l,H' b=none/\(b∈bE X.stack∨s1.heap.objs.size<=b)) (k:(adm h0 l).StaysIn h5) (up:h0.UpToSlots h5):Inv X dv Z H' { s' with heap:=h5 } :=
 I.uK (s':={ s' with heap:=h5 }) os (GI u (λb hb=>(hl b hb).2) k up λb hb=>⟨I.pW b hb,λo q=>by
   obtain⟨_,o',q',d⟩:=I.stack.mem hb;rw[q] at q';cases q';exact d⟩) (ER au (λb hb=>(hl b hb).1) k) bare (λb z=>absurd z (by simp))
theorem Gh (I:Inv X dv Z H' s')(hn:s'.heap.get? ea=none):H' ea=none/\ea≠X.env.locals/\ea ∉ X.fs:=by
 refine⟨?_,λz=>?_,λz=>?_⟩
 . cases q:H' ea with
   | none=>rfl
   | some o =>
     obtain⟨o',e'⟩:∃ o',s'.heap.get? ea=some o':=by
       have z:=I.au ea o q;clear q
       induction o with
       | lst xs=>obtain⟨_,_,_,_,e⟩:=z;exact⟨_,e⟩
       | tup xs=>obtain⟨_,_,_,ob,e,_⟩:=z;exact⟨_,e⟩
       | dK kvs=>obtain⟨_,_,_,_,ob,_,_,e,_⟩:=z;exact⟨_,e⟩
       | dT kvs=>obtain⟨_,_,_,_,ob,_,_,e,_⟩:=z;exact⟨_,e⟩
       | set S n=>obtain⟨ob,_,_,_,e,_⟩:=z;exact⟨_,e⟩
       | ins C dx fs=>obtain⟨_,_,_,e,_⟩:=z;exact⟨_,e⟩
       | own y=>obtain⟨_,e⟩:=z;exact⟨_,e⟩
       | xd fs=>obtain⟨_,⟨od,_,_,e,_⟩,_⟩:=z;exact⟨_,e⟩
       | IJ lo hi=>obtain⟨_,_,_,e⟩:=z;exact⟨_,e⟩
       | cx ob u=>obtain⟨e,_⟩:=z;exact⟨_,e⟩
       | tD ps=>exact⟨_,z⟩
       | met f y=>exact⟨_,z⟩
       | ext φ=>obtain⟨_,⟨_,e⟩,_⟩:=z;exact⟨_,e⟩
     rw[hn] at e';cases e'
 . obtain⟨m, ⟨o, _, _, e, _⟩, _⟩ := I.loc;rw[<- z,hn] at e;cases e
 . obtain⟨_, o, e, _⟩ := I.fO.mem z;rw[hn] at e;cases e
def LQ (tb:TB)(C:Addr)(i:Nat)(th:Addr->TS):TS:=λD Z H =>
 tb D (λc _ H2=>c=.ref C/\∀ ea,H2 ea=none->th ea { nx:=λZ' H'=>D.nx (Z'.set i none) H',rt:=λ_ _=>False } (Z.set i (some (.ref ea))) H2) Z H
theorem Le {body:List Stmt}{tb:TB}{x n:Str}{np Us pos:Pos}{b0:Stmt}{V3:List Stmt}{i:Nat}{th:Addr->TS}(RU:X.stack=X.env::X.outer)(Um:X.env.frame=some X.env.locals)(hc:X.calm=true)
   (hb:PB X body tb) (c:rV X.K X.mg x C) (hg:Gl X x) (hN:X.N.Nodup) (hi:X.N[i]? = some n) (hn:X.env.scope.names.lookup n=some .local)
   (hs:∀ ea oe,oe.cls=.ref C->(∃ vs,oe.data=.fields vs)->iq (Cx.sup X ea [(ea,oe)]) (b0::V3) (th ea)) (Sd:(x == ("__debug__" : Str))=false:=by decide) :
   PS X (.Try body [.ExceptHandler (some (.Name x np)) (some n) (b0::V3) Us] [] [] pos) (LQ tb C i th):=by
 intro dv s Z H D I0 h;refine wpAny_Try_except (aaV (hb dv s Z H D _ I0 h) (λf s1 q=>?_) λex s' q=>?_)
 . cases f with
   | next=>exact acm q
   | brk=>exact q
   | cont=>exact q
   | ret u=>exact q
 obtain⟨ea,C',H1,s1,H',rfl,I,⟨os,bare,h0,l,a0,u,au,hl,hnew,fl,up⟩,ec,q⟩:=q;cases ec
 have hh:X.calm=true->X.A.handled=none:=I.ok.hd;have fl':Heap.FlyingW (adm h0 l) (X.env::X.outer) ea (.ref C) a0 s'.heap:=by rw[<- RU];exact fl
 have ap:=Gh (I.call (h':=h0) (g':=s'.gens) (d':=s'.drawn) (t':=s'.toks) (ch:=[]) u au bare (λb z=>absurd z (by simp))) hnew;refine wpAny_looks_onW (by rw[<- RU];exact I.ok.frames) Um fl' λh4 held4 up4=>?_;refine wpAny_landsW held4 λh5 fl5 up5=>?_;have I5:Inv X dv Z H' { s' with heap:=h5 }:=wg I os bare u au hl fl5.1 ((up.trans up4).trans up5);obtain⟨oe,SH,hoec⟩:=fl5.there;refine wpAny_handleBy_cons (codeAny_handlers_test (i5 (X:=Cx.sup X ea []) (Inv.sup I5 (λp hp=>nomatch hp)) hg c.glob ?_ Sd)) (by intro z;cases z);obtain⟨bm,N',nm,qn,bs,hd,sn,sub,ab,col,dd,k0,k1,k2,k3,k5,mN,hC,hNs,hni,TL⟩:=c.obj I5.cZ;refine wpAny_excMatches_sub_self hC SH hoec (TL.hasType (by decide +kernel)) (codeAny_handlers_suite_as ?_);refine lands_againW fl5 λh6 fl6 up6=>?_;have I6:Inv X dv Z H' { s' with heap:=h6 }:=wg I os bare u au hl fl6.1 (((up.trans up4).trans up5).trans up6);obtain⟨oe6,vs6,hoe6,hoec6,V9,_⟩:=fl6.first
 have I6p:Inv (Cx.sup X ea [(ea,oe6)]) dv Z H' { s' with heap:=h6 }:=Inv.sup I6 λp hp=>by
   have e:p=(ea,oe6):=by simpa using hp
   subst e;exact⟨hoe6,ap.1,ap.2.1,ap.2.2,λv z=>by rw[V9] at z;cases z⟩
 refine rR (X:=Cx.sup X ea [(ea,oe6)]) I6p hN hi (.inl hn) (show RelV (.ref ea) (.ref ea) from rfl) (λs7 I7=>?_) (.inr hn);refine aaV (hs ea oe6 hoec6 ⟨vs6,V9⟩ dv s7 _ H' _ I7 (q ea ap.1)) (λf s8 q8=>?_) λ_ _ z=>z.elim;cases f with
 | next =>
   obtain⟨Z',H'',I8,q9⟩:=q8;exact Kn (Inv.Dw I8 hh) hN hi hn λs9 I9=>⟨_,H'',I9,q9⟩
 | brk=>obtain⟨_,_,_,z⟩:=q8;exact z.elim
 | cont=>obtain⟨_,_,_,z⟩:=q8;exact z.elim
 | ret v=>obtain⟨_,_,_,_,_,z⟩:=q8;exact z.elim
end
open PySem PySem.Spec PyProof.Rows L2 PySem.SeqAt PySem.W Builtin Builtin.ObjectAttr Builtin.Getset_descriptor
structure je (K:W.Frag)(C:Addr):Prop where
 cl:(W.clsIn K C).isSome=true
 ga:abA K (.ref C) "__getattribute__" = some (some (.builtin "BaseException.__getattribute__"))
 gt:abA K (.ref C) "__getattr__" = some none
 co:abA K (.ref C) "__class__" = some (some (.builtin "object.__class__"))
 gs:W.specialIn K (.builtin "object.__class__") "__get__" = some (some (.builtin "getset_descriptor.__get__"))
 tk:W.takesIn K (.builtin "object.__class__")=some true
 mo:W.mroIn K C (.type "object")=some true
 mb:W.mroIn K C (.type "BaseException")=some true
section
variable {prog:Program} {w:World} {A:Around} {E:Value->Shared->Prop} {s:Shared} {K:W.Frag} {x C:Addr} {ox:Obj}
variable {M:Model}
theorem jI (hx:h.get? x=some ox)(hc:ox.cls=.ref C):Looks M h (typeOf (.ref x)) (.ref C):=by
 rw[<- hc];exact(Looks.ld hx).andThen .now
theorem Jm {R:Result->Shared->Prop}{tp:Value}(X:K.In s.heap)(hx:s.heap.get? x=some ox)(hc:ox.cls=.ref C)(F:je K C)(h:R (.ok (.ret (.ref C))) s) :
   codeAny (model prog w) A (.call (.builtin "getset_descriptor.__get__") ⟨[.builtin "object.__class__",.ref x,tp],[]⟩) R s:=by
 obtain⟨hh,g,dr,t,os⟩:=s;have LT:=jI (M:=model prog w) hx hc;have LM:=looks_mroIn (M:=model prog w) X F.mo;have Vi:Shared.TypeIs ⟨hh,g,dr,t,os⟩ (.builtin "object.__class__") "getset_descriptor":=KF.type_class;refine acK KF.slot_gs.plain KF.entry_gs ?_;refine KF.slot_gs.check _ _ _ _ _ _ _ _ Vi (KF.args_gs _ _ _) ?_;unfold Builtin.«getset_descriptor.__get__» descrGet;rw[dga_obj];refine aaf (aat ?_);unfold descrGetter descrCheckInstance descrNameAndClass PySem.isInstance;simp only[KF.owner_class];repeat lk
 refine⟨Code.quiet_builtin _ (by decide +kernel),codeAny_builtin KF.entry_class ?_⟩;unfold Builtin.«object.__class__» PySem.shownTypeOf;repeat lk
 exact h
theorem Gr (X:K.In h)(F:je K C):Looks M h (find (.ref x) (.ref C) "__class__") (.bind (.builtin "getset_descriptor.__get__") (.builtin "object.__class__")):=by
 refine(looks_findIn (M:=M) X F.co).andThen ?_;refine(show Looks M h (getOf (some (.builtin "object.__class__"))) (some (.builtin "getset_descriptor.__get__")) from looks_specialIn X F.gs).andThen ?_;have L3:=looks_takesIn (M:=M) X F.tk;exact(show Looks M h (dataDescriptor? (some (.builtin "object.__class__")) (some (.builtin "getset_descriptor.__get__"))) (some (.builtin "getset_descriptor.__get__",.builtin "object.__class__")) from L3.andThen .now).andThen (Looks.tag .now)
end
section
variable {prog:Program} {w:World} {A:Around} {E:Value->Shared->Prop} {s:Shared} {K:W.Frag} {x C:Addr} {ox:Obj}
theorem DZ {Q:Fin->Shared->Prop}{tk:Tok}(X:K.In s.heap)(hx:s.heap.get? x=some ox)(hc:ox.cls=.ref C)(F:je K C)(h:Q (.done (.ret (.ref C))) s) :
   wpAny (model prog w) A (Builtin.«object.__getattribute__» ⟨[.ref x,.str "__class__" tk],[]⟩) Q E s:=by
 obtain⟨hh,g,dr,t,os⟩:=s;have LT:=jI (M:=model prog w) hx hc;have LF:=Gr (M:=model prog w) (x:=x) X F;unfold Builtin.«object.__getattribute__»;repeat (first | with_reducible refine adz ?_ | lk)
 refine Jm X hx hc F ?_;repeat lk
 exact h
theorem FW {M:Model}{V5:Value}{Q:Unit->Shared->Prop}(X:K.In s.heap)(hx:s.heap.get? x=some ox)(hc:ox.cls=.ref C)(F:je K C)(h:Q () s) :
   wpAny M A (acI "BaseException.__getattribute__" ⟨[.ref x,V5],[]⟩) Q E s:=by
 obtain⟨hh,g,dr,t,os⟩:=s;have LT:=jI (M:=M) hx hc;have LM:=looks_mroIn (M:=M) X F.mb;have k1:builtinKind "BaseException.__getattribute__" = some .slot:=by decide +kernel
 have k2:splitId "BaseException.__getattribute__" = some ("BaseException","__getattribute__"):=by decide +kernel
 have k3:=PySem.F.args_bexc_ga (.ref x) V5;simp only[acI,k1,k2];refine aaf ?_;unfold PySem.isInstance;repeat lk
 exact h
theorem Ff {Q:Option Value->Shared->Prop}(X:K.In s.heap)(hx:s.heap.get? x=some ox)(hc:ox.cls=.ref C)(F:je K C)(h:Q (some (.ref C)) { s with toks:=s.toks+1 }) :
   wpAny (model prog w) A (getAttr? (.ref x) "__class__") Q E s:=by
 obtain⟨hh,g,dr,t,os⟩:=s;have LT:=jI (M:=model prog w) hx hc;have LG:=looks_findIn (M:=model prog w) X F.ga;have LH:=looks_findIn (M:=model prog w) X F.gt;unfold getAttr? getAttrBy? getAttrBy;refine aaf (wpAny_mkText (aaf (wpAny_attempt (abw (aaf (LT.at ?_))))));refine aaf (LG.at ?_);have n1:(onTheHeap (.ref C) && acz "BaseException.__getattribute__" == acz "object.__getattribute__")=false:=by
   show(true && acz "BaseException.__getattribute__" == acz "object.__getattribute__")=false;decide +kernel
 show wpAny _ _ (if (onTheHeap (.ref C) && acz "BaseException.__getattribute__" == acz "object.__getattribute__")=true then _ else getAttrByItsOwn _ _ _ _ _ _) _ _ _;rw[n1,if_neg aaw];unfold getAttrByItsOwn hookBefore;refine aaf (LH.at ?_);refine aaf (wpAny_attempt (abw ?_));have b1:=PySem.F.excAttr_ValueError.ga.bind (.ref x);show wpAny _ _ (boundAndCalled _ _ _) _ _ _;unfold boundAndCalled;rw[b1];refine aaf (aat ?_);refine adz (acK PySem.F.excAttr_ValueError.ga.plain PySem.F.entry_bexc_ga (FW (s:=⟨hh,g,dr,t+1,os⟩) X hx hc F (DZ (s:=⟨hh,g,dr,t+1,os⟩) X hx hc F ?_)));exact handed_on rfl (aat h)
theorem JQ (hc:ox.cls=.ref C)(F:je K C):KitX K (.ref x) (.ref C) (λh=>h.get? x=some ox) where
 ty:=λ_ _ _ p=>jI p hc
 it:=λ_ _ X _=>by
   obtain⟨cd,Sn⟩:=Option.isSome_iff_exists.mp F.cl;unfold clsIn at Sn;split at Sn
   . rename_i Vm;intro A' Q' E' s' k q;unfold isType loadHead;exact aaf (wpAny_loadPart (k _ _ (X _ _ Vm)) (aat q))
   . cases Sn
 ne:=λh tp dd its n sl X htp=>by
   obtain⟨cd,Sn⟩:=Option.isSome_iff_exists.mp F.cl;refine Bool.eq_false_iff.mpr λq=>?_;have e:C=tp:=Value.ref.inj (beq_iff_eq.mp q);subst e;unfold clsIn at Sn;split at Sn
   . rename_i Vm;have z:=(X _ _ Vm).symm.trans htp;cases z
   . cases Sn
 ca:=λX p k=>Ff X p hc F k
def uS (K:W.Frag)(ea C:Addr):List V->Hp->VK->Prop:=λxs H Q=>∃ c b,xs=[.ref ea,c]/\g_ c≠.none/\kitOne K (.ref C) (g_ c)=some b/\Q (.bl b) H
theorem Ek {ea:Addr}{oe:Obj}(hp:(ea,oe)∈X.pn)(hc:oe.cls=.ref C)(F:je X.K C):bZ X (.builtin "isinstance") (uS X.K ea C):=by
 intro dv s Z H xs us Q I r h;obtain⟨c,b,rfl,hn,e,q⟩:=h;obtain⟨u,w',rfl,rx,rc⟩:=vals2 r;cases yh rc hn
 cases (show u=aaK ea from rx)
 exact kia_one (JQ hc F) I.cZ (I.pin (ea,oe) (aa5 _ hp)).1 e (λz=>nomatch z) λtk=>⟨.bl b,H,I.tok _,rfl,q⟩
theorem Fh {K:W.Frag}{ea:Addr}{c:V}{b:Bool}(hc:g_ c≠.none)(e:kitOne K (.ref C) (g_ c)=some b)(q:Q (.bl b) H):uS K ea C [.ref ea,c] H Q:=⟨c,b,rfl,hc,e,q⟩
theorem mz {K:W.Frag}{ea:Addr}{oe:Obj}(h:X.K=K)(hp:(ea,oe)∈X.pn)(hc:oe.cls=.ref C)(F:je K C):bZ X (.builtin "isinstance") (uS K ea C):=by subst h;exact Ek hp hc F
theorem fU {E:XK}{t:TA}{Z : L2.St}(h:t Z H λvs H1=>vs.length<=1000/\E (.ref C) none H1):Fj C E t D Z H:=h
end
section
variable {X:Cx} {k:Nat} {g:Str} {sp:Sp} {e c:Expr} {es:List Expr} {t:TA} {gp gV pos:Pos} {b1 b2:List Stmt} {tc:TT} {t1 t2:TB}
def Ie (sp:Sp)(t:TA):TB:=λD Ew Z H=>t Z H λvs H1=>sp vs H1 (λ_ H2=>D.nx Z H2) Ew
theorem J7 (G : iI X.prog X.w X.K X.mg X.base (cS X.prog X.w) k g sp)(hr : bG k X.A)(hg : Gl X g)(ha : PA X.gm (e :: es) t)(Sd : (g == ("__debug__" : Str)) = false := by decide)
   (he:aas (e::es) X.env=(false,eval e X.env)::aas es X.env:=by rfl) (RM:(backTo gV (aas es X.env)).any (·.1)=false:=by rfl) (hi:interactive X.env=false:=by rfl) :
   PB X [.Expr (.Call (.Name g gp) (e::es) [] gV) pos] (Ie sp t):=by
 intro dv s Z H D Ew I h;refine wpAny_execs_cons (wpAny_Expr_any (aaV (Ap G hr hg ha I h Sd he RM) (λv s1 zq=>bF zq λy H1 I1 r1 q1=>acm ⟨Z,H1,I1,q1⟩) λ_ _ z=>z) hi rfl)
end
def Cs (K:W.Frag)(a b c:Addr):It :=
 ⟨λi H=>∃ xs ys zs x y u,az K H a xs/\az K H b ys/\az K H c zs/\xs[i]? = some x/\ys[i]? = some y/\zs[i]? = some u,
  λi H v H'=>∃ T x y u,v=.ref T/\H T=none/\H'=upd H T (.tup [x,y,u])/\∀ xs ys zs,az K H a xs->az K H b ys->az K H c zs->xs[i]? = some x/\ys[i]? = some y/\zs[i]? = some u,
  λi H=>∃ xs ys zs,az K H a xs/\az K H b ys/\az K H c zs/\(xs.length<=i∨ys.length<=i∨zs.length<=i)⟩
def IE (K:W.Frag)(ta:TA):TI:=λZ H R=>ta Z H λvs H1=>∃ a b c xs ys zs,vs=[.ref a,.ref b,.ref c]/\az K H1 a xs/\az K H1 b ys/\az K H1 c zs/\R (Cs K a b c) H1
theorem LZ {K:W.Frag}{ta:TA}{R:It->Hp->Prop}(q:ta Z H λvs H1=>∃ a b c xs ys zs,vs=[.ref a,.ref b,.ref c]/\az K H1 a xs/\az K H1 b ys/\az K H1 c zs/\R (Cs K a b c) H1):IE K ta Z H R:=q
theorem Ho {K:W.Frag}{a b c:Addr}{zs:List V}{g:TG}{tb:TS}{D:Ends}(hy:ys.length=xs.length)(hz:zs.length=xs.length)(Pv:Nat->St->Hp->Prop)(h0:Pv 0 Z H)(hl:∀ i Z H,i<=xs.length->Pv i Z H->az K H a xs/\az K H b ys/\az K H c zs)
   (hs:∀ i x y u T Z H,xs[i]? = some x->ys[i]? = some y->zs[i]? = some u->Pv i Z H->H T=none->g (.ref T) Z (upd H T (.tup [x,y,u])) λZ2 H2=>tb { D with nx:=Pv (i+1),ct:=Pv (i+1),bk:=D.nx } Z2 H2) (hd:∀ Z H,Pv xs.length Z H->D.nx Z H):rK (Cs K a b c) g tb D Z H:=by
 refine⟨λi m Z H=>m=xs.length - i/\i<=xs.length/\Pv i Z H,⟨xs.length,by simp,aaW _,h0⟩,?_⟩;rintro i m Z H ⟨rfl,hi,p⟩;obtain⟨q1,q2,q3⟩:=hl i Z H hi p;by_cases RJ:i<xs.length
 . refine .inr ⟨⟨xs, ys, zs, xs[i], ys[i], zs[i], q1, q2, q3, by simp[RJ], by simp[hy, RJ], by simp[hz, RJ]⟩, Pv (i + 1), λZ' H' p' => ⟨xs.length - (i + 1), by omega, rfl, RJ, p'⟩, λx H' y => ?_⟩;obtain⟨T,x',y',u',rfl,hT,rfl,Ui⟩:=y;obtain⟨r1,r2,r3⟩:=Ui _ _ _ q1 q2 q3;exact hs i x' y' u' T Z H r1 r2 r3 p hT
 . have e : i = xs.length := by omega
   subst e;exact .inl ⟨⟨xs,ys,zs,q1,q2,q3,.inl (aai _)⟩,hd Z H p⟩
theorem nK:∀ {vs:List Value} {ns:List Int},IntsAre vs ns->aE (ns.map V.int) vs
 | [],_,h=>by cases h;exact .nil
 | _::_,_,h=>by cases h with | cons n t h=>exact .cons ⟨_,rfl⟩ (nK h)
theorem vT:∀ {vs:List Value} {ns:List Int},vs.length=ns.length->(∀ (j:Nat) (v:Value),vs[j]? = some v->∃ n t,ns[j]? = some n/\v=.int n t)->IntsAre vs ns
 | [],[],_,_=>.nil
 | [],_::_,h,_=>by simp at h
 | _::_,[],h,_=>by simp at h
 | v :: vs, n :: ns, hl, h => by
   obtain⟨n',t,e1,e2⟩:=h 0 v rfl;simp only[List.getElem?_cons_zero,Option.some.injEq] at e1;subst e1 e2;exact .cons _ _ (vT (by simpa using hl) λj u hu=>by
     obtain⟨n2,t2,e3,e4⟩:=h (j+1) u (by simpa using hu);exact⟨n2,t2,by simpa using e3,e4⟩)
def ET:List V->Hp->VK->Prop:=λxs H Q=>∃ (a:Addr) (kvs:List (Key×V)) (ks:List Int),xs=[.ref a]/\Rd H a (.dK kvs)/\kvs.map (·.1)=ks.map Sum.inl/\ks.length<64 /\
 ∀ (Wx:List Int) (p:Addr),Wx.Perm ks->Wx.Pairwise (· <= ·)->H p=none->Q (.ref p) (upd H p (.lst (Wx.map V.int)))
theorem Ad (hc:X.calm=true):bZ X (.builtin "sorted") ET:=by
 intro dv s Z H xs us Q I r h;obtain⟨a,kvs,ks,rfl,e,hk,h64,q⟩:=h;obtain⟨u,rfl,rx⟩:=vals1 r;cases rx
 have hh:X.A.handled=none:=I.ok.hd hc;obtain⟨z,hd,vs,RV,dd⟩:=gu I.au e;obtain⟨ep,RW⟩:=dd.dictAt;have WH:vs.length=ks.length:=by rw[<- RV.length,<- aaa (f:=(·.1)) (as:=kvs),hk,aaa]
 refine Calls.call_function_entry kind_sorted plain_sorted entry_sorted (args_sorted1 _) ?_;unfold Builtin.«sorted»;refine aaf (m:=checkCount "sorted" 1 1 _) (aat ?_);refine aaf (W.kdu_collect (A:=X.A.in1) (W.kdl_dict (knd:=bc X.prog X.w) (kvs:=vs) (ep:=ep) hd) hh RW (by rw[WH,aan];omega) λh' tk Ts hk' Tf=>?_);have hl:Ts.toList.length=ks.length:=by rw[ab2,<- WH];exact Tf.1
 have hI:IntsAre Ts.toList ks:=vT hl λj v hv=>by
   obtain⟨k,x,e1,e2⟩:=Tf.2 j v (by rw[<- ac9];exact hv);have e3:(kvs.map (·.1))[j]? = some k:=by
     have e4:∀ {kvs:List (Key×V)} {vs:List (Key×Value)},KV kvs vs->kvs.map (·.1)=vs.map (·.1):=λr=>by
       unfold KV at r
       induction r with
       | nil=>rfl
       | cons r1 r2 ih=>rw[aaQ,aaQ,r1.1,ih]
     rw[e4 RV,aae,e1];rfl
   rw[hk,aae] at e3;obtain⟨n,e5,e6⟩:=Option.map_eq_some_iff.mp e3;rcases bS e2 with ⟨i,t,e7,e8⟩ | ⟨x,t,e7,e8⟩
   . rw[e7] at e6;cases e6
     exact⟨_,t,e5,e8⟩
   . rw[e7] at e6;cases e6
 refine aaf (wpAny_newList ?_ (by rw[hl,aan];omega));have hoL:(h'.push (seqObj "list" Ts.toList.toArray 0)).get? h'.objs.size=some (seqObj "list" Ts.toList.toArray 0):=aay _ rfl;show wpAny _ _ _ _ _ { s with heap:=h'.push (seqObj "list" Ts.toList.toArray 0),toks:=tk };refine aaf (abw (acH slot_list_sort ⟨_,hoL,rfl⟩ entry_list_sort (list_sort_tree hoL hI (by omega) λout ns' a1 a2 a3=>⟨_,rfl,?_⟩) (args_list_sort _)));have I1:Inv X dv Z H { s with heap:=h',toks:=tk }:=I.un (Un.kept hk') (I.au.kept hk');obtain⟨e9,he⟩:=sortedHeap_at (out:=out) hoL;have hn:H h'.objs.size=none:=I1.au.fresh (aai _);refine aat ⟨_,rfl,.ref h'.objs.size,_,I1.laid (o:=.lst (ns'.map V.int)) (λb o hb'=>?_) (aai _) ⟨?_,out.toList,e9,nK a1,?_⟩,rfl,q ns' _ a2 a3 hn⟩
 . have RJ := aav hb';rw[sortedHeap_old (aaH RJ) (by rw[size_push'];exact acp RJ)];exact aaj _ hb'
 . rw[aaa,a2.length_eq,aan];omega
 . exact he
theorem Jy {a:Addr}{ks:List Int}{Q:VK}(h:H a=some (.dK kvs))(hk:kvs.map (·.1)=ks.map Sum.inl)(hl:ks.length<64)
   (q:∀ (Wx:List Int) (p:Addr),Wx.Perm ks->Wx.Pairwise (· <= ·)->H p=none->Q (.ref p) (upd H p (.lst (Wx.map V.int)))):ET [.ref a] H Q:=⟨a,kvs,ks,rfl,.inl h,hk,hl,q⟩
theorem Bp {P:Program}{w:World}:dj (cS P w) X (λ_ _ _=>False):=λ_ _ _ _ _ _ _ h=>by
 obtain⟨ea,C,H',_,_,z⟩:=h;exact z.elim
def O2:TS:=λ_ _ _=>False
theorem bp:PS X st O2:=λ_ _ _ _ _ _ h=>h.elim
end L3
namespace FB
open PySem PySem.Spec PyProof.Rows L2 L3 PySem.SeqAt
inductive Rw where
 | set (b n:Int) | copy (b o:Int) | add (b o t:Int) | sub (b o t:Int) | mul (b o t:Int) | less (b o t:Int)
 | grow (m:Int) | shrink (m:Int) | put (b c:Int) | get (b c:Int)
 | ck (t:Int) | branch (b t:Int) | call (t:Int) | back (b:Int) | drop (b:Int)
def dz (b:Int):Prop:=0<=b/\b<=7
def isVal (n:Int):Prop:=0<=n/\n<=4294967295
def eC (n:Int):Prop:=0<=n/\n<=4000
def CN (n:Int):Prop:=0<=n/\n<=2000
def Rw.ok:Rw->Prop
 | .set b n=>dz b/\isVal n
 | .copy b o=>dz b/\dz o
 | .add b o t | .sub b o t | .mul b o t | .less b o t=>dz b/\dz o/\dz t
 | .grow m | .shrink m=>eC m
 | .put b c | .get b c=>dz b/\eC c
 | .ck t | .call t=>CN t
 | .branch b t=>dz b/\CN t
 | .back b | .drop b=>dz b
def gI (xs:List Int)(i:Int):Int:=xs.getD i.toNat 0
def sI (xs:List Int)(i v:Int):List Int:=xs.set i.toNat v
theorem Ez (xs:List Int)(i v:Int):(sI xs i v).length=xs.length:=by unfold sI;exact abx ..
theorem NR {xs:List Int}{i:Int}(h0 : 0<=i)(h1:i<xs.length):cI (xs.map V.int) i=some (.int (gI xs i)):=by
 have e:i=((i.toNat:Nat):Int):=by omega
 have hl:i.toNat<xs.length:=by omega
 have z:cI (xs.map V.int) ((i.toNat:Nat):Int)=some (.int (gI xs i)):=cA (by
   rw[aae,aac hl];simp[gI,List.getD,aac hl])
 rw[<- e] at z;exact z
variable {Q:VK} {H:Hp}
theorem Mj {K:W.Frag}{p:Addr}{xs:List Int}(h:av K H p (xs.map V.int))(q:Q (.int xs.length) H):uV K [.ref p] H Q:=dH h (by rw[aaa];exact q)
def Rw.cP:Rw->Int->List Int
 | .ck t,_=>[t]
 | .branch _ t,a=>[a+1,t]
 | .back _,_=>[]
 | .drop _,_=>[]
 | _,a=>[a+1]
theorem Hk (r:Rw)(n:Int):(r.cP n).length<=2:=by cases r <;> simp[Rw.cP]
def Rw.aC:Rw->Int->Option Int
 | .grow m,h=>if h+m > 4000 then none else some (h+m)
 | .shrink m,h=>if h<m then none else some (h - m)
 | .put _ c,h=>if h<=c then none else some h
 | .get _ c,h=>if h<=c then none else some h
 | _,h=>some h
def gr (s p src:Nat):Nat:=if s &&& src=0 then Bt.wo s p else s ||| p
def Rw.keep:Rw->Nat->Int->Nat
 | .set b _,s,_ | .add b _ _,s,_ | .sub b _ _,s,_ | .mul b _ _,s,_ | .less b _ _,s,_=>Bt.wo s (2 ^ b.toNat)
 | .copy b o,s,_=>gr s (2 ^ b.toNat) (2 ^ o.toNat)
 | .shrink m,s,h=>Bt.wo s ((2 ^ m.toNat - 1)*2 ^ (8+h - m).toNat)
 | .put b c,s,h=>gr s (2 ^ (8+h - 1 - c).toNat) (2 ^ b.toNat)
 | .get b c,s,h=>gr s (2 ^ b.toNat) (2 ^ (8+h - 1 - c).toNat)
 | .call _,s,_=>Bt.wo s 143
 | _,s,_=>s
def Rw.qZ:Rw->List (Str×V)
 | .set b n=>aj "number" (.int n) (aj "box" (.int b) [])
 | .copy b o=>aj "one" (.int o) (aj "box" (.int b) [])
 | .add b o t | .sub b o t | .mul b o t | .less b o t=>aj "other" (.int t) (aj "one" (.int o) (aj "box" (.int b) []))
 | .grow m | .shrink m=>aj "many" (.int m) []
 | .put b c | .get b c=>aj "cell" (.int c) (aj "box" (.int b) [])
 | .ck t | .call t=>aj "target" (.int t) []
 | .branch b t=>aj "target" (.int t) (aj "box" (.int b) [])
 | .back b | .drop b=>aj "box" (.int b) []
structure aP where
 RF:Addr
 cp:Addr
 bP:Addr
 O8:Addr
 OE:Addr
 OJ:Addr
 M9:Addr
 bV:Addr
 be:Addr
 cq:Addr
 cm:Addr
 aW:Addr
 bC:Addr
 bL:Addr
 ba:Addr
 L5:Addr
 NB:Addr
 Ot:Addr
 eN:Addr
 Ks:Addr
 dk:Addr
 Qy:Addr
 cM:Addr
 DC:Addr
 EL:Addr
 Qm:Addr
 cD:Addr
 Qo:Addr
 QL:Addr
 iY:Addr
 QM:Addr
 PY:Addr
 cu:Addr
 g6:Addr
 pP:Addr
 ND:Addr
def Rw.cls (a:aP):Rw->Addr
 | .set ..=>a.cp
 | .copy ..=>a.bP
 | .add ..=>a.O8
 | .sub ..=>a.OE
 | .mul ..=>a.OJ
 | .less ..=>a.M9
 | .grow ..=>a.bV
 | .shrink ..=>a.be
 | .put ..=>a.cq
 | .get ..=>a.cm
 | .ck ..=>a.aW
 | .branch ..=>a.bC
 | .call ..=>a.bL
 | .back ..=>a.ba
 | .drop ..=>a.L5
def br (a:aP)(H:Hp)(p:Addr)(r:Rw):Prop:=∃ dx,H p=some (.ins (r.cls a) dx r.qZ)
theorem br.same {a:aP}{H':Hp}{p:Addr}{r:Rw}(h:br a H p r)(s:ah H H'):br a H' p r:=let ⟨dx,e⟩:=h;⟨dx,s _ _ e⟩
def wA:Sp:=λvs H Q _=>∃ n top:Int,vs=[.int n,.int top]/\0<=n/\n<=top/\Q (.int n) H
def yM (H:Hp)(x dx C:Addr)(fs:List (Str×V))(Q:VK):Prop:=H x=some (.ins C dx [])/\∀ H',(∀ b o,H b=some o->b≠x->H' b=some o)->H' x=some (.ins C dx fs)->Q .ax H'
def n_ (C:Addr)(mk:Int->Rw):Sp:=λvs H Q _=>∃ (x dx:Addr) (i:Int),vs=[.ref x,.int i]/\(mk i).ok/\yM H x dx C (mk i).qZ Q
def jH (C:Addr)(mk:Int->Int->Rw):Sp:=λvs H Q _=>∃ (x dx:Addr) (i j:Int),vs=[.ref x,.int i,.int j]/\(mk i j).ok/\yM H x dx C (mk i j).qZ Q
theorem AV {C:Addr}{a:aP}{r:Rw}(hc:r.cls a=C)(q:∀ p H',ah H H'->H p=none->br a H' p r->Q (.ref p) H'){x dx:Addr}(hx:H x=none)(TC:H dx=none) :
   yM (upd (upd H dx (.own x)) x (.ins C dx [])) x dx C r.qZ (λv H2=>v=.ax/\Q (.ref x) H2):=by
 refine⟨U,λH' kp hH'=>⟨rfl,q x H' (λb o e=>?_) hx ⟨dx,by rw[hc];exact hH'⟩⟩⟩;exact kp b o (by rw[af (ae e hx),af (ae e TC)];exact e) (ae e hx)
theorem Mc {C:Addr}{mk:Int->Rw}{a:aP}{i:Int}{E:XK}(hk:(mk i).ok)(hc:(mk i).cls a=C)(q:∀ p H',ah H H'->H p=none->br a H' p (mk i)->Q (.ref p) H') :
   ∀ x dx,H x=none->H dx=none->dx≠x->n_ C mk (.ref x::[.int i]) (upd (upd H dx (.own x)) x (.ins C dx [])) (λv H2=>v=.ax/\Q (.ref x) H2) E:=λx dx hx TC _=>⟨x,dx,i,rfl,hk,AV hc q hx TC⟩
theorem Fg {C:Addr}{mk:Int->Int->Rw}{a:aP}{i j:Int}{E:XK}(hk:(mk i j).ok)(hc:(mk i j).cls a=C)(q:∀ p H',ah H H'->H p=none->br a H' p (mk i j)->Q (.ref p) H') :
   ∀ x dx,H x=none->H dx=none->dx≠x->jH C mk (.ref x::[.int i,.int j]) (upd (upd H dx (.own x)) x (.ins C dx [])) (λv H2=>v=.ax/\Q (.ref x) H2) E:=λx dx hx TC _=>⟨x,dx,i,j,rfl,hk,AV hc q hx TC⟩
theorem sL {x:Addr}{o1 o2:HO}:∀ b o,H b=some o->b≠x->upd (upd H x o1) x o2 b=some o:=λb o e ne=>by rw[af ne,af ne];exact e
theorem tU {x:Addr}{o1:HO}:∀ b o,H b=some o->b≠x->upd H x o1 b=some o:=λb o e ne=>by rw[af ne];exact e
def gc (a:aP)(r:Rw):Sp:=λvs H Q _=>∃ (x:Addr) (n:Int),vs=[.ref x,.int n]/\br a H x r/\∀ p,H p=none->Q (.ref p) (upd H p (.lst ((r.cP n).map V.int)))
def aO:Option Int->V
 | none=>.ax
 | some i=>.int i
def eg (a:aP)(r:Rw):Sp:=λvs H Q _=>∃ (x:Addr) (h:Int),vs=[.ref x,.int h]/\br a H x r/\Q (aO (r.aC h)) H
def e_ (a:aP)(r:Rw):Sp:=λvs H Q _=>∃ (x:Addr) (s:Nat) (h:Int),vs=[.ref x,.int (s:Int),.int h]/\br a H x r/\r.ok/\0<=h/\h<=4000/\(r.aC h).isSome=true/\Q (.int (r.keep s h:Nat)) H
def BD:Sp:=λvs H Q _=>∃ b:Int,vs=[.int b]/\0<=b/\b<=7/\Q (.int ((2 ^ b.toNat:Nat):Int)) H
def yH:Sp:=λvs H Q _=>∃ c h:Int,vs=[.int c,.int h]/\0<=c/\c<h/\h<=4000/\Q (.int ((2 ^ (8+h - 1 - c).toNat:Nat):Int)) H
def wJ:Sp:=λvs H Q _=>∃ s p:Nat,vs=[.int (s:Int),.int (p:Int)]/\Q (.int (Bt.wo s p:Nat)) H
def zl:Sp:=λvs H Q _=>∃ s p t:Nat,vs=[.int (s:Int),.int (p:Int),.int (t:Int)]/\Q (.int (gr s p t:Nat)) H
variable {E:XK}
theorem J8 {b:Int}(h0 : 0<=b)(h1:b<=7)(q:Q (.int ((2 ^ b.toNat:Nat):Int)) H):BD [.int b] H Q E:=⟨b,rfl,h0,h1,q⟩
theorem HN {c h:Int}(h0 : 0<=c)(h1:c<h)(h2:h<=4000)(q:Q (.int ((2 ^ (8+h - 1 - c).toNat:Nat):Int)) H):yH [.int c,.int h] H Q E:=⟨c,h,rfl,h0,h1,h2,q⟩
theorem DS {s p:Nat}(q:Q (.int (Bt.wo s p:Nat)) H):wJ [.int (s:Int),.int (p:Int)] H Q E:=⟨s,p,rfl,q⟩
theorem Gq {s p t:Nat}(q:Q (.int (gr s p t:Nat)) H):zl [.int (s:Int),.int (p:Int),.int (t:Int)] H Q E:=⟨s,p,t,rfl,q⟩
theorem FL {n top:Int}(h0 : 0<=n)(h1:n<=top)(q:Q (.int n) H):wA [.int n,.int top] H Q E:=⟨n,top,rfl,h0,h1,q⟩
def cellAt (ns:List Int)(k:Int):Int:=ns.getD k.toNat 0
def zd (K:W.Frag):Sp:=λvs H Q _=>∃ (p:Addr) (ns:List Int) (k:Int),vs=[.ref p,.int k]/\av K H p (ns.map V.int)/\0<=k/\Q (.int (cellAt ns k)) H
theorem F8 {K:W.Frag}{p:Addr}{ns:List Int}{k:Int}(h:av K H p (ns.map V.int))(h0 : 0<=k)(q:Q (.int (cellAt ns k)) H):zd K [.ref p,.int k] H Q E:=⟨p,ns,k,rfl,h,h0,q⟩
theorem B8 {ns:List Int}{k:Int}(h0 : 0<=k)(h : ¬ k<ns.length):cellAt ns k=0:=by
 unfold cellAt;rw[List.getD_eq_getElem?_getD,abQ (by omega)];rfl
def pM (K:W.Frag):Sp:=λvs H Q _=>∃ (a:Addr) (ns:List Int),vs=[.ref a]/\av K H a (ns.map V.int)/\ns.length<=63/\∀ H',Q (.bl true) H'
variable {f:Str}
theorem A5 {fs:List (Str×V)}{g:Str}{v w:V}(h:f≠g)(e:fs.lookup f=some w):(aj g v fs).lookup f=some w:=by rw[fG,if_neg h];exact e
theorem lX {fs:List (Str×V)}{v:V}:(aj f v fs).lookup f=some v:=by rw[fG,if_pos rfl]
theorem BM {fs:List (Str×V)}{g:Str}{v:V}(h:f≠g)(e:fs.lookup f=none):(aj g v fs).lookup f=none:=by rw[fG,if_neg h];exact e
theorem er {fs:List (Str×V)}{v:V}{n:Nat}(e:fs.length<=n):(aj f v fs).length<=n+1:=aaR (j9 _ _ _) (Nat.succ_le_succ e)
end FB
namespace L3
open PySem PySem.Spec PyProof.Rows L2 PySem.SeqAt
open PySem PySem.Spec PyProof.Rows L2 PySem.SeqAt PySem.W Builtin Builtin.ObjectAttr
def Ig (x:Str)(tv:TE):TE:=λZ H Q=>tv Z H λu H1=>∃ i,u=.int i/\i.natAbs.log2<1900/\Q (.str (adf++x++abS (toString i))) H1
variable {X:Cx}
theorem vH {v:Expr}{tv:TE}{x:Str}{j1:Nat}{p0 p1 p2:Pos}(hv:PE X v tv)(hx:(adf++x).length<=1000:=by decide +kernel):PE X (.JoinedStr [.Constant (.str x) j1 p1,.FormattedValue v (-1) none p2] p0) (Ig x tv):=by
 intro dv s Z H Q I h;refine JoinedStr_many (joinParts_cons (aL (il (X:=X) dv s Z H (λu H'=>u=.str x/\H'=H) I ⟨rfl,rfl⟩) λu1 s1 zq=>?_));obtain⟨v1,H1,I1,r1,e1,e2⟩:=zq;subst e1 e2;obtain⟨t1,rfl⟩:=r1;refine⟨by rw[aan];omega,joinParts_cons (FormattedValue_plain (aL (hv dv s1 Z H1 _ I1 h) λu2 s2 zq=>?_))⟩;obtain⟨v2,H2,I2,r2,i,e,hd,q⟩:=zq;subst e;obtain⟨t2,rfl⟩:=r2;have hl:=int_text_len_1921 (i:=i) (by omega);have hz:(adf++x++abS (toString i)).length<=aar:=by
   rw[aan]
   have:(adf++x++abS (toString i)).length=(adf++x).length+(abS (toString i)).length:=by
     show Array.size _=Array.size _+Array.size _;exact Array.size_append
   omega
 refine formatField_int_small (by omega) ?_;exact⟨hz,joinParts_nil ⟨.str _,_,(I2.tok _).tok _,⟨_,rfl⟩,q⟩ hz⟩
variable {Q:VK} {H:Hp} {Z : L2.St}
theorem tY {x:Str}{tv:TE}(h:tv Z H λu H1=>∃ i,u=.int i/\i.natAbs.log2<1900/\Q (.str (adf++x++abS (toString i))) H1):Ig x tv Z H Q:=h
theorem J3 {r r':R2}{ta tb tc:TE}(h:ta Z H λx H1=>tb Z H1 λy H2=>r x y H2 λz H3=>∃ k,z=.bl k/\(if k then tc Z H3 λu H4=>r' y u H4 Q else Q (.bl false) H3)):zG r r' ta tb tc Z H Q:=h
theorem zw {K:W.Frag}{p:Addr}{xs:List V}(h:av K H p xs)(q:∀ l,H l=none->Q (.ref l) (upd H l (.tup xs))):LU K [.ref p] H Q:=⟨p,xs,rfl,.inl ⟨h,q⟩⟩
theorem AK:aaY "enumerate" = some (.type "enumerate"):=by decide +kernel
section
variable {X:Cx} {dv:List (Addr×Obj)} {Z : L2.St} {H:Hp} {s:Shared}
variable {d:Addr}
theorem yU {o o':HO}(I:Inv X dv Z H s)(hd:H d=some o)(n1:∀ y,o≠.own y)(n2:∀ xs,o≠.tup xs)(n3:∀ ps,o≠.tD ps)(n4:∀ u v,X.H₀ d=some (.cx u v)->o'=.cx u v)
   (ok:bM X.prog X.w (upd H d o') s.heap d o'):Inv X dv Z (upd H d o') s:=by
 have nd:∀ {b:Addr},H b=none->b≠d:=λ{b} e z=>by rw[z,hd] at e;cases e
 refine⟨I.ok,I.os,I.bare,⟨I.base.keep,I.base.slot,λb ob q n hx=>?_,I.base.there,λb xs e=>?_,λb u v e=>?_,λb ps e=>?_⟩,I.loc,I.cell,?_,λx c e=>?_,λp hp=>?_,λb u e=>?_,I.len⟩
 . have z := I.base.free b ob q n hx;rw[af (nd z)];exact z
 . have z := I.base.iC b xs e;rw[af (λy=>by rw[y,hd] at z;exact n2 xs (aap z))];exact z
 . by_cases hb:b=d
   . subst hb;rw[U,n4 u v e]
   . rw[af hb];exact I.base.fW b u v e
 . obtain⟨more, z⟩ := I.base.iD b ps e;exact⟨more,by rw[af (λy=>by rw[y,hd] at z;exact n3 _ (aap z))];exact z⟩
 . rw[af (nd I.free)];exact I.free
 . rw[af (nd (I.ee x c e))];exact I.ee x c e
 . obtain⟨h1, h2, h3⟩ := I.pin p hp;exact⟨h1,by rw[af (nd h2)];exact h2,h3⟩
 . by_cases hb:b=d
   . subst hb;rw[U] at e;cases e
     exact ok
   . rw [af hb] at e;refine (I.au b u e).iB (λ_ _ _ q=>q) (λc q=>?_) λc xs q=>?_
     . rw[af (λy=>by rw[y,hd] at q;exact n1 _ (aap q))];exact q
     . rw[af (λy=>by rw[y,hd] at q;exact n2 _ (aap q))];exact q
def Dk (P:Program)(w:World)(ob:Obj)(vs:List (Key×Value))(ep:Nat):Prop:=∃ es,ob.ExactDict/\ob.data=.dict es ep/\KeysOf (bc P w) es/\Pairs (bc P w) es.toList vs/\(vs.map (·.1)).Nodup
variable {ob:Obj}
theorem Dk.at {P:Program}{w:World}{vs:List (Key×Value)}{ep:Nat}{h:Heap}(x:Dk P w ob vs ep)(e:h.get? d=some ob):h.DictAt (bc P w) d vs ep:=let ⟨es,r⟩:=x;⟨ob,es,e,r⟩
variable {kvs:List (Key×V)}
theorem C6 (I:Inv X dv Z H s)(hd:H d=some (.dK kvs)):∃ ob vs ep,s.heap.get? d=some ob/\(d == abE)=false/\KV kvs vs/\Dk X.prog X.w ob vs ep/\Inv X dv Z (upd H d (.cx ob (.dK kvs))) s:=by
 obtain⟨z,y,vs,r,ob,es,ep,e,c⟩:=id (I.au d _ hd);refine⟨ob,vs,ep,e,y,r,⟨es,c⟩,yU I hd (λ_ q=>by cases q) (λ_ q=>by cases q) (λ_ q=>by cases q) (λu v q=>?_) ⟨e,z,y,vs,r,ob,es,ep,e,c⟩⟩
 have:=I.base.fW d u v q
 rw[hd] at this;cases this
theorem l_ (I:Inv X dv Z H s)(hd:H d=some (.cx ob (.dK kvs)))(h0:∀ u v,X.H₀ d≠some (.cx u v)):Inv X dv Z (upd H d (.dK kvs)) s:=by
 obtain⟨_,z,y,vs,r,q⟩:=id (I.au d _ hd);exact yU I hd (λ_ q=>by cases q) (λ_ q=>by cases q) (λ_ q=>by cases q) (λu v q=>absurd q (h0 u v)) ⟨z,y,vs,r,q⟩
end
theorem KV.at {κ : Type}:∀ {kvs:List (κ×V)} {vs:List (κ×Value)} {i:Nat} {k : κ} {v:V},KV kvs vs->kvs[i]? = some (k,v)->∃ u,vs[i]? = some (k,u)/\RelV v u
 | _,_,_,_,_,.nil,e=>by simp at e
 | _, _, 0, _, _, .cons (b := q) h r, e => by
   obtain⟨k',u⟩:=q;cases e
   obtain⟨h1,h2⟩:=h;cases h1
   exact⟨u,rfl,h2⟩
 | _, _, i + 1, _, _, .cons h r, e => by
   obtain⟨u,h1,h2⟩:=KV.at (i:=i) r (by simpa using e);exact⟨u,by simpa using h1,h2⟩
theorem KV.len {κ : Type}{kvs:List (κ×V)}{vs:List (κ×Value)}(h:KV kvs vs):kvs.length=vs.length:=acX h
theorem JM {P:Program}{w:World}{k:Key}{key:Value}(h:(bc P w).is k key=true):RelV (kV k) key:=by
 rcases bS h with ⟨i,t,rfl,rfl⟩ | ⟨x,t,rfl,rfl⟩
 . exact⟨t,rfl⟩
 . exact⟨t,rfl⟩
def Th (H0:Hp)(q:Hp->Prop)(H':Hp):Prop:=q H'∨∃ d ob kvs,H' d=some (.cx ob (.dK kvs))/\(∀ u v,H0 d≠some (.cx u v))/\q (upd H' d (.dK kvs))
def xS (H0:Hp)(t:TS):TS:=λD Z H=>t { nx:=λZ' H'=>Th H0 (D.nx Z') H',rt:=λv H'=>Th H0 (D.rt v) H',bk:=λZ' H'=>Th H0 (D.bk Z') H',ct:=λZ' H'=>Th H0 (D.ct Z') H' } Z H
theorem BL {st:Stmt}{t:TS}(h:PS X st t):PS X st (xS X.H₀ t):=by
 intro dv s Z H D I hh;refine aaV (h dv s Z H _ I hh) (λf s1 q=>?_) λ_ _ z=>z;cases f with
 | next =>
   obtain⟨Z',H',I',q⟩:=q;rcases q with q | ⟨d,ob,kvs,e,h0,q⟩
   . exact⟨Z',H',I',q⟩
   . exact⟨Z',_,l_ I' e h0,q⟩
 | brk =>
   obtain⟨Z',H',I',q⟩:=q;rcases q with q | ⟨d,ob,kvs,e,h0,q⟩
   . exact⟨Z',H',I',q⟩
   . exact⟨Z',_,l_ I' e h0,q⟩
 | cont =>
   obtain⟨Z',H',I',q⟩:=q;rcases q with q | ⟨d,ob,kvs,e,h0,q⟩
   . exact⟨Z',H',I',q⟩
   . exact⟨Z',_,l_ I' e h0,q⟩
 | ret u =>
   obtain⟨v,Z',H',I',r,q⟩:=q;rcases q with q | ⟨d,ob,kvs,e,h0,q⟩
   . exact⟨v,Z',H',I',r,q⟩
   . exact⟨v,Z',_,l_ I' e h0,r,q⟩
theorem Ft {H0:Hp}{t:TS}{D:Ends}(h:t { nx:=λZ' H'=>Th H0 (D.nx Z') H',rt:=λv H'=>Th H0 (D.rt v) H',bk:=λZ' H'=>Th H0 (D.bk Z') H',ct:=λZ' H'=>Th H0 (D.ct Z') H' } Z H):xS H0 t D Z H:=h
def DW (d:Addr)(ob:Obj)(kvs:List (Key×V)):It :=
 ⟨λi H=>H d=some (.cx ob (.dK kvs))/\∃ k v,kvs[i]? = some (k,v),λi H x H'=>∃ T k v,x=.ref T/\H T=none/\H'=upd H T (.tup [kV k,v])/\kvs[i]? = some (k,v),λi H=>H d=some (.cx ob (.dK kvs))/\kvs.length<=i⟩
variable {kvs:List (Key×V)} {ob:Obj}
theorem Cw {P:Program}{w:World}{K:W.Frag}{es:List Expr}{n:Nat}{pos:Pos}{d it:Addr}{vs:List (Key×Value)}{ep:Nat}(hD:Dk P w ob vs ep)(Uu:KV kvs vs) :
   Turn P w K (.Tuple es n pos) (DW d ob kvs) [it] it (λi h=>∃ ok ov,IsItemIter h it d i vs.length ep ok ov) where
 mem:=by simp
 obj:=λi h st b hb=>by
   have e:b=it:=by simpa using hb
   subst e;obtain⟨ok,ov,e⟩:=st;exact⟨_,e,λv z=>by cases z⟩
 keep:=λi h h' st k=>by
   obtain⟨ok,ov,e⟩:=st;exact⟨ok,ov,k it (by simp) _ e⟩
 item:=by
   intro X hP hw hK hc i dv s Z H E I hf st hg;subst hP hw hK;obtain⟨ok,ov,st⟩:=st;obtain⟨hd,k,v,hx⟩:=hg;obtain⟨e,_⟩:=id (I.au d _ hd);obtain⟨u,hu,ru⟩:=KV.at Uu hx;refine wpAny_pyNext_items_item st (hD.at e) hu λkey h' hkey ho ht hz kk=>?_;refine⟨_,rfl,wpAny_letOwnedTupleGo_items ho λh2' UB s2=>?_⟩;have T0:H s.heap.objs.size=none:=I.au.fresh (aai _);have te:s.heap.objs.size≠it:=abU (aav st);have J:Inv X dv Z (upd H s.heap.objs.size (.tup [kV k,v])) { s with heap:=h2' }:=by
     refine nY (ch:=[it]) I hf (aai _) (λc o hc z=>?_) (λc hc=>?_) ?_
     . have c1 : c ≠ it := λq => hc (by simp[q]);exact s2.extBut _ _ c1 (kk c o c1 z)
     . have hc : c = it := by simpa using hc
       subst hc;exact⟨_,UB⟩
     . exact⟨by show 2<=aar;decide,[key,u],.cons (JM hkey) (.cons ru .nil),⟨_,s2.extBut _ _ te ht,rfl,_,rfl⟩⟩
   refine⟨.ref s.heap.objs.size,_,J,rfl,⟨_,k,v,rfl,T0,rfl,hx⟩,⟨_,_,UB⟩,λc hc=>?_⟩;have hc':c=it:=by simpa using hc
   have RJ:c<s.heap.objs.size:=by rw[hc'];exact aav st
   rw[af (aaH RJ)];exact(hf c hc).1
 done:=by
   intro X hP hw hK hc i dv s Z H E I hf st hg;subst hP hw hK;obtain⟨ok,ov,st⟩:=st;obtain⟨hd,hl⟩:=hg;obtain⟨e,_⟩:=id (I.au d _ hd);obtain⟨f0,f1,f2,f3,f4,f5⟩:=hf it (by simp);have Bn:=KV.len Uu;exact wpAny_pyNext_items_end (I.ok.hd hc) st (hD.at e) (by simp;omega) λh' eb=>⟨rfl,I.turned (t':=s.toks) (λb o hb e=>eb b o hb e) f0 f1 f3 f4 f5⟩
 self:=λA i s Q E st h=>by
   obtain⟨ok,ov,st⟩:=st;exact W.kcp_self st h
def Eu (td:TE):TI:=λZ H R=>td Z H λx H1=>∃ d kvs,x=.ref d/\H1 d=some (.dK kvs)/\∀ ob,R (DW d ob kvs) (upd H1 d (.cx ob (.dK kvs)))
variable {td:TE}
theorem zh {es : List Expr}{n : Nat}{Se : Pos}{o : Expr}{RL gV : Pos}(ho : PE X o td)(R5 : abr o "items" X.env (eval o X.env) = eval o X.env := by rfl)(R4 : (RL.endLine == gV.line) = true := by rfl) :
   PI X (.Tuple es n Se) (.Call (.Attribute o "items" RL) [] [] gV) (Eu td):=by
 intro dv s Z H R I h;refine wpAny_Call_method0_late R5 R4 (aL (ho dv s Z H _ I h) λv s1 zq=>bF zq λx H1 I1 r1 q1=>?_);obtain⟨d,kvs,ex,hd,q⟩:=q1;subst ex;obtain⟨h1,h2⟩:=zM (T:="dict") I1 r1 (.inr (.inr (.inl ⟨rfl,.inl ⟨kvs,hd⟩⟩)));cases r1
 obtain⟨ob,vs,ep,eo,hsm,Uu,hD,I2⟩:=C6 I1 hd;refine⟨"dict","dict.items",acW,PySem.F.slot_dict_items,PySem.F.type_dict_items,h1,h2,abL rfl (PySem.evalArgs_none ?_)⟩;refine call_meetsIn PySem.F.slot_dict_items h1 PySem.F.entry_dict_items (PySem.F.args_dict_items_1 _) (meets_dict_items (bc X.prog X.w) d hsm) ⟨⟨vs,(hD.at eo).dictOf⟩,?_⟩;refine wpAny_pyIter_items (kvs:=vs) (ep:=ep) ⟨_,aay _ rfl,rfl,rfl⟩ (Heap.DictAt.push (hD.at eo) _) ?_;have hz:(s1.heap.push { cls:=.type "dict_items",data:=.fields #[.ref d] }).objs.size=s1.heap.objs.size+1:=abJ ..;refine⟨_,[(s1.heap.push { cls:=.type "dict_items",data:=.fields #[.ref d] }).objs.size],_,_,_,rfl,I2.kept (t':=s1.toks) λb o e=>aaj _ (aaj _ e),Cw hD Uu,⟨_,_,aay _ rfl⟩,λb hb=>?_,q ob⟩;have e:b=(s1.heap.push { cls:=.type "dict_items",data:=.fields #[.ref d] }).objs.size:=by simpa using hb
 have Vo:s1.heap.objs.size<=b:=by rw[e,hz];exact ack _
 exact I2.lN Vo (I2.au.fresh Vo)
theorem BN {R:It->Hp->Prop}(q:td Z H λx H1=>∃ d kvs,x=.ref d/\H1 d=some (.dK kvs)/\∀ ob,R (DW d ob kvs) (upd H1 d (.cx ob (.dK kvs)))):Eu td Z H R:=q
variable {d:Addr}
theorem D2 {g:TG}{tb:TS}{D:Ends}(Pv:Nat->L2.St->Hp->Prop)(h0:Pv 0 Z H)(hl:∀ i Z H,i<=kvs.length->Pv i Z H->H d=some (.cx ob (.dK kvs)))
   (hs:∀ i k v T Z H,kvs[i]? = some (k,v)->Pv i Z H->H T=none->g (.ref T) Z (upd H T (.tup [kV k,v])) λZ2 H2=>tb { D with nx:=Pv (i+1),ct:=Pv (i+1),bk:=D.nx } Z2 H2) (hd:∀ Z H,Pv kvs.length Z H->D.nx Z H):rK (DW d ob kvs) g tb D Z H:=by
 refine⟨λi m Z H=>m=kvs.length - i/\i<=kvs.length/\Pv i Z H,⟨kvs.length,by simp,aaW _,h0⟩,?_⟩;rintro i m Z H ⟨rfl,hi,p⟩;have q1:=hl i Z H hi p;by_cases RJ:i<kvs.length
 . refine .inr ⟨⟨q1, kvs[i].1, kvs[i].2, by simp[RJ]⟩, Pv (i + 1), λZ' H' p' => ⟨kvs.length - (i + 1), by omega, rfl, RJ, p'⟩, λx H' y => ?_⟩;obtain⟨T,k,v,rfl,hT,rfl,hk⟩:=y;exact hs i k v T Z H hk p hT
 . have e : i = kvs.length := by omega
   subst e;exact .inl ⟨⟨q1,aai _⟩,hd Z H p⟩
def B7 (K:W.Frag):List V->Hp->VK->Prop:=λxs H Q=>∃ (p:Addr) (ns:List Int),xs=[.ref p]/\av K H p (ns.map V.int)/\Q (.bl (ns.all λn=>n != 0)) H
theorem Dl (ns:List Int):(aaU ns.length).all (λi=>ns.getD i 0 != 0)=ns.all λn=>n != 0:=by
 induction ns with
 | nil=>rfl
 | cons b r ih =>
   rw[aaq,ac8,abB,abB,ab5,<- ih];rfl
theorem Fq (hc:X.calm=true):bZ X (.builtin "all") (B7 X.K):=by
 intro dv s Z H xs us Q I r h;obtain⟨p,bs,rfl,hq,q⟩:=h;obtain⟨u,rfl,rx⟩:=vals1 r;cases rx
 obtain⟨its,rv,pl,hz⟩:=I.list hq;have Bn:=rv.length;rw[aaa] at Bn;have RJ:p<s.heap.objs.size:=by obtain⟨o,e,_⟩:=pl.isList;exact aav e
 refine call_all_walk (abt pl.isList ?_);refine⟨s.heap.objs.size,_,_,_,_,_,λi=>bs.getD i 0 != 0,rfl,Walks.list (by exact I.ok.hd hc) s.heap.objs.size p (aaH RJ) its.toArray,⟨⟨_,aay _ rfl,rfl,rfl⟩,pl.isList.push _⟩,?_,?_⟩
 . intro i v s' Q' E' hP hQ';have V1:its[i]? = some v:=by simpa using hP
   have hi:i<its.length:=(List.getElem?_eq_some_iff.mp V1).1;have hb:(bs.map V.int)[i]? = some (V.int (bs.getD i 0)):=by
     rw[aae,aac (by omega)];simp[List.getD,aac (show i<bs.length by omega)]
   obtain⟨u',U5,ru'⟩:=rv.get hb;rw[V1] at U5;cases U5
   obtain⟨t,rfl⟩:=(show ∃ t,v=aa3 _ t from ru')
   exact PySem.P.truthy_int hQ'
 . intro h' tk kk;have e:(aaU its.toArray.size).all (λi=>bs.getD i 0 != 0)=bs.all λn=>n != 0:=by
     rw[aau,<- Bn];exact Dl bs
   rw[e];refine⟨.bl _,H,?_,rfl,q⟩;have I1:Inv X dv Z H { s with heap:=s.heap.push { cls:=.type "list_iterator",data:=.fields #[.ref p,.int 0 0] } }:=I.kept (t':=s.toks) λb o e=>aaj _ e;have f:=I.lN (H':=H) (aai _) I.fresh;exact I1.turned (it:=s.heap.objs.size) (h':=h') (t':=tk) (λb o hb e=>kk b o (by simpa using hb) e) f.1 f.2.1 f.2.2.2.1 f.2.2.2.2.1 f.2.2.2.2.2
theorem Cr {K:W.Frag}(h:X.K=K)(hc:X.calm=true):bZ X (.builtin "all") (B7 K):=by subst h;exact Fq hc
theorem Nb {K:W.Frag}{p:Addr}{ns:List Int}(h:av K H p (ns.map V.int))(q:Q (.bl (ns.all λn=>n != 0)) H):B7 K [.ref p] H Q:=⟨p,ns,rfl,h,q⟩
def GG (K:W.Frag):List V->Hp->VK->Prop:=λxs H Q=>∃ (p:Addr) (bs:List Bool),xs=[.ref p]/\av K H p (bs.map V.bl)/\Q (.bl (bs.any id)) H
theorem any_range (bs:List Bool):(aaU bs.length).any (λi=>bs.getD i false)=bs.any id:=by
 induction bs with
 | nil=>rfl
 | cons b r ih =>
   rw[aaq,ac8,abh,abh,List.any_map,<- ih];rfl
theorem Ej (hc:X.calm=true):bZ X (.builtin "any") (GG X.K):=by
 intro dv s Z H xs us Q I r h;obtain⟨p,bs,rfl,hq,q⟩:=h;obtain⟨u,rfl,rx⟩:=vals1 r;cases rx
 obtain⟨its,rv,pl,hz⟩:=I.list hq;have Bn:=rv.length;rw[aaa] at Bn;have RJ:p<s.heap.objs.size:=by obtain⟨o,e,_⟩:=pl.isList;exact aav e
 refine call_any_walk (abt pl.isList ?_);refine⟨s.heap.objs.size,_,_,_,_,_,λi=>bs.getD i false,rfl,Walks.list (by exact I.ok.hd hc) s.heap.objs.size p (aaH RJ) its.toArray,⟨⟨_,aay _ rfl,rfl,rfl⟩,pl.isList.push _⟩,?_,?_⟩
 . intro i v s' Q' E' hP hQ';have V1:its[i]? = some v:=by simpa using hP
   have hi:i<its.length:=(List.getElem?_eq_some_iff.mp V1).1;have hb:(bs.map V.bl)[i]? = some (V.bl (bs.getD i false)):=by
     rw[aae,aac (by omega)];simp[List.getD,aac (show i<bs.length by omega)]
   obtain⟨u',U5,ru'⟩:=rv.get hb;rw[V1] at U5;cases U5
   cases (show v=acV _ from ru')
   exact aa9 hQ'
 . intro h' tk kk;have e:(aaU its.toArray.size).any (λi=>bs.getD i false)=bs.any id:=by
     rw[aau,<- Bn];exact any_range bs
   rw[e];refine⟨.bl _,H,?_,rfl,q⟩;have I1:Inv X dv Z H { s with heap:=s.heap.push { cls:=.type "list_iterator",data:=.fields #[.ref p,.int 0 0] } }:=I.kept (t':=s.toks) λb o e=>aaj _ e;have f:=I.lN (H':=H) (aai _) I.fresh;exact I1.turned (it:=s.heap.objs.size) (h':=h') (t':=tk) (λb o hb e=>kk b o (by simpa using hb) e) f.1 f.2.1 f.2.2.2.1 f.2.2.2.2.1 f.2.2.2.2.2
theorem E6 {K:W.Frag}(h:X.K=K)(hc:X.calm=true):bZ X (.builtin "any") (GG K):=by subst h;exact Ej hc
theorem MH {K:W.Frag}{p:Addr}{bs:List Bool}(h:av K H p (bs.map V.bl))(q:Q (.bl (bs.any id)) H):GG K [.ref p] H Q:=⟨p,bs,rfl,h,q⟩
def xT (w:World)(l:List (Str×Tok×Value)):List DictEntry:=l.map λp=>{ hash:=PyData.keyHash w.params p.1,key:=.str p.1 p.2.1,val:=p.2.2 }
def tu (kvs:List (Str×V)):List (Key×V):=kvs.map λp=>((Sum.inr p.1:Key),p.2)
inductive zX:List (Str×V)->List (Str×Tok×Value)->Prop
 | nil:zX [] []
 | cons {t:Str} {v:V} {u:Value} {tk:Tok} {kvs:List (Str×V)} {l:List (Str×Tok×Value)} (r:RelV v u) (h:zX kvs l):zX ((t,v)::kvs) ((t,tk,u)::l)
structure zy (w:World)(K:W.Frag)(a:Addr)(kvs:List (Str×V)):Prop where
 sys:(a == abE)=false
 nd:((tu kvs).map (·.1)).Nodup
 ex:∃ (l:List (Str×Tok×Value)) (ep:Nat),zX kvs l/\K.lookup a=some { cls:=.type "dict",dict:=none,data:=.dict (xT w l).toArray ep,slots:=#[] }
theorem BJ {kvs:List (Str×V)}{l:List (Str×Tok×Value)}(h:zX kvs l):KV (tu kvs) (l.map λp=>((Sum.inr p.1:Key),p.2.2)):=by
 induction h with
 | nil=>exact .nil
 | cons r _ ih=>exact .cons ⟨rfl,r⟩ ih
theorem sR {P:Program}{w:World}:∀ l:List (Str×Tok×Value),Pairs (bc P w) (xT w l) (l.map λp=>((Sum.inr p.1:Key),p.2.2))
 | []=>.nil
 | p::l=>.cons (hU (k:=.inr p.1) ⟨_,rfl⟩) rfl (sR l)
theorem zy.dict {P:Program}{w:World}{K:W.Frag}{a:Addr}{kvs:List (Str×V)}{h:Heap}(c:zy w K a kvs)(x:K.In h):∃ vs,KV (tu kvs) vs/\h.DictOf (bc P w) a vs:=by
 obtain⟨l,ep,hl,lk⟩:=c.ex;refine⟨_,BJ hl,_,(xT w l).toArray,ep,x _ _ lk,⟨rfl,rfl,rfl⟩,rfl,λe he=>?_,by rw[ads];exact sR l,?_⟩
 . have he : e ∈ xT w l := by simpa using he
   obtain⟨p,_,rfl⟩:=List.mem_map.mp he;exact⟨.inr p.1,hU (k:=.inr p.1) ⟨_,rfl⟩,rfl⟩
 . rw[<- (BJ hl).keys];exact c.nd
def Df (w:World)(K:W.Frag)(td ty:TE):TE:=λZ H Q=>td Z H λx H1=>∃ a kvs,x=.ref a/\zy w K a kvs/\ty Z H1 λy H2=>∃ t v,y=.str t/\cV (tu kvs) (.inr t)=some v/\Q v H2
theorem Kk {w:World}{K:W.Frag}{o i:Expr}{ty:TE}{pos:Pos}(hw:X.w=w)(hK:X.K=K)(ho:PE X o td)(hi:PE X i ty)(hs:Hf i):PE X (.Subscript o i pos) (Df w K td ty):=by
 subst hw hK;intro dv s Z H Q I h;refine Br PySem.F.slot_dict_getitem.lookup hs (aL (ho dv s Z H _ I h) λu s1 ⟨x,H1,I1,rx,a,kvs,ex,c,q1⟩=>aL (hi dv s1 Z H1 _ I1 q1) λiv s2 zq=>?_);obtain⟨y,H2,I2,ry,t,v,ey,e,q2⟩:=zq;subst ex ey;obtain rfl:u=aaK a:=rx;obtain⟨vs,RV,dd⟩:=c.dict (P:=X.prog) I2.cZ;obtain⟨w',hw,Tt⟩:=d_.some_of (v:=v) (o:=valueAt vs (.inr t)) (by rw[<- e];exact RV.val (.inr t));exact⟨dd.typeIs,wpAny_getItem_of (hU (k:=.inr t) ry) dd.mapOf hw ⟨v,H2,I2.tok _,Tt,q2⟩⟩
theorem Hz {w:World}{K:W.Frag}{o e:Expr}{ty:TE}{RL gV:Pos}(hw:X.w=w)(hK:X.K=K)(ho:PE X o td)(he:PE X e ty)(m:M1 X o "get" RL e gV):PE X (.Call (.Attribute o "get" RL) [e] [] gV) (Df w K td ty):=by
 subst hw hK;intro dv s Z H Q I h;refine wpAny_Call_method m.base m.wK m.line acW abM PySem.F.type_dict_get (aL (ho dv s Z H _ I h) λu s1 zq=>?_);obtain⟨x,H1,I1,rx,a,kvs,ex,c,q1⟩:=zq;subst ex;obtain rfl:u=aaK a:=rx;obtain⟨vs0,_,dd0⟩:=c.dict (P:=X.prog) I1.cZ;refine⟨dd0.typeIs,λb q=>?_,?_⟩
 . cases q
   obtain⟨ob,_,_,h1,h2,_⟩:=dd0;exact⟨ob,h1,h2.2.1⟩
 rw[m.trees];refine abL rfl (acy (acL (aL (he dv s1 Z H1 _ I1 q1) λiv s2 ⟨y,H2,I2,ry,t,v,ey,ev,q2⟩=>Calls.spliced_nil ?_)));subst ey;obtain⟨vs,RV,dd⟩:=c.dict (P:=X.prog) I2.cZ;refine call_meetsIn abM dd.typeIs acY (PySem.F.args_dict_get_2 _ _) (meets_dict_get (bc X.prog X.w) a (hU (k:=.inr t) ry) c.sys) ⟨_,dd.mapOf,⟨v,H2,I2.tok _,?_,q2⟩⟩
 have:=(RV.val (.inr t)).getD (d:=.ax) (d':=.none) rfl
 rw[ev] at this;exact this
theorem MT {w:World}{K:W.Frag}{ty:TE}(q:td Z H λx H1=>∃ a kvs,x=.ref a/\zy w K a kvs/\ty Z H1 λy H2=>∃ t v,y=.str t/\cV (tu kvs) (.inr t)=some v/\Q v H2):Df w K td ty Z H Q:=q
theorem o8 {K:W.Frag}{a b:Addr}{α : Type}{xs:List α}{e1 e2 : α->V}{g:TG}{tc:TT}{te:TE}{RN:List V->Hp->Prop}{Z0:L2.St}(f : α->V)(pr : α->Bool)(Sg:L2.St->Prop)(ha:az K H a (xs.map e1))(hb:az K H b (xs.map e2))(hz:xs.length<=aar)(h0:Sg Z0)
   (hs:∀ (i:Nat) (x : α) (ys:List V) (Z : L2.St) (H1:Hp) (T:Addr),xs[i]? = some x->fN xs f pr Sg H i ys Z H1->ah H H1->Sg Z->H1 T=none ->
     g (.ref T) Z (upd H1 T (.tup [e1 x,e2 x])) λZ3 H3=>tc Z3 H3 λb H4=>if b=true then te Z3 H4 λy H5=>fN xs f pr Sg H (i+1) (ys++[y]) Z3 H5 else fN xs f pr Sg H (i+1) ys Z3 H4)
   (hd:∀ H1,ah H H1->RN ((xs.filter pr).map f) H1):eK (Bo K a b) g tc te RN Z0 H:=by
 have Bn:∀ i,(((xs.take i).filter pr).map f).length<=aar:=λi=>by
   have h1:=acs pr (xs.take i);have h2:(xs.take i).length<=xs.length:=by rw[aaC];omega
   rw[aaa];omega
 refine⟨λi m ys Z H1=>m=xs.length - i/\i<=xs.length/\fN xs f pr Sg H i ys Z H1,⟨xs.length,by simp,aaW _,ah.refl _,h0,rfl⟩,?_⟩;rintro i m ys Z H1 ⟨rfl,hi,c⟩;obtain⟨s,sg,rfl⟩:=id c;by_cases RJ:i<xs.length
 . refine .inr ⟨⟨_, _, e1 xs[i], e2 xs[i], bf s ha, bf s hb, by simp [RJ], by simp [RJ]⟩, fN xs f pr Sg H (i + 1), λSK Z2 H2 p' => ⟨?_, xs.length - (i + 1), by omega, rfl, RJ, p'⟩, λv H2 y => ?_⟩
   . obtain⟨_, _, rfl⟩ := p';exact Bn _
   . obtain ⟨T, x, y', rfl, hT, rfl, Ui⟩ := y;obtain ⟨q1,q2⟩:=Ui _ _ (bf s ha) (bf s hb);have Uv:e1 xs[i]=x:=by simpa [RJ] using q1
     have UC:e2 xs[i]=y':=by simpa [RJ] using q2
     rw[<- Uv,<- UC];exact hs i xs[i] _ Z H1 T (by simp[RJ]) c s sg hT
 . have e : i = xs.length := by omega
   subst e;refine .inl ⟨⟨_,_,bf s ha,bf s hb,.inl (by simp)⟩,Bn _,?_⟩;rw[aaG];exact hd H1 s
open PySem PySem.Spec PyProof.Rows L2 PySem.SeqAt PySem.Builtin PySem.Builtin.Str
open PySem PySem.Spec PyProof.Rows L2 PySem.SeqAt PySem.Builtin PySem.Builtin.Str PySem.StrLaws
open PySem PySem.Spec PyProof.Rows L2 PySem.SeqAt PySem.NumText
end L3
namespace HT
open PySem PyProof.Rows
end HT
namespace L3
open PySem PySem.Spec PyProof.Rows L2 PySem.SeqAt
theorem D3 (xs:List V){k:Nat}(h:k<=xs.length):cE xs (some (k:Int)) none=xs.drop k:=by
 unfold cE;rw[HT.Bu,Nat.min_eq_left h];show(xs.drop k).take (xs.length - k)=_;rw[ac7 (by rw[ac3];omega)]
theorem Jn (xs:List V){k:Nat}(h:k<=xs.length):cE xs none (some (k:Int))=xs.take k:=by
 unfold cE;rw[HT.Bu,Nat.min_eq_left h];show(xs.drop 0).take (k - 0)=_;rw[List.drop_zero,Nat.sub_zero]
structure FJ (P:Program)(w:World)(K:W.Frag)(mg:Str->Option Value)(base:Heap)(CX:dB)(k:Nat)(x:Str)(sp:Sp):Prop where
 ex:∃ (f:Addr) (fd:abc) (ps:List Str),cW P w K mg base CX k f fd ps sp/\mg x=some (.ref f)/\abz K (.ref f)=true/\Binds K fd ps [.none]
def EZ (sp:Sp)(E:XK)(t:TA):TE:=λZ H Q=>t Z H λvs H1=>sp (vs++[.ax]) H1 Q E
section
variable {X:Cx} {CX:dB} {k:Nat} {sp:Sp} {E:XK} {x:Str} {p pos:Pos} {e:Expr} {es:List Expr} {t:TA}
theorem Hy (G : FJ X.prog X.w X.K X.mg X.base CX k x sp)(hr : bG k X.A)(hx : dj CX X E)(hg : Gl X x)(ha : PA X (e :: es) t)(Sd : (x == ("__debug__" : Str)) = false := by decide)
   (he:aas (e::es) X.env=(false,eval e X.env)::aas es X.env:=by rfl) (RM:(backTo pos (aas es X.env)).any (·.1)=false:=by rfl):PE X (.Call (.Name x p) (e::es) [] pos) (EZ sp E t):=by
 obtain⟨f,fd,ps,F,hm,hk,hb⟩:=G.ex;exact Bk (p:=p) (pos:=pos) F hr hg hm hk hb (.cons (show RelV .ax _ from rfl) .nil) hx ha Sd he RM
variable {H:Hp}
theorem Jk {Z : L2.St}{Q:VK}(q:t Z H λvs H1=>sp (vs++[.ax]) H1 Q E):EZ sp E t Z H Q:=q
end
section
variable {P:Program} {w:World} {K:W.Frag} {mg:Str->Option Value} {base:Heap} {x qual:Str} {st:Stmt} {N ps:List Str} {sp:Sp}
theorem eJ.DN {f:Addr}{fd:abc}{k:Nat}(F:eJ K x qual st f fd)(S:ar N ps (ai st))(len:∀ vs H Q E,sp vs H Q E->vs.length=ps.length)(RO:sP P w K mg base k qual st N sp):cW P w K mg base (cS P w) (k+1) f fd ps sp:=by
 obtain⟨oc,od,da,kV,RP,pm,an,RK,ct,Si,o,n,rfl,lk,Sn,_,_⟩:=F.ex;exact xU lk Sn S len λA outer s H vs Q E hr T6=>RO f RK A outer s H vs Q E hr T6
theorem Bw (k:Nat)(h:∃ f fd,eJ K x qual st f fd/\mg x=some (.ref f)/\Binds K fd ps []/\Binds K fd ps [.none])(S:ar N ps (ai st))(len:∀ vs H Q E,sp vs H Q E->vs.length=ps.length)
   (RO:sP P w K mg base k qual st N sp):iI P w K mg base (cS P w) (k+1) x sp/\FJ P w K mg base (cS P w) (k+1) x sp:=by
 obtain⟨f,fd,F,hm,hb,hb2⟩:=h;exact⟨⟨f,fd,ps,eJ.DN F S len RO,hm,F.kp,hb⟩,⟨f,fd,ps,eJ.DN F S len RO,hm,F.kp,hb2⟩⟩
end
def E4:List V->Hp->VK->Prop:=λxs H Q=>∃ (a:Addr) (kvs:List (Key×V)) (ks:List Int),xs=[.ref a]/\Rd H a (.dK kvs)/\kvs.map (·.1)=ks.map Sum.inl/\∀ p,H p=none->Q (.ref p) (upd H p (.lst (ks.map V.int)))
variable {X:Cx}
theorem CP (hc:X.calm=true):bZ X (.type "list") E4:=by
 intro dv s Z H xs us Q I r h;obtain⟨a,kvs,ks,rfl,e,hk,q⟩:=h;obtain⟨u,rfl,rx⟩:=vals1 r;cases rx
 have hh:X.A.handled=none:=I.ok.hd hc;obtain⟨z,hd,vs,RV,dd⟩:=gu I.au e;obtain⟨ep,RW⟩:=dd.dictAt;have Vm:kvs.length=ks.length:=by rw[<- aaa (f:=(·.1)) (as:=kvs),hk,aaa]
 have WH:vs.length=ks.length:=by rw[<- RV.length,Vm]
 refine W.kdl_call (W.kdl_dict (knd:=bc X.prog X.w) (kvs:=vs) (ep:=ep) hd) hh RW (by rw[WH,<- Vm];exact z) λh' tk Ts c' hk' hS Tf=>?_;have hl:Ts.toList.length=ks.length:=by rw[ab2,<- WH];exact Tf.1
 have hI:IntsAre Ts.toList ks:=vT hl λj v hv=>by
   obtain⟨k,x,e1,e2⟩:=Tf.2 j v (by rw[<- ac9];exact hv);have e3:(kvs.map (·.1))[j]? = some k:=by
     have e4:∀ {kvs:List (Key×V)} {vs:List (Key×Value)},KV kvs vs->kvs.map (·.1)=vs.map (·.1):=λr=>by
       unfold KV at r
       induction r with
       | nil=>rfl
       | cons r1 r2 ih=>rw[aaQ,aaQ,r1.1,ih]
     rw[e4 RV,aae,e1];rfl
   rw[hk,aae] at e3;obtain⟨n,e5,e6⟩:=Option.map_eq_some_iff.mp e3;rcases bS e2 with ⟨i,t,e7,e8⟩ | ⟨x,t,e7,e8⟩
   . rw[e7] at e6;cases e6
     exact⟨_,t,e5,e8⟩
   . rw[e7] at e6;cases e6
 have hn:H s.heap.objs.size=none:=I.au.fresh (aai _);exact⟨.ref s.heap.objs.size,_,I.laid (t':=tk) (o:=.lst (ks.map V.int)) hk' (aai _) ⟨by rw[aaa,<- Vm];exact z,Ts.toList,c',nK hI,hS⟩,rfl,q _ hn⟩
variable {H:Hp}
theorem JH {a:Addr}{kvs:List (Key×V)}{ks:List Int}{Q:VK}(h:H a=some (.dK kvs))(hk:kvs.map (·.1)=ks.map Sum.inl)(q:∀ p,H p=none->Q (.ref p) (upd H p (.lst (ks.map V.int)))):E4 [.ref a] H Q:=⟨a,kvs,ks,rfl,.inl h,hk,q⟩
section
variable {prog:Program} {w:World} {A:Around} {E:Value->Shared->Prop} {s:Shared}
theorem Nj {it t:Addr}{i:Nat}{its:Array Value}{Q:Value->Shared->Prop}(hi:s.heap.IsListIter it t i)(ht:s.heap.IsList t its)
   (q1:∀ x,its[i]? = some x->∀ h',h'.IsListIter it t (i+1)->ab6 it s.heap h'->Q x { s with heap:=h' })
   (q2:its[i]? = none->A.handled=none/\∀ h' e,Heap.ExtBut it s.heap h'->(∃ o,h'.get? e=some o/\o.cls=.type "StopIteration")->E (.ref e) { s with heap:=h' }) :
   wpAny (model prog w) A (abo (.ref it)) Q E s:=by
 cases hx:its[i]? with
 | some x=>exact wpAny_nextOf_list_item hi ht hx λh' k1 k2=>q1 x hx h' k1 k2
 | none =>
   obtain⟨hh,q⟩:=q2 hx;exact wpAny_nextOf_list_end hh hi ht hx λh' e k1 k2=>q h' e k1 k2
end
def CH (K:W.Frag)(l1 l2 l3 l4 l5:Addr):It :=
 ⟨λi H=>∃ X1 X2 X3 X4 X5 x1 x2 x3 x4 x5,av K H l1 X1/\av K H l2 X2/\av K H l3 X3/\av K H l4 X4/\av K H l5 X5/\X1[i]? = some x1/\X2[i]? = some x2/\X3[i]? = some x3/\X4[i]? = some x4/\X5[i]? = some x5,
  λi H v H'=>∃ T x1 x2 x3 x4 x5,v=.ref T/\H T=none/\H'=upd H T (.tup [x1,x2,x3,x4,x5])/\∀ X1 X2 X3 X4 X5,av K H l1 X1->av K H l2 X2->av K H l3 X3->av K H l4 X4->av K H l5 X5->X1[i]? = some x1/\X2[i]? = some x2/\X3[i]? = some x3/\X4[i]? = some x4/\X5[i]? = some x5,
  λi H=>∃ X1 X2 X3 X4 X5,av K H l1 X1/\av K H l2 X2/\av K H l3 X3/\av K H l4 X4/\av K H l5 X5/\(X1.length<=i∨X2.length<=i∨X3.length<=i∨X4.length<=i∨X5.length<=i)⟩
def Ii (K:W.Frag)(ta:TA):TI:=λZ H R=>ta Z H λvs H1=>∃ l1 l2 l3 l4 l5 X1 X2 X3 X4 X5,vs=[.ref l1,.ref l2,.ref l3,.ref l4,.ref l5]/\av K H1 l1 X1/\av K H1 l2 X2/\av K H1 l3 X3/\av K H1 l4 X4/\av K H1 l5 X5/\R (CH K l1 l2 l3 l4 l5) H1
variable {ta:TA}
theorem LX {K:W.Frag}{Z : St}{R:It->Hp->Prop}(q:ta Z H λvs H1=>∃ l1 l2 l3 l4 l5 X1 X2 X3 X4 X5,vs=[.ref l1,.ref l2,.ref l3,.ref l4,.ref l5]/\av K H1 l1 X1/\av K H1 l2 X2/\av K H1 l3 X3/\av K H1 l4 X4/\av K H1 l5 X5/\R (CH K l1 l2 l3 l4 l5) H1):Ii K ta Z H R:=q
theorem G7 {K:W.Frag}{l1 l2 l3 l4 l5:Addr}{X1 X2 X3 X4 X5:List V}{g:TG}{tb:TS}{D:Ends}{Z : St}(hy2:X2.length=X1.length)(hy3:X3.length=X1.length)(hy4:X4.length=X1.length)(hy5:X5.length=X1.length)(Pv:Nat->St->Hp->Prop)(h0:Pv 0 Z H)(hl:∀ i Z H,i<=X1.length->Pv i Z H->av K H l1 X1/\av K H l2 X2/\av K H l3 X3/\av K H l4 X4/\av K H l5 X5)
   (hs:∀ i x1 x2 x3 x4 x5 T Z H,X1[i]? = some x1->X2[i]? = some x2->X3[i]? = some x3->X4[i]? = some x4->X5[i]? = some x5->Pv i Z H->H T=none->g (.ref T) Z (upd H T (.tup [x1,x2,x3,x4,x5])) λZ2 H2=>tb { D with nx:=Pv (i+1),ct:=Pv (i+1),bk:=D.nx } Z2 H2) (hd:∀ Z H,Pv X1.length Z H->D.nx Z H):rK (CH K l1 l2 l3 l4 l5) g tb D Z H:=by
 refine⟨λi m Z H=>m=X1.length - i/\i<=X1.length/\Pv i Z H,⟨X1.length,by simp,aaW _,h0⟩,?_⟩;rintro i m Z H ⟨rfl,hi,p⟩;obtain⟨q1,q2,q3,q4,q5⟩:=hl i Z H hi p;by_cases RJ:i<X1.length
 . refine .inr ⟨⟨X1, X2, X3, X4, X5, X1[i], X2[i], X3[i], X4[i], X5[i], q1, q2, q3, q4, q5, by simp[RJ], by simp[hy2, RJ], by simp[hy3, RJ], by simp[hy4, RJ], by simp[hy5, RJ]⟩, Pv (i + 1), λZ' H' p' => ⟨X1.length - (i + 1), by omega, rfl, RJ, p'⟩, λx H' y => ?_⟩;obtain⟨T,x1,x2,x3,x4,x5,rfl,hT,rfl,Ui⟩:=y;obtain⟨r1,r2,r3,r4,r5⟩:=Ui _ _ _ _ _ q1 q2 q3 q4 q5;exact hs i x1 x2 x3 x4 x5 T Z H r1 r2 r3 r4 r5 p hT
 . have e : i = X1.length := by omega
   subst e;exact .inl ⟨⟨X1,X2,X3,X4,X5,q1,q2,q3,q4,q5,.inl (aai _)⟩,hd Z H p⟩
variable {l:List Str} {x:Str}
theorem QS (_:(x::l).Nodup)(e:X.N=x::l):X.N[0]? = some x:=by rw[e];rfl
theorem Rk {a:Str}(_:(a::x::l).Nodup)(e:X.N=a::x::l):X.N[1]? = some x:=by rw[e];rfl
theorem QU {a b:Str}(_:(a::b::x::l).Nodup)(e:X.N=a::b::x::l):X.N[2]? = some x:=by rw[e];rfl
variable {c:Str}
theorem RD {a b:Str}(_:(a::b::c::x::l).Nodup)(e:X.N=a::b::c::x::l):X.N[3]? = some x:=by rw[e];rfl
variable {d:Str}
theorem Rc {a b:Str}(_:(a::b::c::d::x::l).Nodup)(e:X.N=a::b::c::d::x::l):X.N[4]? = some x:=by rw[e];rfl
variable {e:Str}
theorem QZ {a b:Str}(_:(a::b::c::d::e::x::l).Nodup)(e:X.N=a::b::c::d::e::x::l):X.N[5]? = some x:=by rw[e];rfl
variable {f:Str}
theorem QO {a b:Str}(_:(a::b::c::d::e::f::x::l).Nodup)(e:X.N=a::b::c::d::e::f::x::l):X.N[6]? = some x:=by rw[e];rfl
theorem Q9 {a b g:Str}(_:(a::b::c::d::e::f::g::x::l).Nodup)(e:X.N=a::b::c::d::e::f::g::x::l):X.N[7]? = some x:=by rw[e];rfl
theorem Rg {a b g h:Str}(_:(a::b::c::d::e::f::g::h::x::l).Nodup)(e:X.N=a::b::c::d::e::f::g::h::x::l):X.N[8]? = some x:=by rw[e];rfl
theorem Rm {a b g h i:Str}(_:(a::b::c::d::e::f::g::h::i::x::l).Nodup)(e:X.N=a::b::c::d::e::f::g::h::i::x::l):X.N[9]? = some x:=by rw[e];rfl
theorem PU {a b g h i j:Str}(_:(a::b::c::d::e::f::g::h::i::j::x::l).Nodup)(e:X.N=a::b::c::d::e::f::g::h::i::j::x::l):X.N[10]? = some x:=by rw[e];rfl
section
variable {X:Cx} {P:Program} {w:World} {K:W.Frag} {mg:Str->Option Value} {base:Heap} {CX:dB} {k:Nat} {E:XK} {m x:Str} {p pos RL:Pos} {e o iter tg c:Expr} {es:List Expr} {ta te tl:TE} {t:TA} {sp:Sp} {C:Addr} {id:String} {v:V} {u:Value} {r:List V->Hp->VK->Prop} {g:TG} {tb:TS} {wi:TI} {tc:TT} {body:List Stmt}
theorem OY (hP:X.prog=P/\X.w=w/\X.K=K/\X.mg=mg/\X.base=base)(G:iI P w K mg base eA k x sp)(hr:bG k X.A)(hg:Gl X x)(ha:PA X (e::es) t)(Sd:(x == ("__debug__" : Str))=false)
   (he:aas (e::es) X.env=(false,eval e X.env)::aas es X.env) (RM:(backTo pos (aas es X.env)).any (·.1)=false):PE X (.Call (.Name x p) (e::es) [] pos) (zF sp E0 t):=by
 obtain⟨rfl,rfl,rfl,rfl,rfl⟩:=hP;exact aQ G hr aX hg ha Sd he RM
theorem KJ (hP:X.prog=P/\X.w=w/\X.K=K/\X.mg=mg/\X.base=base)(G:EO P w K mg base eA k x C sp)(hr:bG (k+1) X.A)(hg:Gl X x)(ha:PA X (e::es) t)(Sd:(x == ("__debug__" : Str))=false)
   (he:aas (e::es) X.env=(false,eval e X.env)::aas es X.env) (RM:(backTo pos (aas es X.env)).any (·.1)=false):PE X (.Call (.Name x p) (e::es) [] pos) (yr C sp E0 t):=by
 obtain⟨rfl,rfl,rfl,rfl,rfl⟩:=hP;exact dA G hr aX hg ha Sd he RM
theorem KO (hM:X.mg=mg)(hm:mg x=none)(hv:aaY x=some (.builtin id))(hc:bZ X (.builtin id) r)(hg:Gl X x)(ha:PA X (e::es) t)(Sd:(x == ("__debug__" : Str))=false)(hn:x ≠ "__name__")
   (he:aas (e::es) X.env=(false,eval e X.env)::aas es X.env) (RM:(backTo pos (aas es X.env)).any (·.1)=false):PE X (.Call (.Name x p) (e::es) [] pos) (Iy r t):=by
 subst hM;exact aG hc hg hm hv ha hn Sd he RM
theorem Mx (hM:X.mg=mg)(hm:mg x=none)(hv:aaY x=some (.type id))(hc:bZ X (.type id) r)(hg:Gl X x)(ha:PA X (e::es) t)(Sd:(x == ("__debug__" : Str))=false)(hn:x ≠ "__name__")
   (he:aas (e::es) X.env=(false,eval e X.env)::aas es X.env) (RM:(backTo pos (aas es X.env)).any (·.1)=false):PE X (.Call (.Name x p) (e::es) [] pos) (Iy r t):=by
 subst hM;exact ip hc hg hm hv ha hn Sd he RM
theorem MQ {A:Addr}(hM:X.mg=mg)(hm:mg x=some (.ref A))(hg:Gl X x)(hd:(x == ("__debug__" : Str))=false):PE X (.Name x pos) (tC (.ref A)):=by
 subst hM;exact bI hg hm rfl hd
theorem Ld {i:Int}(hM:X.mg=mg)(hm:∃ t,mg x=some (.int i t))(hg:Gl X x)(hd:(x == ("__debug__" : Str))=false):PE X (.Name x pos) (tC (.int i)):=by
 subst hM;exact bI hg hm.choose_spec ⟨_,rfl⟩ hd
theorem Nn {a:Expr}(hM:X.mg=mg)(hm:mg "range" = none)(hg:Gl X "range")(ha:PA X [a] t)(hs:aas [a] X.env=[(false,eval a X.env)]):PI X tg (.Call (.Name "range" p) [a] [] pos) (C1 t):=by
 subst hM;exact oo hg hm ha hs
theorem Nm {a b:Expr}{RS:List Expr}{tA U0:TT}(ha:PT X a tA)(hb:PW X (.BoolOp .And (b::RS) pos) U0):PT X (.BoolOp .And (a::b::RS) pos) (L6 tA U0):=(yo ha hb).pt
theorem Oq {a b:Expr}{RS:List Expr}{tA U0:TT}(ha:PT X a tA)(hb:PW X (.BoolOp .Or (b::RS) pos) U0):PT X (.BoolOp .Or (a::b::RS) pos) (Np tA U0):=(fY ha hb).pt
def oE:List Str->List V->St
 | [],_=>[]
 | _::r,[]=>none::oE r []
 | _::r,v::vs=>some v::oE r vs
variable {D:Ends}
theorem NQ {t:TS}{N:List Str}{vs:List V}{Z':St}(h1:L2.start N vs=oE N vs)(h2:oE N vs = Z')(q:t D Z' H):t D (L2.start N vs) H:=by rw[h1,h2];exact q
def Pd (_:Str)(_:Nat):Prop:=True
theorem oj (m:Str)(k:Nat):Pd m k:=trivial
theorem Lq {pl:Sem Bool}(hk:Pd m k)(hP:X.prog=P/\X.w=w/\X.K=K/\X.mg=mg/\X.base=base)(he:PE X o ta)(hr:bG k X.A)(ha:PA X (e::es) t)
   (RU:aas (e::es) X.env=(false,eval e X.env)::aas es X.env) (RM:(backTo pos (aas es X.env)).any (·.1)=false)
   (ht : eval (.Call (.Attribute o m RL) (e :: es) [] pos) X.env = (do
     let ov <- eval o X.env
     standAt RL.atName
     let (f,first) <- holding [ov] (adu ov m pl)
     callWith pos f first (backTo pos (aas (e::es) X.env)) (acZ pos (abX [] X.env)))) :
   PE X (.Call (.Attribute o m RL) (e::es) [] pos) (kE P w K mg base eA k m E0 ta t):=fK hP he hr aX ha RU RM ht
theorem Jl {RL gV:Pos}(h:X.K=K)(ho:PE X o ta)(ha:PA X (e::es) t)
   (R5:abr o "append" X.env (eval o X.env)=eval o X.env)
   (UN:((backTo gV (aas (e::es) X.env)).all (λx=>!x.1) && (acZ gV (abX [] X.env)).all (λx=>x.1.isSome)
     && decide ((e::es).length+([]:List Keyword).length+(if ([]:List Keyword).isEmpty then 0 else 1)<30))=true)
   (R4:(RL.endLine == gV.line)=true) (hs:aas (e::es) X.env=(false,eval e X.env)::aas es X.env) (Sv:(backTo gV (aas es X.env)).any (·.1)=false) :
   PE X (.Call (.Attribute o "append" RL) (e::es) [] gV) (KN K "list" vG ta t):=ei h aaM PySem.F.slot_list_append PySem.F.type_list_append wX ho ha R5 UN R4 hs Sv
end
abbrev Src:=Bool×Addr×Addr
def dE (h:Heap)(p:Src)(k:Nat):Prop:=match p with | (true,t,i)=>h.IsListIter i t k | (false,t,i)=>h.IsTupleIter i t k
def gX (h:Heap)(p:Src)(X:Array Value):Prop:=match p with | (true,t,_)=>h.IsList t X | (false,t,_)=>h.IsTuple t X
abbrev dR (xs:Array Value):Obj:={ cls:=.type "tuple",data:=.seq xs }
structure Lh (z TI TO:Addr)(S:List Src):Prop where
 TIz:TI≠z
 TOz:TO≠z
 TITO:TI≠TO
 el:∀ p∈S,p.2.2≠z/\p.2.2≠TO/\TI≠p.2.2/\p.2.1≠z/\p.2.1≠TO/\∀ q∈S,p.2.1≠q.2.2
 nd:(S.map (·.2.2)).Nodup
theorem dE.to {h h':Heap}{p:Src}{k:Nat}(q:dE h p k)(e:∀ o,h.get? p.2.2=some o->h'.get? p.2.2=some o):dE h' p k:=by
 obtain⟨b,t,i⟩:=p;cases b
 . exact Heap.IsTupleIter.at q e
 . exact Heap.IsListIter.at q e
theorem gX.to {h h':Heap}{p:Src}{X:Array Value}(q:gX h p X)(e:∀ o,h.get? p.2.1=some o->h'.get? p.2.1=some o):gX h' p X:=by
 obtain⟨b,t,i⟩:=p;cases b
 . exact Heap.IsTuple.at q e
 . exact Heap.IsList.at q e
variable {β : Type}
theorem zZ {M:Model}{A:Around}{E:Value->Shared->Prop}{f:Value×Nat->β->Sem (ForInStep β)}{b0 : β}{Q : β->Shared->Prop}(I:Nat->Shared->Prop):∀ (l:List Value) (j:Nat) (s:Shared),I j s ->
   (∀ i v s,l[i]? = some v->I (j+i) s->wpAny M A (f (v,j+i) b0) (λr s'=>r=.yield b0/\I (j+i+1) s') E s)->(∀ s,I (j+l.length) s->Q b0 s)->wpAny M A (forIn (l.zipIdx j) b0 f) Q E s
 | [],j,s,h,_,q=>by simp only[List.zipIdx_nil,List.forIn_nil];exact aat (q s h)
 | v :: l, j, s, h, st, q => by
   simp only[List.zipIdx_cons,List.forIn_cons];refine aaf (aaV (st 0 v s rfl h) (λr s' e=>?_) (λ_ _ x=>x));obtain⟨rfl,h'⟩:=e;refine zZ I l (j+1) s' h' (λi v s e hi=>?_) λs h=>q s (by rw[aaq,Nat.add_comm l.length,<- Nat.add_assoc];exact h);have e1:j+1+i=j+(i+1):=by omega
   rw[e1] at hi ⊢;exact st (i+1) v s e hi
section
variable {prog:Program} {w:World} {A:Around} {E:Value->Shared->Prop} {s:Shared}
theorem O3 {p:Src}{i:Nat}{its:Array Value}{Q:Value->Shared->Prop}(hi:dE s.heap p i)(ht:gX s.heap p its)
   (q1:∀ x,its[i]? = some x->∀ h',dE h' p (i+1)->ab6 p.2.2 s.heap h'->Q x { s with heap:=h' })
   (q2:its[i]? = none->A.handled=none/\∀ h' e,Heap.ExtBut p.2.2 s.heap h'->(∃ o,h'.get? e=some o/\o.cls=.type "StopIteration")->E (.ref e) { s with heap:=h' }) :
   wpAny (model prog w) A (abo (.ref p.2.2)) Q E s:=by
 obtain⟨b,t,it⟩:=p;cases b
 . exact KP hi ht q1 q2
 . exact Nj hi ht q1 q2
theorem Gc {T:Addr}{xs:Array Value}{x:Value}{k:Nat}{Q:Unit->Shared->Prop}(hT:s.heap.get? T=some (dR xs))(hs:xs.size<=aar)
   (h:∀ h',h'.get? T=some (dR (xs.setIfInBounds k x))->ab6 T s.heap h'->Q () { s with heap:=h' }) :
   wpAny (model prog w) A (updateSeq T (·.setIfInBounds k x)) Q E s:=by
 refine wpAny_updateSeq hT rfl (h _ ?_ (ac1 ..)) hs (by simp only[Array.size_setIfInBounds];omega);rw[ade _ hT rfl];simp[adl]
set_option maxHeartbeats 4000000 in
theorem PZ {z TI TO:Addr}{S:List Src}{Xs:List (Array Value)}{as:Array Value}{k:Nat}{Q:Fin->Shared->Prop}(D:Lh z TI TO S)(hz:IsZip s.heap z TI TO .none)(hTI:s.heap.get? TI=some (dR (S.map λp=>aaK p.2.2).toArray))(hTO:s.heap.get? TO=some (dR as))(hl:as.size=S.length)(hS:S≠[])(hX:Xs.length=S.length)(hs:S.length<=aar)
   (h:∀ (i:Nat) p X,S[i]? = some p->Xs[i]? = some X->dE s.heap p k/\gX s.heap p X)
   (q1:∀ xs:List Value,xs.length=S.length->(∀ (i:Nat) X x,Xs[i]? = some X->xs[i]? = some x->X[k]? = some x)->∀ h',IsZip h' z TI TO (rawInt s.heap.objs.size)->h'.get? TO=some (dR xs.toArray)->(∀ (i:Nat) p,S[i]? = some p->dE h' p (k+1))->h'.get? s.heap.objs.size=some (dR xs.toArray) ->
     (∀ c o,c≠z->c≠TO->(∀ p∈S,c≠p.2.2)->s.heap.get? c=some o->h'.get? c=some o)->Q (.done (.ret (.ref s.heap.objs.size))) { s with heap:=h' })
   (q2:∀ (i:Nat) X,Xs[i]? = some X->X[k]? = none->A.handled=none/\∀ h' e,(∀ c o,c≠z->c≠TO->(∀ p∈S,c≠p.2.2)->s.heap.get? c=some o->h'.get? c=some o)->(∃ o,h'.get? e=some o/\o.cls=.type "StopIteration")->E (.ref e) { s with heap:=h' }) :
   wpAny (model prog w) A (Builtin.«zip.__next__» ⟨[.ref z],[]⟩) Q E s:=by
 show wpAny _ _ (field (.ref z) 2 >>= _) _ _ _;refine aaf (acd hz rfl (x:=.bool false) rfl ?_);show wpAny _ _ (field (.ref z) 3 >>= _) _ _ _;refine aaf (acd hz rfl (x:=.ref TI) rfl (aaf (wpAny_seqItems hTI rfl ?_)));have ne:(S.map λp=>aaK p.2.2).toArray.isEmpty=false:=by
   cases S
   . exact absurd rfl hS
   . rfl
 simp only[ne];show wpAny _ _ (Builtin.SmallTypes.ownedTupleIsFree (.ref z) >>= _) _ _ _;refine aaf ?_;unfold Builtin.SmallTypes.ownedTupleIsFree;refine aaf (acd hz rfl (x:=.none) rfl (aat ?_));simp only[if_true];refine aaf (wpAny_rule (aaf (acd hz rfl (x:=.ref TO) rfl ?_)));refine aaf (ac0 hz (by simp) λg1 hz1 s1=>?_);replace hz1:IsZip g1 z TI TO .ellipsis:=hz1;refine aaf ?_
 refine zZ (λj s'=>∃ (xs:List Value) (g:Heap),s'={ s with heap:=g }/\xs.length=j/\(∀ (i:Nat) X x,Xs[i]? = some X->xs[i]? = some x->X[k]? = some x)/\IsZip g z TI TO .ellipsis/\g.get? TO=some (dR (xs++as.toList.drop j).toArray)/\(∀ (i:Nat) p,S[i]? = some p->i<j->dE g p (k+1))/\g.objs.size=s.heap.objs.size/\∀ c o,c≠z->c≠TO->(∀ (i:Nat) p,S[i]? = some p->i<j->c≠p.2.2)->s.heap.get? c=some o->g.get? c=some o) _ 0 _
   ⟨[],g1,rfl,rfl,λi X x _ e=>by simp at e,hz1,s1.extBut _ _ D.TOz hTO,λi p _ e=>absurd e (adj _),s1.1,λc o c1 _ _ e=>s1.extBut _ _ c1 e⟩ (λi v s' hv hI=>?_) λs' hI=>?_
 . rw[abT] at hI ⊢;obtain⟨xs,g,rfl,Uw,Wz,hzg,hO,SA,hsz,hk⟩:=hI;obtain⟨p,hp,rfl⟩:∃ p,S[i]? = some p/\v=aaK p.2.2:=by
     have:=hv
     simp only[ads,aae,abH] at this;obtain⟨p,e,e2⟩:=this;exact⟨p,e,e2.symm⟩
   have hi:i<S.length:=(List.getElem?_eq_some_iff.mp hp).1;obtain⟨X,hX'⟩:∃ X,Xs[i]? = some X:=⟨Xs[i],aac (by omega)⟩
   have hm:p∈S:=aad hp;obtain⟨a1,a2,a3,a4,a5,a6⟩:=D.el p hm;obtain⟨h1,h2⟩:=h i p X hp hX';have inj:∀ (j:Nat) q,S[j]? = some q->j<i->p.2.2≠q.2.2:=λj q hq hj e=>by
     have e1:(S.map (·.2.2))[i]? = some p.2.2:=by rw[aae,hp];rfl
     have e2:(S.map (·.2.2))[j]? = some p.2.2:=by rw[aae,hq,e];rfl
     have:=(List.getElem?_inj (by rw[aaa];omega) D.nd).mp (e2.trans e1.symm)
     omega
   refine aaf (wpAny_onRaise ?_);show wpAny _ _ (abo (.ref p.2.2) >>= _) _ _ _;refine aaf (O3 (p:=p) (h1.to λo e=>hk _ o a1 a2 inj e) (h2.to λo e=>hk _ o a4 a5 (λj q hq _=>a6 q (aad hq)) e) (λx hx g2 h12 s2=>aat ?_) λhx=>?_)
   . have hO2 := s2.extBut _ _ a2.symm hO;refine aaf (wpAny_seqItems hO2 rfl (aaf (Gc hO2 (by simp [Uw];omega) λg3 hO3 s3=>?_)));refine aaf (wpAny_letGo (aat ⟨rfl,xs++[x],g3,rfl,by simp [Uw],λj Y y hY hy=>?_,s3.extBut _ _ D.TOz.symm (s2.extBut _ _ a1.symm hzg),?_,λj q hq hj=>?_,by rw [s3.1,s2.1];exact hsz,λc o c1 c2 c3 e=>s3.extBut _ _ c2 (s2.extBut _ _ (c3 i p hp (abK _)) (hk c o c1 c2 (λj q hq hj=>c3 j q hq (acp hj)) e))⟩))
     . by_cases hj:j<i
       . exact Wz j Y y hY (by rw[aak (by omega)] at hy;exact hy)
       . rw [aag (by omega)] at hy
         have:j=i:=by
           have:=(List.getElem?_eq_some_iff.mp hy).1
           simp at this;omega
         subst this;simp[Uw] at hy;rw[hX'] at hY;cases hY
         cases hy
         exact hx
     . rw[hO3]
       congr 2
       apply Array.toList_inj.mp;have hd:as.toList.drop i=as.toList[i]'(by simp;omega)::as.toList.drop (i+1):=List.drop_eq_getElem_cons (by simp;omega);simp only[Array.toList_setIfInBounds,ads];rw[hd,List.set_append_right _ _ (by omega),Uw,acQ,aca,aaD];rfl
     . by_cases e:j=i
       . subst e;rw[hp] at hq;cases hq
         exact h12.to λo e=>s3.extBut _ _ a2 e
       . obtain⟨_, b2, _⟩ := D.el q (aad hq);exact(SA j q hq (by omega)).to λo e'=>s3.extBut _ _ b2 (s2.extBut _ _ (inj j q hq (by omega)).symm e')
   . obtain ⟨hh, q2⟩ := q2 i X hX' hx;refine ⟨hh,λg4 e s4 he=>?_⟩;obtain ⟨oe,SH,hce⟩:=he;have Wy:IsZip g4 z TI TO .ellipsis:=s4 _ _ a1.symm hzg;have hez:e≠z:=λv=>by subst v;rw [Wy] at SH;cases SH;simp at hce
     exact ac0 Wy (by simp) λg5 _ s5=>q2 g5 e (λc o c1 c2 c3 v=>s5.extBut _ _ c1 (s4 _ _ (c3 p hm) (hk c o c1 c2 (λj q hq _=>c3 q (aad hq)) v))) ⟨oe,s5.extBut _ _ hez SH,hce⟩
 . obtain ⟨xs, g5, rfl, Uw, Wz, hz5, hO5, SA, z5, k5⟩ := hI;have Uw:xs.length=S.length:=by rw [Uw];simp
   have hO5:g5.get? TO=some (dR xs.toArray):=by rw[hO5];simp[hl]
   refine aaf (wpAny_seqItems hO5 rfl (aaf (wpAny_newTuple ?_ (by show xs.length<=aar;omega))));have zlt:z<g5.objs.size:=aav hz5;show wpAny _ _ (Builtin.SmallTypes.ownedTupleHandOut (.ref z) (.ref g5.objs.size) >>= _) _ _ _;refine aaf ?_;unfold Builtin.SmallTypes.ownedTupleHandOut;have hz6:IsZip (g5.push (dR xs.toArray)) z TI TO .ellipsis:=aaj _ hz5;refine aaf (ac0 hz6 (by simp) λg7 hz7 s7=>?_);replace hz7:IsZip g7 z TI TO (rawInt g5.objs.size):=hz7;refine ac0 hz7 (by simp) λg8 hz8 s8=>?_;replace hz8:IsZip g8 z TI TO (rawInt g5.objs.size):=hz8;have up:∀ c o,c≠z->g5.get? c=some o->g8.get? c=some o:=λc o c1 e=>s8.extBut _ _ c1 (s7.extBut _ _ c1 (aaj _ e));have hT8:g8.get? g5.objs.size=some (dR xs.toArray):=s8.extBut _ _ (abU zlt) (s7.extBut _ _ (abU zlt) (aay _ rfl));rw[z5] at hz8 hT8;refine aat ?_;show Q (.done (.ret (.ref g5.objs.size))) _;rw[z5];refine q1 xs Uw Wz g8 hz8 (up _ _ D.TOz hO5) (λi p hp=>(SA i p hp ?_).to λo e=>up _ o (D.el p (aad hp)).1 e) hT8 λc o c1 c2 c3 e=>up c o c1 (k5 c o c1 c2 (λj q hq _=>c3 q (aad hq)) e)
   have:=(List.getElem?_eq_some_iff.mp hp).1
   simpa using this
variable {α : Type}
theorem yS {M:Model}{A:Around}{E:Value->Shared->Prop}{f : α->β->Sem (ForInStep β)}{Q : β->Shared->Prop}(I:Nat->β->Shared->Prop):∀ (l:List α) (j:Nat) (b : β) (s:Shared),I j b s ->
   (∀ (i:Nat) v b s,l[i]? = some v->I (j+i) b s->wpAny M A (f v b) (λr s'=>∃ b',r=.yield b'/\I (j+i+1) b' s') E s)->(∀ b s,I (j+l.length) b s->Q b s)->wpAny M A (forIn l b f) Q E s
 | [],j,b,s,h,_,q=>by simp only[List.forIn_nil];exact aat (q b s h)
 | v :: l, j, b, s, h, st, q => by
   simp only[List.forIn_cons];refine aaf (aaV (st 0 v b s rfl h) (λr s' e=>?_) (λ_ _ x=>x));obtain⟨b',rfl,h'⟩:=e;refine yS I l (j+1) b' s' h' (λi v b s e hi=>?_) λb s h=>q b s (by rw[aaq,Nat.add_comm l.length,<- Nat.add_assoc];exact h);have e1:j+1+i=j+(i+1):=by omega
   rw[e1] at hi ⊢;exact st (i+1) v b s e hi
def cQ (n:Nat)(ts:List (Bool×Addr)):List Src:=ts.zipIdx.map λp=>(p.1.1,p.1.2,n+p.2)
variable {ts:List (Bool×Addr)} {n:Nat}
theorem pA {i:Nat}{q:Src}:(cQ n ts)[i]? = some q ↔ ∃ p,ts[i]? = some p/\q=(p.1,p.2,n+i):=by
 simp only[cQ,aae,List.getElem?_zipIdx,Option.map_map,abH,abT];exact⟨λzq=>mX zq λp a b=>⟨p,a,b.symm⟩,λzq=>mX zq λp a b=>⟨p,a,b.symm⟩⟩
theorem gP:(cQ n ts).length=ts.length:=by simp[cQ]
theorem yW:(cQ n ts).map (·.2.2)=List.range' n ts.length:=by
 apply List.ext_getElem?;intro i;rw[aae];by_cases h:i<ts.length
 . rw[pA.mpr ⟨ts[i],aac h,rfl⟩,List.getElem?_range' h]
   simp
 . rw[abQ (by rw[gP]; omega), abQ (by rw[List.length_range']; omega)];rfl
theorem OR {Q:List Value->Shared->Prop}(h:∀ p∈ts,∃ X,gX s.heap (p.1,p.2,0) X)
   (q:∀ h',h'.objs.size=s.heap.objs.size+ts.length->(∀ c o,s.heap.get? c=some o->h'.get? c=some o)->(∀ (i:Nat) p,(cQ s.heap.objs.size ts)[i]? = some p->dE h' p 0)->Q ((cQ s.heap.objs.size ts).map λp=>.ref p.2.2) { s with heap:=h' }) :
   wpAny (model prog w) A (Builtin.SmallTypes.iterAll (ts.map λp=>.ref p.2)) Q E s:=by
 unfold Builtin.SmallTypes.iterAll
 refine aaf (yS (λj b s'=>∃ g,s'={ s with heap:=g }/\b.toList=(List.range' s.heap.objs.size j).map .ref/\g.objs.size=s.heap.objs.size+j/\(∀ c o,s.heap.get? c=some o->g.get? c=some o)/\∀ (i:Nat) p,(cQ s.heap.objs.size ts)[i]? = some p->i<j->dE g p 0) _ 0 _ _
   ⟨s.heap,rfl,rfl,rfl,λ_ _ e=>e,λi p _ e=>absurd e (adj _)⟩ (λi v b s' hv hI=>?_) λb s' hI=>?_)
 . rw[abT] at hI ⊢;obtain⟨g,rfl,hb,hz,hk,SA⟩:=hI;obtain⟨p,hp,rfl⟩:∃ p,ts[i]? = some p/\v=aaK p.2:=by
     rw[aae,abH] at hv;obtain⟨p,e,e2⟩:=hv;exact⟨p,e,e2.symm⟩
   obtain⟨X,hX⟩:=h p (aad hp);have hX':=hX.to λo e=>hk _ o e;have RN:∀ o,dE (g.push o) (p.1,p.2,g.objs.size) 0->∃ b',(acv (b.push (aaK g.objs.size)):ForInStep (Array Value))=.yield b'/\∃ g',({ s with heap:=g.push o }:Shared)={ s with heap:=g' }/\b'.toList=(List.range' s.heap.objs.size (i+1)).map .ref/\g'.objs.size=s.heap.objs.size+(i+1)/\(∀ c o,s.heap.get? c=some o->g'.get? c=some o)/\∀ (j:Nat) q,(cQ s.heap.objs.size ts)[j]? = some q->j<i+1->dE g' q 0:=λo ho=>by
     refine⟨_,rfl,_,rfl,?_,by rw[abJ,hz];omega,λc o e=>aaj _ (hk c o e),λj q hq hj=>?_⟩
     . rw[Array.toList_push,hb,List.range'_concat,aal,hz];simp
     . by_cases e:j=i
       . subst e;obtain⟨p',e1,rfl⟩:=pA.mp hq;rw[hp] at e1;cases e1
         rw[<- hz];exact ho
       . exact(SA j q hq (by omega)).to λo e=>aaj _ e
   obtain⟨bb,t⟩:=p;cases bb
   . exact aaf (abw (wpAny_pyIter_tuple hX' (aat (RN _ ⟨_,aay _ rfl,rfl,rfl⟩))))
   . exact aaf (abw (abt hX' (aat (RN _ ⟨_,aay _ rfl,rfl,rfl⟩))))
 . obtain⟨g, rfl, hb, hz, hk, SA⟩ := hI;simp only[abT,aaa] at hb hz SA;refine aat ?_;rw[hb,<- yW,abv];exact q g hz hk λi p hp=>SA i p hp (by have:=(List.getElem?_eq_some_iff.mp hp).1;rw[gP] at this;exact this)
abbrev Iw (h':Heap)(S:List Src):Heap:=h'.push (dR (S.map λp=>aaK p.2.2).toArray)
abbrev IV (h':Heap)(S:List Src):Heap:=(Iw h' S).push (dR ((S.map λp=>aaK p.2.2).map λ_=>acg).toArray)
abbrev FQ (h':Heap)(S:List Src):Heap:=(IV h' S).push { cls:=.type "zip",data:=.fields #[.none,.bool false,.bool false,.ref h'.objs.size,.ref (Iw h' S).objs.size] }
theorem Gd (ts:List (Bool×Addr)):Meets (Builtin.«zip.__new__» ⟨.type "zip" :: ts.map (λp=>.ref p.2),[]⟩) (λ_ R s=>(∀ p∈ts,∃ X,gX s.heap (p.1,p.2,0) X)/\ts.length<=aar /\
   ∀ h',h'.objs.size=s.heap.objs.size+ts.length->(∀ c o,s.heap.get? c=some o->h'.get? c=some o)->(∀ (i:Nat) p,(cQ s.heap.objs.size ts)[i]? = some p->dE h' p 0)->R (.ok (.ret (.ref (IV h' (cQ s.heap.objs.size ts)).objs.size))) { s with heap:=FQ h' (cQ s.heap.objs.size ts) }) :=
 .of_wp λprog w A R s h=>by
   obtain⟨hp,g,d,tk,os⟩:=s;obtain⟨h1,hs,h⟩:=h;have hsub:=sub_zip;have hs':(cQ (Shared.heap ⟨hp,g,d,tk,os⟩).objs.size ts).length<=aar:=by rw[gP];exact hs
   wp_walk using OR h1
   intro h' hz hk SA;refine aaf (wpAny_newTuple ?_ (by rw[aaa];exact hs'));refine aaf (wpAny_newTuple ?_ (by rw[aaa,aaa];exact hs'))
   wp_walk
   exact⟨_,rfl,h h' hz hk SA⟩
theorem GF {Q:Value->Shared->Prop}(h:∀ p∈ts,∃ X,gX s.heap (p.1,p.2,0) X)(hs:ts.length<=aar)(c1:checkTypeCall "zip" ⟨ts.map (λp=>.ref p.2),[]⟩=pure ())(c2:acI "zip.__new__" ⟨.type "zip" :: ts.map (λp=>.ref p.2),[]⟩=pure ())
   (c3:∀ obj,argsOk "object.__init__" ⟨obj::ts.map (λp=>.ref p.2),[]⟩)
   (q:∀ h' m,m=s.heap.objs.size+ts.length->IsZip h' (m+2) m (m+1) .none->h'.get? m=some (dR ((cQ s.heap.objs.size ts).map λp=>aaK p.2.2).toArray)->(∃ as:Array Value,as.size=ts.length/\h'.get? (m+1)=some (dR as))->(∀ (i:Nat) p,(cQ s.heap.objs.size ts)[i]? = some p->dE h' p 0) ->
     (∀ c o,s.heap.get? c=some o->h'.get? c=some o)->Q (.ref (m+2)) { s with heap:=h' }):wpAny (model prog w) A (call (.type "zip") (ts.map λp=>.ref p.2)) Q E s:=by
 refine callType_new F.called_zip (by decide) c1 c2 c3 F.entry_zip_new (Gd ts) ⟨h,hs,λh' hz hk SA=>?_⟩;have z1:(Iw h' (cQ s.heap.objs.size ts)).objs.size=h'.objs.size+1:=abJ ..;have z2:(IV h' (cQ s.heap.objs.size ts)).objs.size=h'.objs.size+2:=by rw[abJ,z1]
 have e3:(FQ h' (cQ s.heap.objs.size ts)).get? (IV h' (cQ s.heap.objs.size ts)).objs.size=some _:=aay _ rfl;have e2:(FQ h' (cQ s.heap.objs.size ts)).get? (Iw h' (cQ s.heap.objs.size ts)).objs.size=some _:=aaj _ (aay _ rfl);have up:∀ c o,h'.get? c=some o->(FQ h' (cQ s.heap.objs.size ts)).get? c=some o:=λc o e=>aaj _ (aaj _ (aaj _ e));have e1:(FQ h' (cQ s.heap.objs.size ts)).get? h'.objs.size=some _:=aaj _ (aaj _ (aay _ rfl));rw[z1,z2] at e3;rw[z1] at e2;show _/\_;rw[z2];exact⟨⟨_,e3,rfl⟩,q _ _ hz e3 e1 ⟨_,by simp[gP],e2⟩ (λi p hp=>(SA i p hp).to λo e=>up _ _ e) λc o x=>up c o (hk c o x)⟩
theorem yI {z TI TO:Addr}{S:List Src}{Xs:List (Array Value)}{as:Array Value}{k:Nat}{Q:Option Value->Shared->Prop}(D:Lh z TI TO S)(hz:IsZip s.heap z TI TO .none)(hTI:s.heap.get? TI=some (dR (S.map λp=>aaK p.2.2).toArray))(hTO:s.heap.get? TO=some (dR as))(hl:as.size=S.length)(hS:S≠[])(hX:Xs.length=S.length)(hs:S.length<=aar)
   (h:∀ (i:Nat) p X,S[i]? = some p->Xs[i]? = some X->dE s.heap p k/\gX s.heap p X)
   (q1:∀ xs:List Value,xs.length=S.length->(∀ (i:Nat) X x,Xs[i]? = some X->xs[i]? = some x->X[k]? = some x)->∀ h',IsZip h' z TI TO (rawInt s.heap.objs.size)->h'.get? TO=some (dR xs.toArray)->(∀ (i:Nat) p,S[i]? = some p->dE h' p (k+1))->h'.get? s.heap.objs.size=some (dR xs.toArray) ->
     (∀ c o,c≠z->c≠TO->(∀ p∈S,c≠p.2.2)->s.heap.get? c=some o->h'.get? c=some o)->Q (some (.ref s.heap.objs.size)) { s with heap:=h' })
   (q2:∀ (i:Nat) X,Xs[i]? = some X->X[k]? = none->A.handled=none/\∀ h',(∀ c o,c≠z->c≠TO->(∀ p∈S,c≠p.2.2)->s.heap.get? c=some o->h'.get? c=some o)->Q none { s with heap:=h' }) :
   wpAny (model prog w) A (pyNext (.ref z)) Q E s:=by
 have hT:s.TypeIs (.ref z) "zip":=⟨_,hz,rfl⟩;unfold pyNext;refine aaf (wpAny_attempt (acq (name:=abS "__next__") hT F.slot_zip_next (acH F.slot_zip_next hT F.entry_zip_next ?_ (F.args_zip_next_1 _))));refine PZ D hz hTI hTO hl hS hX hs h (λxs y1 y2 h' a1 a2 a3 a4 a5=>⟨_,rfl,aat (q1 xs y1 y2 h' a1 a2 a3 a4 a5)⟩) λi X e1 he=>⟨(q2 i X e1 he).1,λh' e kk ho=>?_⟩;obtain⟨o,ho,hc⟩:=ho;exact aaf (wpAny_isInstance (T:="StopIteration") (b:=true) ⟨o,ho,hc⟩ isSubtype_stop (aat ((q2 i X e1 he).2 _ kk)))
end
def t_ (K:W.Frag)(H:Hp)(p:Bool×Addr)(xs:List V):Prop:=match p with | (true,a)=>av K H a xs | (false,a)=>az K H a xs
variable {n:Nat} {xs:List V}
theorem tG {dv:List (Addr×Obj)}{Z : St}{s:Shared}{p:Bool×Addr}(I:Inv X dv Z H s)(h:t_ X.K H p xs):∃ its,aE xs its/\gX s.heap (p.1,p.2,n) its.toArray/\p.2<s.heap.objs.size:=by
 obtain⟨b,a⟩:=p;cases b
 . obtain⟨its, rv, p1, _⟩ := I.tuple h;exact⟨its,rv,p1,p1.lt⟩
 . obtain⟨its, rv, p1, _⟩ := I.list h;exact⟨its,rv,p1.isList,p1.lt⟩
theorem Bx {dv:List (Addr×Obj)}{Z : St}{s:Shared}{p:Bool×Addr}{ys:List V}(I:Inv X dv Z H s)(h:t_ X.K H p xs)(h':t_ X.K H p ys):xs=ys:=by
 obtain⟨b,a⟩:=p;cases b
 . exact I.w_ h h'
 . exact I.r6 h h'
theorem dE.obj {h:Heap}{p:Src}{k:Nat}(q:dE h p k):∃ o,h.get? p.2.2=some o/\∀ v,o.data≠.cell v:=by
 obtain⟨b,t,i⟩:=p;cases b
 . obtain⟨o, e, _, d⟩ := q;exact⟨o,e,λv e=>by rw[d] at e;cases e⟩
 . obtain⟨o, e, _, d⟩ := q;exact⟨o,e,λv e=>by rw[d] at e;cases e⟩
variable {α : Type}
theorem vU {p:Nat->α->Prop}:∀ n,(∀ j,j<n->∃ x,p j x)->∃ xs:List α,xs.length=n/\∀ (j:Nat) x,xs[j]? = some x->p j x
 | 0,_=>⟨[],rfl,λj x e=>by simp at e⟩
 | n + 1, h => by
   obtain⟨xs,hl,hx⟩:=vU n λj hj=>h j (acp hj);obtain⟨x,hp⟩:=h n (abK n);refine⟨xs++[x],by simp[hl],λj y e=>?_⟩;by_cases hj:j<n
   . rw[aak (by omega)] at e;exact hx j y e
   . have VQ := (List.getElem?_eq_some_iff.mp e).1;simp at VQ;obtain rfl:j=n:=by omega
     rw[aag (by omega),hl,acQ] at e;cases e
     exact hp
def Ir (K:W.Frag)(ts:List (Bool×Addr)):It :=
 ⟨λi H=>∃ vs:List V,vs.length=ts.length/\∀ (j:Nat) p v,ts[j]? = some p->vs[j]? = some v->∃ xs,t_ K H p xs/\xs[i]? = some v,
  λi H v H'=>∃ T vs,v=.ref T/\H T=none/\H'=upd H T (.tup vs)/\vs.length=ts.length/\∀ (j:Nat) p v xs,ts[j]? = some p->vs[j]? = some v->t_ K H p xs->xs[i]? = some v,
  λi H=>(∀ p∈ts,∃ xs,t_ K H p xs)/\∃ p∈ts,∃ xs,t_ K H p xs/\xs.length<=i⟩
theorem aE.of {vs:List V}{us:List Value}(hl:us.length=vs.length)(h:∀ (j:Nat) v u,vs[j]? = some v->us[j]? = some u->RelV v u):aE vs us:=by
 induction vs generalizing us with
 | nil=>cases us with
   | nil=>exact .nil
   | cons _ _=>cases hl
 | cons v vs ih=>cases us with
   | nil=>cases hl
   | cons u us=>exact .cons (h 0 v u rfl rfl) (ih (by simpa using hl) λj a b e1 e2=>h (j+1) a b e1 e2)
variable {ts:List (Bool×Addr)}
set_option maxHeartbeats 4000000 in
theorem NL {P:Program}{w:World}{K:W.Frag}{es:List Expr}{n:Nat}{pos:Pos}{z TI TO:Addr}{S:List Src}(D:Lh z TI TO S)(hS:∀ (j:Nat) q,S[j]? = some q->ts[j]? = some (q.1,q.2.1))(hl:S.length=ts.length)(ne:ts≠[])(hs:ts.length<=aar) :
   Turn P w K (.Tuple es n pos) (Ir K ts) (z::TI::TO::S.map (·.2.2)) z (λi h=>IsZip h z TI TO .none/\h.get? TI=some (dR (S.map λp=>aaK p.2.2).toArray)/\(∃ as:Array Value,as.size=S.length/\h.get? TO=some (dR as))/\∀ (j:Nat) p,S[j]? = some p->dE h p i):=by
 have nS:S≠[]:=λe=>ne (List.length_eq_zero_iff.mp (by rw[<- hl,e];rfl));have mm:∀ {c:Addr},c∈z::TI::TO::S.map (·.2.2)->c=z∨c=TI∨c=TO∨∃ (j:Nat) (p:Src),S[j]? = some p/\c=p.2.2:=λ{c} hc=>by
   simp only[aaX,List.mem_map] at hc;rcases hc with e | e | e | ⟨p,hp,e⟩
   . exact .inl e
   . exact .inr (.inl e)
   . exact .inr (.inr (.inl e))
   . obtain⟨j, hj⟩ := List.mem_iff_getElem?.mp hp;exact .inr (.inr (.inr ⟨j,p,hj,e.symm⟩))
 have mi:∀ {j:Nat} {p:Src},S[j]? = some p->p.2.2∈z::TI::TO::S.map (·.2.2):=λ{j p} hp=>by
   simp only[aaX,List.mem_map];exact .inr (.inr (.inr ⟨p,aad hp,rfl⟩))
 have mn:∀ {c:Addr},c ∉ z::TI::TO::S.map (·.2.2)->c≠z/\c≠TO/\∀ p∈S,c≠p.2.2:=λ{c} hc=>by
   simp only[aaX,List.mem_map,not_or,not_exists,not_and] at hc;exact⟨hc.1,hc.2.2.1,λp hp e=>hc.2.2.2 p hp e.symm⟩
 refine⟨by simp,λi h st c hc=>?_,λi h h' st k=>?_,?_,?_,λ_ _ _ _ _ st h=>wpAny_pyIter_zip st.1 h⟩
 . obtain⟨hz, hI, ⟨as, _, hO⟩, SA⟩ := st;rcases mm hc with rfl | rfl | rfl | ⟨j,p,hp,rfl⟩
   . exact⟨_,hz,λv e=>by cases e⟩
   . exact⟨_,hI,λv e=>by cases e⟩
   . exact⟨_,hO,λv e=>by cases e⟩
   . exact(SA j p hp).obj
 . obtain⟨hz, hI, ⟨as, hl, hO⟩, SA⟩ := st;exact⟨k z (by simp) _ hz,k TI (by simp) _ hI,⟨as,hl,k TO (by simp) _ hO⟩,λj p hp=>(SA j p hp).to λo e=>k _ (mi hp) o e⟩
 . intro X hP hw hK hc i dv s Z H E I hf st hg;subst hP hw hK;obtain⟨hz,hI,⟨as,hal,hO⟩,SA⟩:=st;obtain⟨vs,Ut,hv⟩:=hg;obtain⟨Ys,hYl,hY⟩:=vU (p:=λj (Y:Array Value×Value)=>∀ p v,S[j]? = some p->vs[j]? = some v->gX s.heap p Y.1/\Y.1[i]? = some Y.2/\RelV v Y.2) S.length λj hj=>by
     obtain⟨xs,hx,hxi⟩:=hv j _ _ (hS j _ (aac hj)) (aac (by omega));obtain⟨its,rv,p1,_⟩:=tG (n:=S[j].2.2) I hx;obtain⟨u,hu,ru⟩:=rv.get hxi;refine⟨(its.toArray,u),λp v e1 e2=>?_⟩;rw[aac hj] at e1;rw[aac (by omega)] at e2;cases e1
     cases e2
     exact⟨p1,by simpa using hu,ru⟩
   have at3:∀ (j:Nat) p Y,S[j]? = some p->Ys[j]? = some Y->∃ v,vs[j]? = some v/\gX s.heap p Y.1/\Y.1[i]? = some Y.2/\RelV v Y.2:=λj p Y hp hy=>by
     have hj:=(List.getElem?_eq_some_iff.mp hp).1;exact⟨vs[j],aac (by omega),hY j Y hy p _ hp (aac (by omega))⟩
   refine yI (k:=i) (Xs:=Ys.map (·.1)) D hz hI hO hal nS (by rw[aaa,hYl]) (by omega) (λj p X hp hX=>?_) (λxs Uw Wz h' z1 z2 z3 z5 kk=>?_) λj X hX he=>?_
   . rw[aae,abH] at hX;obtain⟨Y,hy,rfl⟩:=hX;obtain⟨v,_,a,_⟩:=at3 j p Y hp hy;exact⟨SA j p hp,a⟩
   . have RV : aE vs xs := aE.of (by omega) λj v u e1 e2 => by
       have hj:=(List.getElem?_eq_some_iff.mp e1).1;obtain⟨v',Uv,_,b,c⟩:=at3 j S[j] Ys[j] (aac (by omega)) (aac (by omega));rw[e1] at Uv;cases Uv
       have:=Wz j Ys[j].1 u (by rw[aae,aac (by omega)];rfl) e2
       rw[b] at this;cases this
       exact c
     refine⟨_,rfl,wpAny_letOwnedTupleGo_zip z1 λh2' hz2 s2=>?_⟩;have T0:H s.heap.objs.size=none:=I.au.fresh (aai _);have tz:s.heap.objs.size≠z:=abU (aav hz);have hI2:=s2.extBut _ _ D.TIz (kk _ _ D.TIz D.TITO (λp hp=>(D.el p hp).2.2.1) hI);have hO2:=s2.extBut _ _ D.TOz z2;have hit2:∀ (j:Nat) p,S[j]? = some p->dE h2' p (i+1):=λj p hp=>(z3 j p hp).to λo e=>s2.extBut _ _ (D.el p (aad hp)).1 e;have J:Inv X dv Z (upd H s.heap.objs.size (.tup vs)) { s with heap:=h2' }:=by
       refine nY (ch:=z::TI::TO::S.map (·.2.2)) I hf (aai _) (λc o hc e=>?_) (λc hc=>?_) ⟨by omega,xs,RV,⟨_,s2.extBut _ _ tz z5,rfl,_,rfl⟩⟩
       . obtain⟨c1, c2, c3⟩ := mn hc;exact s2.extBut _ _ c1 (kk c o c1 c2 c3 e)
       . rcases mm hc with rfl | rfl | rfl | ⟨j,p,hp,rfl⟩
         . exact⟨_,hz2⟩
         . exact⟨_,hI2⟩
         . exact⟨_,hO2⟩
         . obtain⟨o, e, _⟩ := (hit2 j p hp).obj;exact⟨o,e⟩
     refine⟨.ref s.heap.objs.size,_,J,rfl,⟨_,vs,rfl,T0,rfl,Ut,λj p v ys e1 e2 e3=>?_⟩,⟨hz2,hI2,⟨_,by simpa using Uw,hO2⟩,hit2⟩,λc hc=>?_⟩
     . obtain⟨ys', q1, q2⟩ := hv j p v e1 e2;rw[Bx I e3 q1];exact q2
     . have RJ : c < s.heap.objs.size := by
         rcases mm hc with rfl | rfl | rfl | ⟨j,p,hp,rfl⟩
         . exact aav hz
         . exact aav hI
         . exact aav hO
         . obtain⟨o, e, _⟩ := (SA j p hp).obj;exact aav e
       rw[af (aaH RJ)];exact(hf c hc).1
   . exfalso
     rw[aae,abH] at hX;obtain⟨Y,hy,rfl⟩:=hX;have hj:=(List.getElem?_eq_some_iff.mp hy).1;obtain⟨v,_,_,b,_⟩:=at3 j S[j] Y (aac (by omega)) hy;rw[b] at he;cases he
 . intro X hP hw hK hc i dv s Z H E I hf st hg;subst hP hw hK;obtain⟨hz,hI,⟨as,hal,hO⟩,SA⟩:=st;obtain⟨Ss,p0,Uy,xs0,hq0,hl0⟩:=hg;obtain⟨Ys,hYl,hY⟩:=vU (p:=λj (Y:Array Value)=>∀ p,S[j]? = some p->gX s.heap p Y/\(∀ xs,t_ X.K H (p.1,p.2.1) xs->Y.size=xs.length)) S.length λj hj=>by
     obtain⟨xs,hx⟩:=Ss _ (aad (hS j _ (aac hj)));obtain⟨its,rv,p1,_⟩:=tG (n:=S[j].2.2) I hx;refine⟨its.toArray,λp e1=>?_⟩;rw[aac hj] at e1;cases e1
     exact⟨p1,λys hy=>by rw[Bx I hy hx];simpa using rv.length.symm⟩
   refine yI (k:=i) (Xs:=Ys) D hz hI hO hal nS hYl (by omega) (λj p X hp hX=>⟨SA j p hp,(hY j X hX p hp).1⟩) (λxs Uw Wz h' z1 z2 z3 z5 kk=>?_) λj X hX he=>⟨I.ok.hd hc,λh' kk=>⟨rfl,?_⟩⟩
   . exfalso
     obtain⟨j,hj⟩:=List.mem_iff_getElem?.mp Uy;have hj':=(List.getElem?_eq_some_iff.mp hj).1;have e1:=hS j _ (aac (show j<S.length by omega));rw[hj] at e1;cases e1
     have e2:=(hY j _ (aac (show j<Ys.length by omega)) _ (aac (by omega))).2 _ hq0;have e3:=Wz j _ _ (aac (show j<Ys.length by omega)) (aac (show j<xs.length by omega))
     have:=(Array.getElem?_eq_some_iff.mp e3).1
     omega
   . have Vl : ∀ c o, c ∉ z :: TI :: TO :: S.map (·.2.2) -> s.heap.get? c = some o -> h'.get? c = some o := λc o hc e => kk c o (mn hc).1 (mn hc).2.1 (mn hc).2.2 e;refine I.uK (s':={ s with heap:=h' }) (ch:=z::TI::TO::S.map (·.2.2)) rfl ⟨λb o e _ _ hc=>Vl b o hc e,λb o e _ _ hc=>⟨o.slots,Vl b o hc e⟩,λb o e n _=>n,λb o e hc=>⟨o,Vl b o hc e⟩,λ_ _ e=>e,λ_ _ _ e=>e,λb ps e=>⟨#[],by rw [e];simp⟩⟩ (λb u e=>?_) I.bare ?_
     . have nc : ∀ b u, H b = some u -> b ∉ z :: TI :: TO :: S.map (·.2.2) := λb u e hb => by rw [(hf b hb).1] at e; cases e
       refine(I.au b u e).iB (λc v hc q=>Vl c v ?_ q) (λ_ q=>q) λ_ _ q=>q;rcases hc with q | q
       . rw[q];exact nc b u e
       . exact nc c _ q
     . intro b hb;obtain⟨f0,f1,f2,f3,f4,f5⟩:=hf b hb;exact⟨f3,f1,f4,f5⟩
theorem DK {P:Program}{w:World}{K:W.Frag}{tg:Expr}{J J':It}{fp:List Addr}{it:Addr}{tn:Nat->Heap->Prop}(T:Turn P w K tg J fp it tn)(h1:∀ i H,J'.go i H->J.go i H)(h2:∀ i H v H',J.qX i H v H'->J'.qX i H v H')(h3:∀ i H,J'.stop i H->J.stop i H):Turn P w K tg J' fp it tn :=
 ⟨T.mem,T.obj,T.keep,λX a b c d i dv s Z H E I hf st hg=>aL (T.item X a b c d i dv s Z H E I hf st (h1 i H hg)) λr s1 zq=>mX zq λu e q=>⟨u,e,aL q λ_ s2 ⟨x,H',I',rv,y,r⟩=>⟨x,H',I',rv,h2 _ _ _ _ y,r⟩⟩,λX a b c d i dv s Z H E I hf st hg=>T.done X a b c d i dv s Z H E I hf st (h3 i H hg),T.self⟩
theorem wU:∀ {ts:List (Bool×Addr)} {us:List Value},aE (ts.map λp=>V.ref p.2) us->us=ts.map λp=>.ref p.2
 | [],_,h=>by cases h;rfl
 | a :: ts, _, h => by
   cases h with
   | cons r rr =>
     cases r
     rw[wU rr];rfl
theorem vJ {es:List Expr}{n:Nat}{Se:Pos}{m:Expr}{ms:List Expr}{W:List V->Hp->(It->Hp->Prop)->Prop}{p pos:Pos}(hg:Gl X "zip")(hm:X.mg "zip" = none)(ha:PA X (m::ms) ta)(hs:aas (m::ms) X.env=(false,eval m X.env)::aas ms X.env)(RM:(backTo pos (aas ms X.env)).any (·.1)=false)
   (hw:∀ vs H1 R,W vs H1 R->∃ (ts:List (Bool×Addr)) (J:It),vs=ts.map (λp=>V.ref p.2)/\ts≠[]/\ts.length<=aar/\(∀ p∈ts,∃ xs,t_ X.K H1 p xs)/\checkTypeCall "zip" ⟨ts.map (λp=>.ref p.2),[]⟩=pure ()/\acI "zip.__new__" ⟨.type "zip" :: ts.map (λp=>.ref p.2),[]⟩=pure ()/\(∀ obj,argsOk "object.__init__" ⟨obj::ts.map (λp=>.ref p.2),[]⟩) /\
     (∀ i H,J.go i H->(Ir X.K ts).go i H)/\(∀ i H v H',(Ir X.K ts).qX i H v H'->J.qX i H v H')/\(∀ i H,J.stop i H->(Ir X.K ts).stop i H)/\R J H1) :
   PI X (.Tuple es n Se) (.Call (.Name "zip" p) (m::ms) [] pos) (λZ H R=>ta Z H λvs H1=>W vs H1 R):=by
 intro dv s Z H R I h;refine Call_ (kA I hg hm OC (abD (aL (ha pos dv s Z H _ I h) λus s1 zq=>bF zq λvs H1 I1 r1 q1=>?_) hs RM));obtain⟨ts,J,rfl,ne,hl,hsq,c1,c2,c3,j1,j2,j3,q⟩:=hw _ _ _ q1;obtain rfl:=wU r1;have lt:∀ p∈ts,p.2<s1.heap.objs.size:=λp hp=>by
   obtain⟨xs,hx⟩:=hsq p hp;obtain⟨_,_,_,e⟩:=tG (n:=0) I1 hx;exact e
 refine GF (λp hp=>?_) hl c1 c2 c3 λh' m hm' z1 z2 z3 z4 kk=>?_
 . obtain⟨xs, hx⟩ := hsq p hp;obtain⟨_,_,e,_⟩:=tG (n:=0) I1 hx;exact⟨_,e⟩
 . have el : ∀ q ∈ cQ s1.heap.objs.size ts, @LT.lt Nat _ q.2.1 s1.heap.objs.size /\ @LE.le Nat _ s1.heap.objs.size q.2.2 /\ @LT.lt Nat _ q.2.2 m := λq hq => by
     obtain⟨j,hj⟩:=List.mem_iff_getElem?.mp hq;obtain⟨p,e,rfl⟩:=pA.mp hj
     have:=(List.getElem?_eq_some_iff.mp e).1
     exact⟨lt p (aad e),ab3 _ _,by show s1.heap.objs.size+j<m;omega⟩
   have T := NL (P := X.prog) (w := X.w) (K := X.K) (es := es) (n := n) (pos := Se) (z := m + 2) (TI := m) (TO := m + 1) (S := cQ s1.heap.objs.size ts) (ts := ts)
     ⟨aaH (by omega),aaH (by omega),aaH (by omega),λq hq=>?_,by rw[yW];exact List.nodup_range'⟩ (λj q hj=>?_) gP ne hl
   . refine wpAny_pyIter_zip z1 ⟨_,_,_,J,H1,rfl,I1.kept (t':=s1.toks) kk,DK T j1 j2 j3,⟨z1,z2,?_,z4⟩,λc hc=>?_,q⟩
     . obtain⟨as, e1, e2⟩ := z3;exact⟨as,by rw[gP];exact e1,e2⟩
     . have Vo : s1.heap.objs.size <= c := by
         simp only[aaX,List.mem_map] at hc;rcases hc with e | e | e | ⟨q,hq,e⟩
         . rw[e];exact aaR (ab3 _ _) (aaR (acu hm'.symm) (ab3 _ _))
         . rw[e];exact aaR (ab3 _ _) (acu hm'.symm)
         . rw[e];exact aaR (ab3 _ _) (aaR (acu hm'.symm) (ab3 _ _))
         . rw[<- e];exact(el q hq).2.1
       exact I1.lN Vo (I1.au.fresh Vo)
   . obtain⟨a, b, c⟩ := el q hq;exact⟨aaH (by omega),aaH (by omega),abU (by omega),aaH (by omega),aaH (by omega),λq' WD=>aaH (aaB a (el q' WD).2.1)⟩
   . obtain⟨p, e, rfl⟩ := pA.mp hj;exact e
theorem Q3 (y a b c:Value):argsOk "object.__init__" ⟨[y,a,b,c],[]⟩:=by unfold argsOk;rw[signature?_of (id:="object.__init__") (n:=['_','_','t','i','n','i','_','_']) (o:=['t','c','e','j','b','o']) (by kernel_rfl) PySem.F.owner_object];kernel_rfl
theorem Q7 (y a b c d e:Value):argsOk "object.__init__" ⟨[y,a,b,c,d,e],[]⟩:=by unfold argsOk;rw[signature?_of (id:="object.__init__") (n:=['_','_','t','i','n','i','_','_']) (o:=['t','c','e','j','b','o']) (by kernel_rfl) PySem.F.owner_object];kernel_rfl
theorem rQ {P : α->β->Prop}{T:List β}(j:Nat)(p : α)(v : β)(h:([]:List α)[j]? = some p)(_:T[j]? = some v):P p v:=by cases h
theorem cY {P : α->β->Prop}{a : α}{x : β}{S:List α}{T:List β}(h0:P a x)(h:∀ (j:Nat) p v,S[j]? = some p->T[j]? = some v->P p v):∀ (j:Nat) p v,(a::S)[j]? = some p->(x::T)[j]? = some v->P p v
 | 0,_,_,h1,h2=>by rw[<- aap h1,<- aap h2];exact h0
 | j+1,p,v,h1,h2=>h j p v h1 h2
theorem DM {vs:List α}(h:vs.length=n+1):∃ a r,vs=a::r/\r.length=n:=by
 cases vs with
 | nil=>cases h
 | cons a r=>exact⟨a,r,rfl,Nat.succ.inj h⟩
theorem Rn {vs:List α}(h:vs.length=0):vs=[]:=List.eq_nil_of_length_eq_zero h
theorem Po {vs:List α}(h:vs.length=2):∃ a b,vs=[a,b]:=by
 obtain⟨a,r,rfl,h1⟩:=DM h;obtain⟨b,t,rfl,h2⟩:=DM h1;exact⟨a,b,by rw[Rn h2]⟩
theorem Pe {vs:List α}(h:vs.length=3):∃ a b c,vs=[a,b,c]:=by
 obtain⟨a,r,rfl,h1⟩:=DM h;obtain⟨b,c,rfl⟩:=Po h1;exact⟨a,b,c,rfl⟩
theorem QR {vs:List α}(h:vs.length=5):∃ a b c d e,vs=[a,b,c,d,e]:=by
 obtain⟨a,r,rfl,h1⟩:=DM h;obtain⟨b,t,rfl,h2⟩:=DM h1;obtain⟨c,d,e,rfl⟩:=Pe h2;exact⟨a,b,c,d,e,rfl⟩
theorem nR {K:W.Frag}{es:List Expr}{n:Nat}{Se:Pos}{m0 m1:Expr}{p pos:Pos}(hK:X.K=K)(hg:Gl X "zip")(hm:X.mg "zip" = none)(ha:PA X [m0,m1] ta)(hs:aas [m0,m1] X.env=(false,eval m0 X.env)::aas [m1] X.env:=by rfl)(RM:(backTo pos (aas [m1] X.env)).any (·.1)=false:=by rfl):PI X (.Tuple es n Se) (.Call (.Name "zip" p) [m0,m1] [] pos) (Nw K ta):=by
 subst hK;refine vJ (W:=λvs H1 R=>∃ a b X0 X1,vs=[.ref a,.ref b]/\az X.K H1 a X0/\az X.K H1 b X1/\R (Bo X.K a b) H1) hg hm ha hs RM λvs H1 R h=>?_;obtain⟨a,b,X0,X1,rfl,h0,h1,q⟩:=h;refine⟨[(false,a),(false,b)],_,rfl,List.cons_ne_nil _ _,by show 2<=aar;decide,λp hp=>?_,by kernel_rfl,by kernel_rfl,λy=>F.args_object_init_3 y _ _,λi H h=>?_,λi H v H' h=>?_,λi H h=>?_,q⟩
 . simp only[aaX,aa0,or_false] at hp;rcases hp with rfl | rfl
   . exact⟨_,h0⟩
   . exact⟨_,h1⟩
 . obtain⟨X0, X1, x0, x1, g0, g1, e0, e1⟩ := h;exact⟨[x0,x1],rfl,cY ⟨_,g0,e0⟩ (cY ⟨_,g1,e1⟩ rQ)⟩
 . obtain⟨T, vs, e, hT, e', hl, f⟩ := h;obtain⟨x0,x1,rfl⟩:=Po hl;exact⟨T,x0,x1,e,hT,e',λX0 X1 g0 g1=>⟨f 0 _ _ _ rfl rfl g0,f 1 _ _ _ rfl rfl g1⟩⟩
 . obtain ⟨X0, X1, g0, g1, hl⟩ := h;refine ⟨λp hp=>?_,?_⟩
   . simp only[aaX,aa0,or_false] at hp;rcases hp with rfl | rfl
     . exact⟨_,g0⟩
     . exact⟨_,g1⟩
   . rcases hl with hl | hl
     . exact⟨(false,a),by simp,_,g0,hl⟩
     . exact⟨(false,b),by simp,_,g1,hl⟩
theorem Na {K:W.Frag}{es:List Expr}{n:Nat}{Se:Pos}{m0 m1 m2:Expr}{p pos:Pos}(hK:X.K=K)(hg:Gl X "zip")(hm:X.mg "zip" = none)(ha:PA X [m0,m1,m2] ta)(hs:aas [m0,m1,m2] X.env=(false,eval m0 X.env)::aas [m1,m2] X.env:=by rfl)(RM:(backTo pos (aas [m1,m2] X.env)).any (·.1)=false:=by rfl):PI X (.Tuple es n Se) (.Call (.Name "zip" p) [m0,m1,m2] [] pos) (IE K ta):=by
 subst hK;refine vJ (W:=λvs H1 R=>∃ a b c X0 X1 X2,vs=[.ref a,.ref b,.ref c]/\az X.K H1 a X0/\az X.K H1 b X1/\az X.K H1 c X2/\R (Cs X.K a b c) H1) hg hm ha hs RM λvs H1 R h=>?_;obtain⟨a,b,c,X0,X1,X2,rfl,h0,h1,h2,q⟩:=h;refine⟨[(false,a),(false,b),(false,c)],_,rfl,List.cons_ne_nil _ _,by show 3<=aar;decide,λp hp=>?_,by kernel_rfl,by kernel_rfl,λy=>Q3 y _ _ _,λi H h=>?_,λi H v H' h=>?_,λi H h=>?_,q⟩
 . simp only[aaX,aa0,or_false] at hp;rcases hp with rfl | rfl | rfl
   . exact⟨_,h0⟩
   . exact⟨_,h1⟩
   . exact⟨_,h2⟩
 . obtain⟨X0, X1, X2, x0, x1, x2, g0, g1, g2, e0, e1, e2⟩ := h;exact⟨[x0,x1,x2],rfl,cY ⟨_,g0,e0⟩ (cY ⟨_,g1,e1⟩ (cY ⟨_,g2,e2⟩ rQ))⟩
 . obtain⟨T, vs, e, hT, e', hl, f⟩ := h;obtain⟨x0,x1,x2,rfl⟩:=Pe hl;exact⟨T,x0,x1,x2,e,hT,e',λX0 X1 X2 g0 g1 g2=>⟨f 0 _ _ _ rfl rfl g0,f 1 _ _ _ rfl rfl g1,f 2 _ _ _ rfl rfl g2⟩⟩
 . obtain ⟨X0, X1, X2, g0, g1, g2, hl⟩ := h;refine ⟨λp hp=>?_,?_⟩
   . simp only[aaX,aa0,or_false] at hp;rcases hp with rfl | rfl | rfl
     . exact⟨_,g0⟩
     . exact⟨_,g1⟩
     . exact⟨_,g2⟩
   . rcases hl with hl | hl | hl
     . exact⟨(false,a),by simp,_,g0,hl⟩
     . exact⟨(false,b),by simp,_,g1,hl⟩
     . exact⟨(false,c),by simp,_,g2,hl⟩
theorem Mf {K:W.Frag}{es:List Expr}{n:Nat}{Se:Pos}{m0 m1 m2 m3 m4:Expr}{p pos:Pos}(hK:X.K=K)(hg:Gl X "zip")(hm:X.mg "zip" = none)(ha:PA X [m0,m1,m2,m3,m4] ta)(hs:aas [m0,m1,m2,m3,m4] X.env=(false,eval m0 X.env)::aas [m1,m2,m3,m4] X.env:=by rfl)(RM:(backTo pos (aas [m1,m2,m3,m4] X.env)).any (·.1)=false:=by rfl):PI X (.Tuple es n Se) (.Call (.Name "zip" p) [m0,m1,m2,m3,m4] [] pos) (Ii K ta):=by
 subst hK;refine vJ (W:=λvs H1 R=>∃ a b c d e X0 X1 X2 X3 X4,vs=[.ref a,.ref b,.ref c,.ref d,.ref e]/\av X.K H1 a X0/\av X.K H1 b X1/\av X.K H1 c X2/\av X.K H1 d X3/\av X.K H1 e X4/\R (CH X.K a b c d e) H1) hg hm ha hs RM λvs H1 R h=>?_;obtain⟨a,b,c,d,e,X0,X1,X2,X3,X4,rfl,h0,h1,h2,h3,h4,q⟩:=h;refine⟨[(true,a),(true,b),(true,c),(true,d),(true,e)],_,rfl,List.cons_ne_nil _ _,by show 5<=aar;decide,λp hp=>?_,by kernel_rfl,by kernel_rfl,λy=>Q7 y _ _ _ _ _,λi H h=>?_,λi H v H' h=>?_,λi H h=>?_,q⟩
 . simp only[aaX,aa0,or_false] at hp;rcases hp with rfl | rfl | rfl | rfl | rfl
   . exact⟨_,h0⟩
   . exact⟨_,h1⟩
   . exact⟨_,h2⟩
   . exact⟨_,h3⟩
   . exact⟨_,h4⟩
 . obtain⟨X0, X1, X2, X3, X4, x0, x1, x2, x3, x4, g0, g1, g2, g3, g4, e0, e1, e2, e3, e4⟩ := h;exact⟨[x0,x1,x2,x3,x4],rfl,cY ⟨_,g0,e0⟩ (cY ⟨_,g1,e1⟩ (cY ⟨_,g2,e2⟩ (cY ⟨_,g3,e3⟩ (cY ⟨_,g4,e4⟩ rQ))))⟩
 . obtain⟨T, vs, e, hT, e', hl, f⟩ := h;obtain⟨x0,x1,x2,x3,x4,rfl⟩:=QR hl;exact⟨T,x0,x1,x2,x3,x4,e,hT,e',λX0 X1 X2 X3 X4 g0 g1 g2 g3 g4=>⟨f 0 _ _ _ rfl rfl g0,f 1 _ _ _ rfl rfl g1,f 2 _ _ _ rfl rfl g2,f 3 _ _ _ rfl rfl g3,f 4 _ _ _ rfl rfl g4⟩⟩
 . obtain ⟨X0, X1, X2, X3, X4, g0, g1, g2, g3, g4, hl⟩ := h;refine ⟨λp hp=>?_,?_⟩
   . simp only[aaX,aa0,or_false] at hp;rcases hp with rfl | rfl | rfl | rfl | rfl
     . exact⟨_,g0⟩
     . exact⟨_,g1⟩
     . exact⟨_,g2⟩
     . exact⟨_,g3⟩
     . exact⟨_,g4⟩
   . rcases hl with hl | hl | hl | hl | hl
     . exact⟨(true,a),by simp,_,g0,hl⟩
     . exact⟨(true,b),by simp,_,g1,hl⟩
     . exact⟨(true,c),by simp,_,g2,hl⟩
     . exact⟨(true,d),by simp,_,g3,hl⟩
     . exact⟨(true,e),by simp,_,g4,hl⟩
theorem Q8 (a:Value):checkTypeCall "enumerate" ⟨[a],[]⟩=pure ():=by kernel_rfl
theorem RA (a:Value):acI "enumerate.__new__" ⟨[.type "enumerate",a],[]⟩=pure ():=by kernel_rfl
theorem QX (obj a:Value):argsOk "object.__init__" ⟨[obj,a],[]⟩:=by
 unfold argsOk;rw[signature?_of (id:="object.__init__") (n:=['_','_','t','i','n','i','_','_']) (o:=['t','c','e','j','b','o']) (by kernel_rfl) F.owner_object];kernel_rfl
set_option maxHeartbeats 1000000 in
theorem Pu (l:Addr)(items:Array Value)(n:Nat)(dct:Option Addr)(sl:Array (Option Value)) :
   Meets (Builtin.«enumerate.__new__» ⟨[.type "enumerate",.ref l],[]⟩) (λ_ R s=>s.heap.get? l=some { cls:=.type "list",dict:=dct,data:=.seq items n,slots:=sl } /\
     R (.ok (.ret (.ref (s.heap.push { cls:=.type "list_iterator",data:=.fields #[.ref l,.int 0 0] }).objs.size)))
       { s with heap:=(s.heap.push { cls:=.type "list_iterator",data:=.fields #[.ref l,.int 0 0] }).push { cls:=.type "enumerate",data:=.fields #[.none,.bool false,.ref s.heap.objs.size,rawInt 0,.none,.none] } }) :=
 .of_wp λprog w A R s h=>by
   obtain⟨hp,g,d,tk,os⟩:=s;obtain⟨hl,h⟩:=h;have hsub:=sub_enumerate;have hL:Heap.IsList (Shared.heap ⟨hp,g,d,tk,os⟩) l items:=⟨_,hl,rfl,n,rfl⟩
   wp_walk using abZ hl
   refine wpAny_stack_any λst=>aat ?_;split
   . rename_i c _ _ _ _ _;cases (c == Value.type "enumerate")
     . wp_walk using abZ hl,abt hL
       exact⟨_,rfl,h⟩
     . wp_walk using abZ hl,abt hL
       exact⟨_,rfl,h⟩
   . wp_walk using abZ hl,abt hL
     exact⟨_,rfl,h⟩
theorem NV {self a:Value}:Meets (Builtin.«object.__init__» ⟨[self,a],[]⟩) (λ_ R s=>s.TypeIs self "enumerate"/\R (.ok (.ret .none)) s):=by
 have hl:=F.called_enumerate.init.lookup;have hm:=F.called_enumerate.made;have Tp:(some "enumerate.__new__" != some "object.__new__")=true:=by decide
 refine Meets.of_wp λprog w A R s hs=>?_;obtain⟨hT,hq⟩:=hs;repeat (any_goals (first | assumption | wp_step))
 exact⟨_,rfl,hq⟩
section
variable {prog:Program} {w:World} {A:Around} {E:Value->Shared->Prop} {s:Shared}
theorem NO {l:Addr}{items:Array Value}{Q:Value->Shared->Prop}(hL:s.heap.IsList l items)
   (h:∀ h',IsEnum h' (s.heap.objs.size+1) s.heap.objs.size 0 .none->h'.IsListIter s.heap.objs.size l 0->(∀ b o,s.heap.get? b=some o->h'.get? b=some o)->Q (.ref (s.heap.objs.size+1)) { s with heap:=h' }) :
   wpAny (model prog w) A (call (.type "enumerate") [.ref l] []) Q E s:=by
 obtain⟨⟨c0,dct,dt,sl⟩,hl,Vb,n,VV⟩:=hL
 replace Vb:c0=.type "list":=Vb
 replace VV:dt=.seq items n:=VV
 subst Vb VV;have ft:=F.called_enumerate;obtain⟨c,tl,hmro⟩:=ft.mro;have hmade:=ft.made;have hsub:=ft.sub;have hct:=Q8 (.ref l);refine adz (codeAny_of_tree ?_);show wpAny _ _ (callAny (.type "enumerate") _) _ _ _;refine aat ⟨Code.quiet_builtin _ (by decide +kernel),codeAny_builtin F.entry_type_call ?_⟩;rw[Around.under_plain (weight_type_call_type "enumerate" [.ref l] []) (units_type_call_type "enumerate" [.ref l] [])];have h1:=ft.notType;have h2:=ft.canCreate;repeat (any_goals (first | assumption | wp_step))
 have hz:(s.heap.push { cls:=.type "list_iterator",data:=.fields #[.ref l,.int 0 0] }).objs.size=s.heap.objs.size+1:=abJ ..
 refine acD (acK ft.plain F.entry_enumerate_new (wpAny_of_eq (RA _) (Pu l items n dct sl prog w A.in1 (wants (λobj s₁=>obj=.ref (s.heap.push { cls:=.type "list_iterator",data:=.fields #[.ref l,.int 0 0] }).objs.size /\
   s₁ = { s with heap:=(s.heap.push { cls:=.type "list_iterator",data:=.fields #[.ref l,.int 0 0] }).push { cls:=.type "enumerate",data:=.fields #[.none,.bool false,.ref s.heap.objs.size,rawInt 0,.none,.none] } }) E) s ⟨hl,rfl,rfl⟩))) λr s₁ hr=>?_
 cases r with
 | error e=>exact hr
 | ok fl =>
   cases fl with
   | ret obj =>
     obtain⟨eo,es⟩:=hr;rw[hz] at eo;subst eo es
     have he : IsEnum ((s.heap.push { cls := .type "list_iterator", data := .fields #[.ref l, .int 0 0] }).push
         { cls:=.type "enumerate",data:=.fields #[.none,.bool false,.ref s.heap.objs.size,rawInt 0,.none,.none] }) (s.heap.objs.size+1) s.heap.objs.size 0 .none:=by
       have := aay (s.heap.push { cls := .type "list_iterator", data := .fields #[.ref l, .int 0 0] })
         (o:={ cls:=.type "enumerate",data:=.fields #[.none,.bool false,.ref s.heap.objs.size,rawInt 0,.none,.none] }) rfl
       rw[hz] at this;exact this
     have hT:Shared.TypeIs { s with heap:=(s.heap.push { cls:=.type "list_iterator",data:=.fields #[.ref l,.int 0 0] }).push { cls:=.type "enumerate",data:=.fields #[.none,.bool false,.ref s.heap.objs.size,rawInt 0,.none,.none] } } (.ref (s.heap.objs.size+1)) "enumerate":=⟨_,he,rfl⟩
     have hq:=h _ he ⟨_,aaj _ (aay _ rfl),rfl,rfl⟩ λb o x=>aaj _ (aaj _ x);have hli:=ft.init.lookup;have hbi:=ft.init.bind (.ref (s.heap.objs.size+1));repeat (any_goals (first | assumption | wp_step))
     refine acD (acK ft.init.plain F.entry_object_init (ft.init.check _ _ _ _ _ _ _ _ hT (QX _ _) (NV prog w A.in1 (wants (λr s₂=>r=.none/\Q (.ref (s.heap.objs.size+1)) s₂) E) _ ⟨hT,rfl,hq⟩))) λr₂ s₂ hr₂=>?_;cases r₂ with
     | error e=>exact hr₂
     | ok fl₂ =>
       cases fl₂ with
       | ret r =>
         obtain⟨rfl,hq⟩:=hr₂;repeat (any_goals (first | assumption | wp_step))
       | _=>exact hr₂.elim
   | _=>exact hr.elim
end
def DX (K:W.Frag)(a:Addr):It :=
 ⟨λi H=>∃ xs x,av K H a xs/\xs[i]? = some x,
  λi H v H'=>∃ T x,v=.ref T/\H T=none/\H'=upd H T (.tup [.int (i:Int),x])/\∀ xs,av K H a xs->xs[i]? = some x,
  λi H=>∃ xs,av K H a xs/\xs.length<=i⟩
theorem BW {P:Program}{w:World}{K:W.Frag}{es:List Expr}{n:Nat}{pos:Pos}{a e it:Addr}(n1:e≠it)(n2:e≠a)(n3:a≠it) :
   Turn P w K (.Tuple es n pos) (DX K a) [e,it] e (λi h=>(∃ Uc,IsEnum h e it (i:Int) Uc)/\h.IsListIter it a i) where
 mem:=by simp
 obj:=λi h st c hc=>by
   obtain⟨⟨Uc,he⟩,⟨o1,e1,_,d1⟩⟩:=st;have hc:c=e∨c=it:=by simpa using hc
   rcases hc with rfl | rfl
   . exact⟨_,he,λv z=>by cases z⟩
   . exact⟨_,e1,λv z=>by rw[d1] at z;cases z⟩
 keep:=λi h h' st k=>by
   obtain⟨⟨Uc,he⟩,h1⟩:=st;exact⟨⟨Uc,k e (by simp) _ he⟩,h1.at λo z=>k it (by simp) o z⟩
 item:=by
   intro X hP hw hK hc i dv s Z H E I hf st hg;subst hP hw hK;obtain⟨⟨Uc,he⟩,h1⟩:=st;obtain⟨xs,x,Tn,hx⟩:=hg;obtain⟨TN,rv1,p1,_⟩:=I.list Tn;obtain⟨u,hu,ru⟩:=rv1.get hx;have RJ:i<TN.length:=(List.getElem?_eq_some_iff.mp hu).1;refine wpAny_pyNext_enum_itemD (i:=i) (Draws.list (A:=X.A.in1) (show X.A.in1.handled=none from I.ok.hd hc) it a n3 TN.toArray) (by simpa using he) ⟨h1,p1.isList⟩ (by simpa using RJ) n1 (by simp[n1,n2]) λu' h' tk U5 ho RU ht hz kk=>?_;have e1:u'=u:=by
     have hu'':TN.toArray[i]? = some u':=U5
     simpa [hu] using hu''.symm
   subst e1;refine⟨_,rfl,wpAny_letOwnedTupleGo_enum ho λh2' UB s2=>?_⟩;have T0:H s.heap.objs.size=none:=I.au.fresh (aai _);have te:s.heap.objs.size≠e:=abU (aav he);have J:Inv X dv Z (upd H s.heap.objs.size (.tup [.int (i:Int),x])) { s with heap:=h2' }:=by
     refine nY (ch:=[e,it]) I hf (aai _) (λc o hc z=>?_) (λc hc=>?_) ?_
     . have c1 : c ≠ e := λq => hc (by simp[q]);exact s2.extBut _ _ c1 (kk c o c1 (λq=>hc (by simp[q])) z)
     . have hc : c = e ∨ c = it := by simpa using hc
       rcases hc with rfl | rfl
       . exact⟨_,UB⟩
       . obtain⟨o,z,_⟩:=RU.1;exact⟨o,s2.extBut _ _ n1.symm z⟩
     . exact⟨by show 2<=aar;decide,[.int (i:Int) tk,u'],.cons ⟨_,rfl⟩ (.cons ru .nil),⟨_,s2.extBut _ _ te (by simpa using ht),rfl,_,rfl⟩⟩
   refine⟨.ref s.heap.objs.size,_,J.tok _,rfl,⟨_,x,rfl,T0,rfl,λxs' q1=>by rw[I.r6 q1 Tn];exact hx⟩,⟨⟨_,by simpa using UB⟩,RU.1.at λo z=>s2.extBut _ _ n1.symm z⟩,λc hc=>?_⟩;have RJ:c<s.heap.objs.size:=by
     have hc:c=e∨c=it:=by simpa using hc
     rcases hc with z | z <;> rw[z]
     . exact aav he
     . obtain⟨o,z,_⟩:=h1;exact aav z
   rw[af (aaH RJ)];exact(hf c hc).1
 done:=by
   intro X hP hw hK hc i dv s Z H E I hf st hg;subst hP hw hK;obtain⟨⟨Uc,he⟩,h1⟩:=st;obtain⟨xs,Tn,hl⟩:=hg;obtain⟨TN,rv1,p1,_⟩:=I.list Tn;have l1:=rv1.length;have Vo:TN.length<=i:=by omega
   have D:Draws X.prog X.w X.A.in1 it [it,a] 0 (λ_ _=>False) (λ_ h=>h.IsListIter it a i/\h.IsList a TN.toArray) :=
     ⟨λ_ _ st => let ⟨o, ho, _⟩ := st.1; ⟨o, ho⟩, λ_ _ _ st hk => ⟨st.1.at λo z => hk it (by simp) o z, st.2.at λo z => hk a (by simp) o z⟩, λj s Q E hj => absurd hj (adj _),
       λs Q E st hE=>wpAny_nextOf_list_end (show X.A.in1.handled=none from I.ok.hd hc) st.1 st.2 (by simp;omega) hE⟩
   refine wpAny_pyNext_enum_endD D he ⟨h1,p1.isList⟩ λh' hx=>⟨rfl,?_⟩;have Vl:∀ c o,c ∉ [e,it]->s.heap.get? c=some o->h'.get? c=some o:=λc o hc z=>hx c o (λq=>hc (by simp[q])) z;refine I.uK (s':={ s with heap:=h' }) (ch:=[e,it]) rfl ⟨λb o z _ _ hc=>Vl b o hc z,λb o z _ _ hc=>⟨o.slots,Vl b o hc z⟩,λb o z n _=>n,λb o z hc=>⟨o,Vl b o hc z⟩,λ_ _ z=>z,λ_ _ _ z=>z,λb ps z=>⟨#[],by rw[z];simp⟩⟩ (λb u z=>?_) I.bare ?_
   . have nc : ∀ b u, H b = some u -> b ∉ [e, it] := λb u z hb => by rw [(hf b hb).1] at z; cases z
     refine(I.au b u z).iB (λc v hc q=>Vl c v ?_ q) (λ_ q=>q) λ_ _ q=>q;rcases hc with q | q
     . rw[q];exact nc b u z
     . exact nc c _ q
   . intro b hb;obtain⟨f0,f1,f2,f3,f4,f5⟩:=hf b hb;exact⟨f3,f1,f4,f5⟩
 self:=λ_ _ _ _ _ st h=>by
   obtain⟨⟨Uc,he⟩,_⟩:=st;exact wpAny_pyIter_enum he h
def Fe (K:W.Frag)(ta:TA):TI:=λZ H R=>ta Z H λvs H2=>∃ a xs,vs=[.ref a]/\av K H2 a xs/\R (DX K a) H2
theorem rC {K:W.Frag}{es:List Expr}{n:Nat}{Se:Pos}{a:Expr}{p pos:Pos}(hK:X.K=K)(hg:Gl X "enumerate")(hm:X.mg "enumerate" = none)(ha:PA X [a] ta)
   (hs:aas [a] X.env=(false,eval a X.env)::aas [] X.env:=by rfl) (RM:(backTo pos (aas [] X.env)).any (·.1)=false:=by rfl) :
   PI X (.Tuple es n Se) (.Call (.Name "enumerate" p) [a] [] pos) (Fe K ta):=by
 subst hK;intro dv s Z H R I h;refine Call_ (kA I hg hm AK (abD (aL (ha pos dv s Z H _ I h) λus s2 zq=>bF zq λvs H2 I2 r1 q1=>?_) hs RM));obtain⟨l,xs,e1,hx,q⟩:=q1;subst e1;cases r1 with
 | cons r rr =>
   cases rr
   cases r
   obtain⟨TN,rv1,p1,_⟩:=I2.list hx;have lx:l<s2.heap.objs.size:=(by obtain⟨o,n,e,_⟩:=p1;exact aav e)
   refine NO (p1.isList) λh' z1 z2 kk=>?_;refine wpAny_pyIter_enum z1 ⟨_,[s2.heap.objs.size+1,s2.heap.objs.size],_,_,H2,rfl,I2.kept (t':=s2.toks) kk,BW (Nat.succ_ne_self _) (abU (acp lx)) (aaH lx),⟨⟨_,by simpa using z1⟩,z2⟩,λc hc=>?_,q⟩;have hc:c=s2.heap.objs.size+1∨c=s2.heap.objs.size:=by simpa using hc
   have Vo:s2.heap.objs.size<=c:=by rcases hc with e | e <;> rw[e] <;> first | exact ack _ | exact aai _
   exact I2.lN Vo (I2.au.fresh Vo)
theorem Fc {K:W.Frag}{b:Addr}{g:TG}{tb:TS}{D:Ends}{Z : L2.St}(Pv:Nat->L2.St->Hp->Prop)(h0:Pv 0 Z H)(hl:∀ i Z H,i<=xs.length->Pv i Z H->av K H b xs)
   (hs:∀ i x T Z H,xs[i]? = some x->Pv i Z H->H T=none->g (.ref T) Z (upd H T (.tup [.int (i:Int),x])) λZ2 H2=>tb { D with nx:=Pv (i+1),ct:=Pv (i+1),bk:=D.nx } Z2 H2) (hd:∀ Z H,Pv xs.length Z H->D.nx Z H):rK (DX K b) g tb D Z H:=by
 refine⟨λi m Z H=>m=xs.length - i/\i<=xs.length/\Pv i Z H,⟨xs.length,by simp,aaW _,h0⟩,?_⟩;rintro i m Z H ⟨rfl,hi,p⟩;have q1:=hl i Z H hi p;by_cases RJ:i<xs.length
 . refine .inr ⟨⟨xs, xs[i], q1, by simp[RJ]⟩, Pv (i + 1), λZ' H' p' => ⟨xs.length - (i + 1), by omega, rfl, RJ, p'⟩, λx H' y => ?_⟩;obtain⟨T,x',rfl,hT,rfl,Ui⟩:=y;exact hs i x' T Z H (Ui _ q1) p hT
 . have e : i = xs.length := by omega
   subst e;exact .inl ⟨⟨xs,q1,aai _⟩,hd Z H p⟩
theorem tP {K:W.Frag}{b:Addr}{g:TG}{tc:TT}{te:TE}{RN:List V->Hp->Prop}{Z0:L2.St}(Pv:Nat->List V->L2.St->Hp->Prop)(h0:Pv 0 [] Z0 H)(hl:∀ i ys Z H,i<=xs.length->Pv i ys Z H->av K H b xs/\ys.length<=aar)
   (hs:∀ i x ys T Z H,xs[i]? = some x->Pv i ys Z H->H T=none->g (.ref T) Z (upd H T (.tup [.int (i:Int),x])) λZ3 H3=>tc Z3 H3 λb H4=>if b=true then te Z3 H4 λy H5=>Pv (i+1) (ys++[y]) Z3 H5 else Pv (i+1) ys Z3 H4)
   (hd:∀ ys Z H,Pv xs.length ys Z H->RN ys H):eK (DX K b) g tc te RN Z0 H:=by
 refine⟨λi m ys Z H=>m=xs.length - i/\i<=xs.length/\Pv i ys Z H,⟨xs.length,by simp,aaW _,h0⟩,?_⟩;rintro i m ys Z H ⟨rfl,hi,p⟩;obtain⟨q,hz⟩:=hl i ys Z H hi p;by_cases RJ:i<xs.length
 . refine .inr ⟨⟨xs, xs[i], q, by simp[RJ]⟩, Pv (i + 1), λSK Z2 H2 p' => ⟨(hl (i + 1) SK Z2 H2 RJ p').2, xs.length - (i + 1), by omega, rfl, RJ, p'⟩, λx H2 y => ?_⟩;obtain⟨T,x',rfl,hT,rfl,Ui⟩:=y;exact hs i x' ys T Z _ (Ui xs q) p hT
 . have e : i = xs.length := by omega
   subst e;exact .inl ⟨⟨xs,q,aai _⟩,hz,hd ys Z H p⟩
theorem Du {d:Addr}{ob:Obj}{kvs:List (Key×V)}{g:TG}{tc:TT}{te:TE}{RN:List V->Hp->Prop}{Z0:L2.St}(Pv:Nat->List V->L2.St->Hp->Prop)(h0:Pv 0 [] Z0 H)(hl:∀ i ys Z H,i<=kvs.length->Pv i ys Z H->H d=some (.cx ob (.dK kvs))/\ys.length<=aar)
   (hs:∀ i k v ys T Z H,kvs[i]? = some (k,v)->Pv i ys Z H->H T=none->g (.ref T) Z (upd H T (.tup [kV k,v])) λZ3 H3=>tc Z3 H3 λb H4=>if b=true then te Z3 H4 λy H5=>Pv (i+1) (ys++[y]) Z3 H5 else Pv (i+1) ys Z3 H4)
   (hd:∀ ys Z H,Pv kvs.length ys Z H->RN ys H):eK (DW d ob kvs) g tc te RN Z0 H:=by
 refine⟨λi m ys Z H=>m=kvs.length - i/\i<=kvs.length/\Pv i ys Z H,⟨kvs.length,by simp,aaW _,h0⟩,?_⟩;rintro i m ys Z H ⟨rfl,hi,p⟩;obtain⟨q1,hz⟩:=hl i ys Z H hi p;by_cases RJ:i<kvs.length
 . refine .inr ⟨⟨q1, kvs[i].1, kvs[i].2, by simp[RJ]⟩, Pv (i + 1), λSK Z2 H2 p' => ⟨(hl (i + 1) SK Z2 H2 RJ p').2, kvs.length - (i + 1), by omega, rfl, RJ, p'⟩, λx H' y => ?_⟩;obtain⟨T,k,v,rfl,hT,rfl,hk⟩:=y;exact hs i k v ys T Z H hk p hT
 . have e : i = kvs.length := by omega
   subst e;exact .inl ⟨⟨q1,aai _⟩,hz,hd ys Z H p⟩
def Ef (k:Int):Value->Bool
 | .int i _=>i == k
 | _=>false
theorem rN (k:Int):∀ {ns:List Int} {us:List Value},aE (ns.map V.int) us->us.countP (Ef k)=ns.countP (· == k)/\us.length=ns.length/\(∀ y∈us,∃ i t,y=aa3 i t)/\∀ (j:Nat) (n:Int),ns[j]? = some n->∃ t,us[j]? = some (aa3 n t)
 | [],_,h=>by cases h;exact⟨rfl,rfl,λy hy=>(by cases hy),λj n e=>by simp at e⟩
 | n :: ns, us, h => by
   cases h with
   | @cons _ u _ ur h r =>
     obtain⟨t,rfl⟩:=(show ∃ t,u=aa3 n t from h)
     obtain⟨e1,e2,e3,e4⟩:=rN k r;refine⟨?_,by rw[aaq,aaq,e2],λy hy=>?_,λj m e=>?_⟩
     . rw[List.countP_cons,List.countP_cons,e1];rfl
     . rcases List.mem_cons.mp hy with rfl | hy
       . exact⟨_,_,rfl⟩
       . exact e3 y hy
     . cases j with
       | zero=>cases e;exact⟨t,rfl⟩
       | succ j=>exact e4 j m (by simpa using e)
def Bv:V->List V->Hp->VK->Prop:=λx vs H Q=>∃ (l:Addr) (ns:List Int) (k:Int),x=.ref l/\vs=[.int k]/\H l=some (.lst (ns.map V.int))/\Q (.int ((ns.countP (· == k):Nat):Int)) H
theorem E5:AY X "list.count" Bv:=by
 intro dv s Z H x vs v us Q I rx rv h;obtain⟨l,ns,k,rfl,rfl,hH,q⟩:=h;cases rx
 obtain⟨u,rfl,ru⟩:=rv.one;obtain⟨t,rfl⟩:=(show ∃ t,u=aa3 k t from ru)
 obtain⟨z,its,n,r,hl,e⟩:=I.nM hH;obtain⟨e1,e2,e3,e4⟩:=rN k r;refine call_meets PySem.F.slot_list_count ⟨_,e,rfl⟩ PySem.F.entry_list_count (PySem.F.args_list_count_2 _ _) (list_countAt l _ n none #[] (.int k t) (Ef k)) ⟨e,λy hy=>?_,?_⟩
 . obtain⟨i, t', rfl⟩ := e3 y (by simpa using hy);exact EqAt.int_int i t' k t
 . rw[show its.toArray.toList = its from rfl, e1];exact⟨.int _,H,I.tok _,⟨_,rfl⟩,q⟩
def BC:V->List V->Hp->VK->Prop:=λx vs H Q=>∃ (l:Addr) (ns:List Int) (k:Int) (j:Nat),x=.ref l/\vs=[.int k]/\H l=some (.lst (ns.map V.int))/\ns[j]? = some k/\(∀ i:Nat,i<j->ns[i]? ≠ some k)/\Q (.int ((j:Nat):Int)) H
theorem EW:AY X "list.index" BC:=by
 intro dv s Z H x vs v us Q I rx rv h;obtain⟨l,ns,k,j,rfl,rfl,hH,hj,WG,q⟩:=h;cases rx
 obtain⟨u,rfl,ru⟩:=rv.one;obtain⟨t,rfl⟩:=(show ∃ t,u=aa3 k t from ru)
 obtain⟨z,its,n,r,hl,e⟩:=I.nM hH;obtain⟨e1,e2,e3,e4⟩:=rN k r;have hjl:j<ns.length:=(List.getElem?_eq_some_iff.mp hj).1;rw[aan,aaa] at z;have at_:∀ (m:Nat) (hm:m<its.length),∃ i t',its[m]=aa3 i t'/\ns[m]? = some i:=λm hm=>by
   obtain⟨t',ht⟩:=e4 m ns[m] (aac (by omega));exact⟨_,t',(List.getElem?_eq_some_iff.mp ht).2,aac (by omega)⟩
 refine call_meets PySem.F.slot_list_index ⟨_,e,rfl⟩ PySem.F.entry_list_index (PySem.F.args_list_index_2 _ _) (list_indexAt l _ n none #[] (.int k t) (Ef k) j (by simpa [e2] using hjl) (by omega) ?_ ?_) ⟨e,λy hy=>?_,?_⟩
 . obtain ⟨i, t', h1, h2⟩ := at_ j (by omega);rw [hj] at h2;cases h2
   simp[h1,Ef]
 . intro m hm RJ;obtain⟨i,t',h1,h2⟩:=at_ m (by simpa using hm);have h3:=WG m RJ;rw[h2] at h3;have h4:i≠k:=λe=>h3 (by rw[e]);simp[h1,Ef,h4]
 . obtain⟨i, t', rfl⟩ := e3 y (by simpa using hy);exact EqAt.int_int i t' k t
 . exact⟨.int _,H,I.tok _,⟨_,rfl⟩,q⟩
theorem Gb {l:Addr}{ns:List Int}{k:Int}{Q:VK}(h:H l=some (.lst (ns.map V.int)))(q:Q (.int ((ns.countP (· == k):Nat):Int)) H):Bv (.ref l) [.int k] H Q:=⟨l,ns,k,rfl,rfl,h,q⟩
theorem Hl {l:Addr}{ns:List Int}{k:Int}{j:Nat}{Q:VK}(h:H l=some (.lst (ns.map V.int)))(hj:ns[j]? = some k)(WG:∀ i:Nat,i<j->ns[i]? ≠ some k)(q:Q (.int ((j:Nat):Int)) H):BC (.ref l) [.int k] H Q:=⟨l,ns,k,j,rfl,rfl,h,hj,WG,q⟩
theorem GB {K:W.Frag}{a b:Addr}{ys:List V}{g:TG}{tb:TS}{D:Ends}{Z : L2.St}(hy:ys.length=xs.length)(Pv:Nat->L2.St->Hp->Prop)(h0:Pv 0 Z H)(hl:∀ i Z H,i<=xs.length->Pv i Z H->az K H a xs/\az K H b ys)
   (hs:∀ i x y T Z H,xs[i]? = some x->ys[i]? = some y->Pv i Z H->H T=none->g (.ref T) Z (upd H T (.tup [x,y])) λZ2 H2=>tb { D with nx:=Pv (i+1),ct:=Pv (i+1),bk:=D.nx } Z2 H2) (hd:∀ Z H,Pv xs.length Z H->D.nx Z H):rK (Bo K a b) g tb D Z H:=by
 refine⟨λi m Z H=>m=xs.length - i/\i<=xs.length/\Pv i Z H,⟨xs.length,by simp,aaW _,h0⟩,?_⟩;rintro i m Z H ⟨rfl,hi,p⟩;obtain⟨q1,q2⟩:=hl i Z H hi p;by_cases RJ:i<xs.length
 . refine .inr ⟨⟨xs, ys, xs[i], ys[i]'(by omega), q1, q2, by simp[RJ], by simp[show i < ys.length by omega]⟩, Pv (i + 1), λZ' H' p' => ⟨xs.length - (i + 1), by omega, rfl, RJ, p'⟩, λx H' y => ?_⟩;obtain⟨T,x',y',rfl,hT,rfl,Ui⟩:=y;obtain⟨z1,z2⟩:=Ui _ _ q1 q2;exact hs i x' y' T Z H z1 z2 p hT
 . have e : i = xs.length := by omega
   subst e;exact .inl ⟨⟨xs,ys,q1,q2,.inl (aai _)⟩,hd Z H p⟩
end L3
namespace FB
open PySem PySem.Spec PyProof.Rows L2 L3 PySem.SeqAt
local macro_rules | `(tactic| walk_at "clok") => `(tactic| repeat (first | exact abq | refine ⟨rfl, ?_⟩))
local macro_rules | `(tactic| walk_at "frok") => `(tactic| repeat (first | exact abq | refine ⟨⟨rfl, (by first | exact Or.inl rfl | exact Or.inr rfl), (by first | exact Or.inl rfl | exact Or.inr rfl), rfl⟩, ?_⟩))
local macro_rules | `(tactic| walk_at "hlk") => `(tactic| first | (with_reducible assumption) | (exact U) | ((with_reducible refine' ak ?x ?y); (case y => with_reducible assumption); (case x => walk_at "hlk")) | ((fail_if_success (((with_reducible refine' ak ?x ?y); (case y => with_reducible assumption)))); (with_reducible refine' uU ?x ?y); (case x => walk_at "ne"); (case y => walk_at "hlk")) | ((with_reducible refine' JE ?x ?y); (case x => with_reducible assumption); (case y => walk_at "hlk")))
local macro_rules | `(tactic| walk_at "ne") => `(tactic| first | (with_reducible assumption) | (apply Ne.symm; (with_reducible assumption)) | ((with_reducible refine' ae ?x ?y); (case y => with_reducible assumption); (case x => walk_at "hlk")) | (apply Ne.symm; (with_reducible refine' ae ?x ?y); (case y => with_reducible assumption); (case x => walk_at "hlk")))
local macro_rules | `(tactic| walk_at "sql") => `(tactic| first | (with_reducible assumption) | (refine' av.of ?x; (case x => first | (with_reducible assumption) | (exact U))) | ((with_reducible refine' A9 ?x ?y); (case y => with_reducible assumption); (case x => walk_at "sql")) | ((fail_if_success (((with_reducible refine' A9 ?x ?y); (case y => with_reducible assumption)))); first | ((with_reducible refine' Jj ?s ?h ?q); (case h => with_reducible assumption); (case s => walk_at "same"); (case q => walk_at "sql")) | (refine' av.of ?x; (case x => (with_reducible refine' uU ?x2 ?y2); (case x2 => walk_at "ne"); (case y2 => walk_at "hlk")))) | ((with_reducible refine' ah.seq ?x ?y); (case x => with_reducible assumption); (case y => walk_at "sql")))
local macro_rules | `(tactic| walk_at "sqt") => `(tactic| first | (with_reducible assumption) | (refine' az.of ?x; (case x => first | (with_reducible assumption) | (exact U))) | ((with_reducible refine' BE ?x ?y); (case y => with_reducible assumption); (case x => walk_at "sqt")) | ((fail_if_success (((with_reducible refine' BE ?x ?y); (case y => with_reducible assumption)))); first | ((with_reducible refine' sqt_upd ?s ?h ?q); (case h => with_reducible assumption); (case s => walk_at "same"); (case q => walk_at "sqt")) | (refine' az.of ?x; (case x => (with_reducible refine' uU ?x2 ?y2); (case x2 => walk_at "ne"); (case y2 => walk_at "hlk")))) | ((with_reducible refine' bf ?x ?y); (case x => with_reducible assumption); (case y => walk_at "sqt")))
local macro_rules | `(tactic| walk_at "lk") => `(tactic| first | (with_reducible exact lX) | (refine' A5 ?x ?y; (case x => decide +kernel); (case y => walk_at "lk")) | exact lX)
local macro_rules | `(tactic| walk_at "nolk") => `(tactic| first | (with_reducible rfl) | (refine' BM ?x ?y; (case x => decide +kernel); (case y => walk_at "nolk")) | rfl)
variable {n:Nat}
theorem Qg {fs:List (Str×V)}{f:Str}{v:V}(h:fs.length<n):(aj f v fs).length<n+1:=aa1 (er (aai _)) (Nat.succ_lt_succ h)
theorem PX:([]:List (Str×V)).length<n+1:=Nat.succ_pos n
theorem QG {fs:List (Str×V)}(h:fs.length<=9):fs.length<n+10:=aa1 h (aaB (abK 9) (Nat.le_add_left 10 n))
local macro_rules | `(tactic| walk_at "fewf") => `(tactic| with_reducible ((repeat refine Qg ?_); first | exact PX | exact QG (by assumption)))
local macro_rules | `(tactic| walk_at "small") => `(tactic| first | exact aam rfl | (show _ <= aar; rw [aan]; first | omega | (simp only [aaa, aaq, aaZ, aab, aao, abx, aa4]; omega)))
local macro_rules | `(tactic| walk_at "if") => `(tactic| with_reducible refine (?_ : @ite Prop (_ = true) (instDecidableEqBool _ _) _ _))
local macro_rules | `(tactic| walk_at "isi") => `(tactic| with_reducible refine (?_ : nZ _ _ _ _))
local macro_rules | `(tactic| walk_at "r2") => `(tactic| first
 | ((with_reducible refine' FI ?h ?c ?n ?l ?_);(case h=>walk_at"hlk");(case c=>walk_at"cls");(case n=>walk_at"noat");(case l=>walk_at"lk"))
 | ((with_reducible refine' J2 ?h ?c ?n ?l ?_);(case h=>walk_at"hlk");(case c=>walk_at"cls");(case n=>walk_at"noat");(case l=>walk_at"fewf"))
 | ((with_reducible refine' Mj ?h ?_);(case h=>walk_at"sql"))
 | ((with_reducible refine' dH ?h ?_);(case h=>walk_at"sql"))
 | ((with_reducible refine' pf ?h ?_);(case h=>walk_at"sqt"))
 | ((with_reducible refine' Kt ?h ?_);(case h=>walk_at"sql"))
 | ((with_reducible refine' r_listT ?h ?_);(case h=>walk_at"sqt"))
 | ((with_reducible refine' IF ?h ?_);(case h=>rfl))
 | ((with_reducible refine' I_ ?h ?_);(case h=>rfl)))
local macro_rules | `(tactic| walk_at "none") => `(tactic| first | (with_reducible assumption) | ((with_reducible refine' aB ?x ?y); (case y => with_reducible assumption); (case x => walk_at "same")))
local macro_rules | `(tactic| walk_at "same") => `(tactic| first | (with_reducible assumption) | (with_reducible exact ah.refl _) | ((with_reducible refine' same_none ?x ?y); (case y => with_reducible assumption); (case x => walk_at "same")) | ((fail_if_success (((with_reducible refine' same_none ?x ?y); (case y => with_reducible assumption)))); (with_reducible refine' lR ?x ?y); (case y => walk_at "none"); (case x => walk_at "same")) | ((with_reducible refine' ah.trans ?x ?y); (case y => with_reducible assumption); (case x => walk_at "same")))
local macro_rules | `(tactic| walk_at "tt") => `(tactic| first | assumption | omega | with_unfolding_all rfl | decide | (simp only [aaa, aaq, aaZ, aab, aao, abx, Ez]; omega))
local macro_rules | `(tactic| walk_at "nn") => `(tactic| first | assumption | omega | decide | (simp only [aaa, aaq, aaZ, aab, aao, abx, Ez]; omega))
local macro_rules | `(tactic| walk_at "at") => `(tactic| first | assumption | ((with_reducible refine' NR ?x ?y); (case x => walk_at "tt"); (case y => walk_at "tt")) | ((with_reducible refine' gI_neg ?x ?y); (case x => walk_at "tt"); (case y => walk_at "tt")) | rfl)
local macro_rules | `(tactic| walk_at "ty") => `(tactic| first | (with_reducible exact bH.int _) | (with_reducible exact bH.bl _) | (with_reducible exact bH.str _) | (with_reducible exact bH.ax) | (refine' bH.lst ?x; (case x => walk_at "hlk")) | (refine' bH.tup ?x; (case x => walk_at "hlk")))
local macro_rules | `(tactic| walk_at "dp") => `(tactic| first | (with_reducible exact cG _) | (with_reducible exact si _) | (with_reducible exact dp_bool _) | (with_reducible exact Bl) | ((with_reducible refine' dp_ints ?x); (case x => walk_at "sql")) | ((with_reducible refine' kS ?x ?y); (case x => walk_at "sql"); (case y => walk_at "dps")) | ((with_reducible refine' eh ?x ?y); (case x => walk_at "sqt"); (case y => walk_at "dps")))
local macro_rules | `(tactic| walk_at "dps") => `(tactic| first | (with_reducible exact b8) | ((with_reducible refine' aI ?x ?y); (case x => walk_at "dp"); (case y => walk_at "dps")))
local macro_rules | `(tactic| walk_at "shaped") => `(tactic| first | exact shaped_ints _ | (unfold shaped; simp [ach, abP, canLay_ints, acG, ab8, depth_ints]))
local macro_rules | `(tactic| walk_at "eqd") => `(tactic| first
 | ((with_reducible refine' r_eqT ?d ?x ?y ?s ?_);(case x=>walk_at"dp");(case y=>walk_at"dp");(case s=>walk_at"shaped"))
 | ((with_reducible refine' IC ?d ?x ?y ?s ?_);(case x=>walk_at"dp");(case y=>walk_at"dp");(case s=>walk_at"shaped")))
local macro_rules | `(tactic| walk_at "rd") => `(tactic| (walk_at "rk"; repeat (walk_at "r2"; walk_at "rk")))
local macro_rules | `(tactic| walk_at "rds") => `(tactic| (walk_at "rd"; repeat' (walk_at "cs" <;> walk_at "rd")))
local macro_rules | `(tactic| walk_at "sp") => `(tactic| (repeat' split) <;> first | assumption | rfl | (exfalso; omega))
local macro_rules | `(tactic| walk_at "rok") => `(tactic| first | assumption | exact ⟨by omega, by omega⟩)
local macro_rules | `(tactic| walk_at "cmul") => `(tactic| first | exact Or.inl ⟨by decide, by decide⟩ | exact Or.inr ⟨by decide, by decide⟩ | exact Or.inl ⟨by omega, by omega⟩ | exact Or.inr ⟨by omega, by omega⟩)
set_option hygiene false
local macro_rules | `(tactic| walk_at "cs") => `(tactic| with_reducible first | refine B9 (λhh => ?_) (λhh => ?_) | refine jw (λhh => ?_) (λhh => ?_) | refine fH (λhh => ?_) (λhh => ?_) | refine sJ (λhh => ?_) (λhh => ?_) | (refine' r_ixDi ?h (λhh => ?_) (λhh => ?_); (case h => walk_at "sql")) | (refine' r_ixD ?h (λhh => ?_) (λhh => ?_); (case h => walk_at "sql")))
local macro_rules | `(tactic| walk_at "tf") => `(tactic| (show Q _ _; refine' q _ _ _ _ ?zs ?RB ?Rt ?QQ ?Rj ?QP ?Q0 ?zt ?zb ?zp; (case zt => walk_at "hlk"); (case zb => walk_at "hlk"); (case zp => walk_at "hlk"); (case zs => walk_at "same"); (case RB => walk_at "none"); (case Rt => walk_at "none"); (case QQ => walk_at "none"); (case Rj => walk_at "ne"); (case QP => walk_at "ne"); (case Q0 => walk_at "ne")))
local macro_rules | `(tactic| walk_at "cls") => `(tactic| first | assumption | exact T.gJ | exact T.D8 | exact T.JG | exact T.k7 | exact T.kU | exact T.iZ | exact T.fV | exact T.lu | exact T.iX | exact T.GX | exact T.fM | exact T.i7 | exact T.eP)
local macro_rules | `(tactic| walk_at "noat") => `(tactic| first | assumption | exact T.xl | exact T.uu | exact T.zH | exact T.xF | exact T.zT | exact T.DE | exact T.Dd | exact T.Fp | exact T.AD | exact T.xI | exact T.CF | exact T.EF | exact T.Co | exact T.CU | exact T.rO | exact T.tj | exact T.yi | exact T.rP | exact T.yt | exact T.vn | exact T.Dj | exact T.jL | exact T.sQ | exact T.sj | exact T.tw | exact T.uB | exact T.uv | exact T.s_)
local macro_rules | `(tactic| walk_at "kit") => `(tactic| first | assumption | exact T.EN | exact T.CB | exact T.Dg | exact T.Aw | exact T.Fz | exact T.xM | exact T.zS | exact T.Ao | exact T.rq | exact T.Ep | exact T.Ax | exact T.yj | exact T.km | exact T.qV | exact T.qK | exact T.mW | exact T.js | exact T.oF | exact T.nO | exact T.kT | exact T.jx | exact T.nj | exact T.oO | exact T.kC | exact T.gK | exact T.kQ | exact T.lK | exact T.jr | exact T.j8 | exact T.qI | exact T.qQ | exact T.mU | exact T.ke | exact T.qD | exact T.qE | exact T.mH | exact T.jv | exact T.oX | exact T.nI | exact T.kG | exact T.jE | exact T.nv | exact T.oS | exact T.kW)
set_option hygiene true
set_option maxHeartbeats 4000000
abbrev aP.aU (a:aP):Addr:=a.EL
abbrev aP.ay (a:aP):Addr:=a.DC
local macro_rules | `(tactic| walk_at "sc") => `(tactic| exact ⟨rfl, rfl, rfl, by decide +kernel, rfl, by decide +kernel, by decide +kernel⟩)
def top (i:Nat):Stmt:=PySem.Challenge.pw_frameback_k61_what_is_not_made.main.body.getD i (.Pass ⟨0,0,0,0⟩)
abbrev uF:Stmt:=top 11
theorem qv:ar ["number"] ["number"] (ai uF):=by walk_at"sc"
abbrev wD:Stmt:=top 12
theorem sM:ar ["number","top"] ["number","top"] (ai wD):=by walk_at"sc"
abbrev qo:Stmt:=top 15
theorem oi:ar ["box"] ["box"] (ai qo):=by walk_at"sc"
abbrev o9:Stmt:=top 16
theorem mT:ar ["cell","high"] ["cell","high"] (ai o9):=by walk_at"sc"
abbrev wF:Stmt:=top 17
theorem uC:ar ["places","place"] ["places","place"] (ai wF):=by walk_at"sc"
abbrev z8:Stmt:=top 18
theorem wO:ar ["places","place","source"] ["places","place","source"] (ai z8):=by walk_at"sc"
abbrev dw:Stmt:=inClass (top 19) 0
theorem bT:ar ["self","at"] ["self","at"] (ai dw):=by walk_at"sc"
abbrev c7:Stmt:=inClass (top 19) 1
theorem cw:ar ["self","high"] ["self","high"] (ai c7):=by walk_at"sc"
abbrev fC:Stmt:=inClass (top 19) 2
theorem dF:ar ["self","places","high"] ["self","places","high"] (ai fC):=by walk_at"sc"
abbrev d9:Stmt:=inClass (top 19) 3
abbrev sS:Stmt:=inClass (top 20) 0
theorem qT:ar ["self","box","number"] ["self","box","number"] (ai sS):=by walk_at"sc"
abbrev qr:Stmt:=inClass (top 20) 2
theorem pq:ar ["self","places","high"] ["self","places","high"] (ai qr):=by walk_at"sc"
abbrev qA:Stmt:=inClass (top 21) 0
theorem oq:ar ["self","box","one"] ["self","box","one"] (ai qA):=by walk_at"sc"
abbrev oQ:Stmt:=inClass (top 21) 2
theorem mZ:ar ["self","places","high"] ["self","places","high"] (ai oQ):=by walk_at"sc"
abbrev qP:Stmt:=inClass (top 27) 0
theorem oC:ar ["self","many"] ["self","many"] (ai qP):=by walk_at"sc"
abbrev mD:Stmt:=inClass (top 27) 2
theorem kN:ar ["self","high"] ["self","high"] (ai mD):=by walk_at"sc"
abbrev mK:Stmt:=inClass (top 28) 0
theorem kI:ar ["self","many"] ["self","many"] (ai mK):=by walk_at"sc"
abbrev j6:Stmt:=inClass (top 28) 2
theorem jt:ar ["self","high"] ["self","high"] (ai j6):=by walk_at"sc"
abbrev lI:Stmt:=inClass (top 28) 3
theorem jN:ar ["self","places","high","gone"] ["self","places","high"] (ai lI):=by walk_at"sc"
abbrev gi:Stmt:=inClass (top 29) 0
theorem d0:ar ["self","box","cell"] ["self","box","cell"] (ai gi):=by walk_at"sc"
abbrev fh:Stmt:=inClass (top 29) 1
theorem di:ar ["self","high"] ["self","high"] (ai fh):=by walk_at"sc"
abbrev qS:Stmt:=inClass (top 30) 1
theorem oH:ar ["self","places","high"] ["self","places","high"] (ai qS):=by walk_at"sc"
abbrev qW:Stmt:=inClass (top 31) 1
theorem o_:ar ["self","places","high"] ["self","places","high"] (ai qW):=by walk_at"sc"
abbrev oM:Stmt:=inClass (top 35) 0
theorem mQ:ar ["self","entries","landings"] ["self","entries","landings"] (ai oM):=by walk_at"sc"
abbrev w5:Stmt:=top 36
theorem tZ:ar ["entry","kept"] ["entry"] (ai w5):=by walk_at"sc"
abbrev ub:Stmt:=top 44
theorem qJ:ar ["thing","top"] ["thing","top"] (ai ub):=by walk_at"sc"
abbrev wZ:Stmt:=top 45
theorem tX:ar ["thing"] ["thing"] (ai wZ):=by walk_at"sc"
abbrev wz:Stmt:=top 47
theorem tK:ar ["part","kind","functions"] ["part","kind","functions"] (ai wz):=by walk_at"sc"
abbrev lr:Stmt:=top 48
theorem f6:ar ["statement","handed","kinds"] ["statement","handed"] (ai lr):=by walk_at"sc"
abbrev lD:Stmt:=top 49
theorem jQ:ar ["statement"] ["statement"] (ai lD):=by walk_at"sc"
abbrev jB:Stmt:=top 50
theorem dC:ar ["bodies","handed","waiting","many","found","statement","inner"] ["bodies","handed"] (ai jB):=by walk_at"sc"
abbrev mY:Stmt:=top 51
theorem kM:ar ["function"] ["function"] (ai mY):=by walk_at"sc"
abbrev nu:Stmt:=top 52
theorem mB:ar ["program"] ["program"] (ai nu):=by walk_at"sc"
abbrev gC:Stmt:=top 53
theorem gb:ar ["program"] ["program"] (ai gC):=by walk_at"sc"
abbrev qG:Stmt:=inClass (top 57) 0
theorem nE:ar ["self","target"] ["self","target"] (ai qG):=by walk_at"sc"
abbrev qU:Stmt:=inClass (top 57) 2
theorem o7:ar ["self","at"] ["self","at"] (ai qU):=by walk_at"sc"
abbrev qm:Stmt:=inClass (top 57) 4
theorem oT:ar ["self","by"] ["self","by"] (ai qm):=by walk_at"sc"
abbrev xf:Stmt:=inClass (top 58) 0
abbrev xA:Stmt:=inClass (top 58) 2
abbrev xb:Stmt:=inClass (top 58) 4
abbrev AI:Stmt:=inClass (top 59) 0
abbrev yP:Stmt:=inClass (top 59) 2
abbrev Ar:Stmt:=inClass (top 59) 4
abbrev qB:Stmt:=inClass (top 60) 0
theorem oG:ar ["self","box"] ["self","box"] (ai qB):=by walk_at"sc"
abbrev qF:Stmt:=inClass (top 60) 2
theorem oy:ar ["self","at"] ["self","at"] (ai qF):=by walk_at"sc"
abbrev wq:Stmt:=top 63
theorem my:ar ["home","names"] ["home"] (ai wq):=by walk_at"sc"
abbrev qj:Stmt:=top 64
theorem og:ar ["homes","functions"] ["homes","functions"] (ai qj):=by walk_at"sc"
abbrev oB:Stmt:=inClass (top 65) 0
theorem mO:ar ["self","home","box","name"] ["self","home"] (ai oB):=by walk_at"sc"
abbrev jT:Stmt:=inClass (top 65) 1
theorem jc:ar ["self","name"] ["self","name"] (ai jT):=by walk_at"sc"
abbrev mG:Stmt:=inClass (top 65) 2
theorem ku:ar ["self","handed","rows","name"] ["self","handed"] (ai mG):=by walk_at"sc"
abbrev oW:Stmt:=inClass (top 65) 3
theorem iz:ar ["self","rows"] ["self"] (ai oW):=by walk_at"sc"
abbrev jU:Stmt:=inClass (top 65) 4
theorem ji:ar ["self","name","spare"] ["self","name","spare"] (ai jU):=by walk_at"sc"
abbrev lF:Stmt:=inClass (top 65) 6
theorem j5:ar ["self","name","box"] ["self","name","box"] (ai lF):=by walk_at"sc"
abbrev kH:Stmt:=inClass (top 65) 8
theorem jM:ar ["self","name","box"] ["self","name","box"] (ai kH):=by walk_at"sc"
abbrev zE:Stmt:=top 68
theorem wV:ar ["number","entries"] ["number","entries"] (ai zE):=by walk_at"sc"
abbrev iM:Stmt:=top 69
theorem h_:ar ["entry","high","beyond"] ["entry"] (ai iM):=by walk_at"sc"
abbrev mJ:Stmt:=top 70
theorem kR:ar ["row","entry"] ["row","entry"] (ai mJ):=by walk_at"sc"
abbrev j7:Stmt:=top 71
theorem jK:ar ["row","entry"] ["row","entry"] (ai j7):=by walk_at"sc"
abbrev j4:Stmt:=top 72
theorem jd:ar ["row","entry","coming","entries","there","name","ours","theirs"] ["row","entry","coming","entries"] (ai j4):=by walk_at"sc"
abbrev ij:Stmt:=top 73
theorem gA:ar ["row","entries"] ["row","entries"] (ai ij):=by walk_at"sc"
abbrev qw:Stmt:=top 74
theorem ny:ar ["numbers","told","number"] ["numbers"] (ai qw):=by walk_at"sc"
abbrev jC:Stmt:=top 75
theorem fg:ar ["code","entries","at","row","entry","own","found"] ["code","entries","at"] (ai jC):=by walk_at"sc"
abbrev gz:Stmt:=top 76
theorem f7:ar ["code","entries","at","landing","entry"] ["code","entries","at","landing"] (ai gz):=by walk_at"sc"
abbrev wI:Stmt:=top 77
theorem lQ:ar ["code","table","entries","complaints","at","landing","what"] ["code","table"] (ai wI):=by walk_at"sc"
abbrev wa:Stmt:=top 79
theorem uf:ar ["code","landings","at","ways"] ["code","landings","at"] (ai wa):=by walk_at"sc"
abbrev Bz:Stmt:=top 80
theorem yL:ar ["heights","waiting","at","high"] ["heights","waiting","at","high"] (ai Bz):=by walk_at"sc"
abbrev nQ:Stmt:=top 81
theorem ez:ar ["code","ways","heights","waiting","at","behind","coming"] ["code","ways"] (ai nQ):=by walk_at"sc"
abbrev yA:Stmt:=top 82
theorem wd:ar ["sets","changed","at","places","left"] ["sets","changed","at","places"] (ai yA):=by walk_at"sc"
abbrev qH:Stmt:=top 83
theorem gn:ar ["code","ways","heights","first","sets","changed","wave","at","kept","coming"] ["code","ways","heights","first"] (ai qH):=by walk_at"sc"
abbrev nW:Stmt:=top 84
theorem eu:ar ["code","landings","ways","heights","found","entries","high","back","four","five","six"] ["code","landings"] (ai nW):=by walk_at"sc"
abbrev BI:Stmt:=top 85
theorem rg:ar ["code","landings","known","table"] ["code","landings"] (ai BI):=by walk_at"sc"
abbrev wM:Stmt:=top 93
theorem sO:ar ["moves","statements","landing","statement"] ["moves","statements","landing"] (ai wM):=by walk_at"sc"
abbrev tT:Stmt:=top 94
theorem qu:ar ["body","moves"] ["body"] (ai tT):=by walk_at"sc"
abbrev n6:Stmt:=top 101
theorem mR:ar ["frame","move","box","one","rows","other","reckons"] ["frame","move"] (ai n6):=by walk_at"sc"
abbrev wW:Stmt:=top 102
theorem uj:ar ["row","places"] ["row","places"] (ai wW):=by walk_at"sc"
abbrev mV:Stmt:=inClass (top 103) 0
theorem kr:ar ["self","program","homes","labels","body"] ["self","program","homes"] (ai mV):=by walk_at"sc"
abbrev lH:Stmt:=inClass (top 103) 1
theorem jR:ar ["self","function","mark"] ["self","function","mark"] (ai lH):=by walk_at"sc"
abbrev ig:Stmt:=inClass (top 103) 2
theorem gy:ar ["self","function"] ["self","function"] (ai ig):=by walk_at"sc"
abbrev mL:Stmt:=inClass (top 103) 3
theorem kx:ar ["self","label"] ["self","label"] (ai mL):=by walk_at"sc"
abbrev fQ:Stmt:=inClass (top 103) 4
theorem fF:ar ["self","function","frame","mark","known"] ["self","function"] (ai fQ):=by walk_at"sc"
abbrev jn:Stmt:=inClass (top 103) 6
theorem iJ:ar ["self","function","mark","frame","move","word","box","ways"] ["self","function","mark"] (ai jn):=by walk_at"sc"
abbrev iH:Stmt:=inClass (top 103) 8
theorem cF:ar ["self","code","landings","call","label"] ["self"] (ai iH):=by walk_at"sc"
abbrev FN:Stmt:=top 104
theorem u_:ar ["program","homes","chosen","making","function"] ["program","homes"] (ai FN):=by walk_at"sc"
abbrev m_:Stmt:=top 106
theorem lG:ar ["_law_script","_law_k"] ["_law_script","_law_k"] (ai m_):=by walk_at"sc"
abbrev qp:Stmt:=top 107
theorem nB:ar ["_law_cell","_law_names","_law_found","_law_k","_law_name"] ["_law_cell"] (ai qp):=by walk_at"sc"
abbrev mS:Stmt:=top 108
theorem gQ:ar ["_law_homes_here","_law_way","_law_cell","_law_k","_law_far","_law_bad"] ["_law_homes_here","_law_way","_law_cell"] (ai mS):=by walk_at"sc"
abbrev mI:Stmt:=top 109
theorem dS:ar ["_law_program","_law_homes_here","_law_word","_law_fits_here","e"] ["_law_program","_law_homes_here"] (ai mI):=by walk_at"sc"
abbrev tJ:Stmt:=top 110
theorem qC:ar ["_law_found"] ["_law_found"] (ai tJ):=by walk_at"sc"
abbrev f9:Stmt:=top 111
theorem zg:ar ["_law_script","_law_cell","_law_program","_law_homes_here","_law_k","_law_body","_law_handed","_law_way","_law_worse"] ["_law_script"] (ai f9):=by walk_at"sc"
abbrev bY (K:W.Frag)(mg:Str->Option Value)(x:Str)(st:Stmt)(ps:List Str):Prop:=∃ f fd,dY K x x st f fd/\mg x=some (.ref f)/\Binds K fd ps []
abbrev bD (K:W.Frag)(C:Addr)(x q:Str)(st:Stmt)(ps:List Str):Prop:=∃ f fd,dY K x q st f fd/\vd K C x f/\Binds K fd ps []
abbrev mF (K:W.Frag)(C:Addr)(q:Str)(st:Stmt)(ps:List Str):Prop:=∃ f fd,dY K "__init__" q st f fd/\Mk K C f/\Binds K fd ps []
abbrev c6 (K:W.Frag)(C D:Addr)(b:Bool):Prop:=aba K (.ref C) (.ref D)=some b
abbrev wt (K:W.Frag)(C:Addr):Prop:=abA K (.ref C) "__class__" = some (some (.builtin "object.__class__"))/\W.mroIn K C (.type "object")=some true
local macro_rules | `(tactic| symm) => `(tactic| walk_at "rd")
local macro_rules | `(tactic| ac_rfl) => `(tactic| walk_at "rk")
structure Txt (w:World)(K:W.Frag)(mg:Str->Option Value)(a:aP):Prop where
 zK:mg "ValueError" = none
 pD:mg "all" = none
 OK:mg "any" = none
 Nu:mg "bool" = none
 K1:mg "dict" = none
 kg:mg "enumerate" = none
 Oz:mg "int" = none
 aY:mg "isinstance" = none
 dm:mg "len" = none
 lL:mg "list" = none
 va:mg "range" = none
 Hx:mg "sorted" = none
 OP:mg "str" = none
 i8:mg "tuple" = none
 mr:mg "zip" = none
 Je:∃ t,mg "FIRST" = some (aa3 0 t)
 r_:∃ t,mg "FIRST_CELL_BIT" = some (aa3 8 t)
 eU:mg "KEPT_BOXES" = some (.ref a.cu)
 dI:(∀ H,az K H a.cu [.int 4,.int 5,.int 6])
 Fo:∃ t,mg "LINK" = some (aa3 7 t)
 Ku:∃ t,mg "LOST_BY_CALL" = some (aa3 143 t)
 Gj:∃ t,mg "NOUGHT" = some (aa3 7 t)
 uW:mg "PARTS" = some (.ref a.pP)
 vC:∃ q0 q1 q2 q3 q4 q5 q6 q7 q8 q9 q10 VF q12:Addr,zy w K a.pP [("set",.ref q0),("copy",.ref q1),("sum",.ref q2),("minus",.ref q3),("product",.ref q4),("less",.ref q5),("call",.ref q6),("if",.ref q7),("while",.ref q8),("try",.ref q9),("drop",.ref q10),("give",.ref VF),("hand",.ref q12)]/\(∀ H,az K H q0 [.str "name",.str "value"])/\(∀ H,az K H q1 [.str "name",.str "name"])/\(∀ H,az K H q2 [.str "name",.str "name",.str "name"])/\(∀ H,az K H q3 [.str "name",.str "name",.str "name"])/\(∀ H,az K H q4 [.str "name",.str "name",.str "name"])/\(∀ H,az K H q5 [.str "name",.str "name",.str "name"])/\(∀ H,az K H q6 [.str "name",.str "function",.str "names"])/\(∀ H,az K H q7 [.str "name",.str "statements",.str "statements"])/\(∀ H,az K H q8 [.str "name",.str "statements"])/\(∀ H,az K H q9 [.str "statements",.str "name",.str "statements"])/\(∀ H,az K H q10 [.str "name"])/\(∀ H,az K H VF [.str "name"])/\(∀ H,az K H q12 [.str "function",.str "names"])
 qM:mg "SET_NAMES" = some (.ref a.g6)
 j_:(∀ H,az K H a.g6 [.str "back",.int 4,.int 5,.int 6])
 kz:mg "START" = some (.ref a.iY)
 lB:∃ Tg:Addr,(∀ H,az K H a.iY [.int 0,.int 128,.ref Tg])/\(∀ H,az K H Tg [.int 16,.int 32,.int 64])
 DD:∃ t,mg "TOP_BOX" = some (aa3 7 t)
 AO:∃ t,mg "TOP_CELLS" = some (aa3 4000 t)
 uq:∃ t,mg "TOP_FUNCTIONS" = some (aa3 8 t)
 yn:∃ t,mg "TOP_HANDED" = some (aa3 3 t)
 sW:∃ t,mg "TOP_NAME" = some (aa3 5 t)
 rD:∃ t,mg "TOP_STATEMENTS" = some (aa3 80 t)
 zC:∃ t,mg "TOP_TARGET" = some (aa3 2000 t)
 AH:∃ t,mg "TOP_VALUE" = some (aa3 4294967295 t)
 yk:∃ t,mg "TOP_WITHIN" = some (aa3 4 t)
 Eh:mg "Back" = some (.ref a.ba)
 Hb:mg "Branch" = some (.ref a.bC)
 E7:mg "Call" = some (.ref a.bL)
 Nl:mg "Copy" = some (.ref a.bP)
 Kd:mg "Frame" = some (.ref a.aU)
 zV:mg "FrameError" = some (.ref a.eN)
 OL:mg "Get" = some (.ref a.cm)
 KW:mg "Grow" = some (.ref a.bV)
 DG:mg "Jump" = some (.ref a.aW)
 HS:mg "Making" = some (.ref a.ay)
 NF:mg "NoProgram" = some (.ref a.cD)
 QN:mg "NoRow" = some (.ref a.Ks)
 D1:mg "NoTable" = some (.ref a.dk)
 OO:mg "Put" = some (.ref a.cq)
 OZ:mg "Set" = some (.ref a.cp)
 Hr:mg "Shrink" = some (.ref a.be)
 Kx:mg "Table" = some (.ref a.cM)
 gJ:dQ K a.aW
 xl:aS K a.aW "target"
 Md:mF K a.aW "Jump.__init__" qG ["self","target"]
 AE:bD K a.aW "goes" "Jump.goes" qU ["self","at"]
 xk:bD K a.aW "height" "Row.height" c7 ["self","high"]
 yG:bD K a.aW "keeps" "Row.keeps" fC ["self","places","high"]
 AA:bD K a.aW "laid" "Jump.laid" qm ["self","by"]
 D8:dQ K a.bC
 uu:aS K a.bC "target"
 zH:aS K a.bC "box"
 Qv:mF K a.bC "Branch.__init__" xf ["self","box","target"]
 KH:bD K a.bC "goes" "Branch.goes" xA ["self","at"]
 IA:bD K a.bC "height" "Row.height" c7 ["self","high"]
 J_:bD K a.bC "keeps" "Row.keeps" fC ["self","places","high"]
 KA:bD K a.bC "laid" "Branch.laid" xb ["self","by"]
 JG:dQ K a.bL
 xF:aS K a.bL "target"
 Ru:mF K a.bL "Call.__init__" AI ["self","target"]
 NG:bD K a.bL "goes" "Row.goes" dw ["self","at"]
 Kz:bD K a.bL "height" "Row.height" c7 ["self","high"]
 M4:bD K a.bL "keeps" "Call.keeps" yP ["self","places","high"]
 NC:bD K a.bL "laid" "Call.laid" Ar ["self","by"]
 k7:dQ K a.cp
 zT:aS K a.cp "number"
 DE:aS K a.cp "box"
 NT:mF K a.cp "Set.__init__" sS ["self","box","number"]
 Dy:bD K a.cp "goes" "Row.goes" dw ["self","at"]
 z9:bD K a.cp "height" "Row.height" c7 ["self","high"]
 Am:bD K a.cp "keeps" "Set.keeps" qr ["self","places","high"]
 OX:bD K a.cp "laid" "Row.laid" d9 ["self","by"]
 kU:dQ K a.cq
 Dd:aS K a.cq "cell"
 Fp:aS K a.cq "box"
 NU:mF K a.cq "Reaching.__init__" gi ["self","box","cell"]
 C0:bD K a.cq "goes" "Row.goes" dw ["self","at"]
 yQ:bD K a.cq "height" "Reaching.height" fh ["self","high"]
 Av:bD K a.cq "keeps" "Put.keeps" qS ["self","places","high"]
 Oi:bD K a.cq "laid" "Row.laid" d9 ["self","by"]
 iZ:dQ K a.bV
 AD:aS K a.bV "many"
 Mo:mF K a.bV "Grow.__init__" qP ["self","many"]
 Ay:bD K a.bV "goes" "Row.goes" dw ["self","at"]
 xn:bD K a.bV "height" "Grow.height" mD ["self","high"]
 zY:bD K a.bV "keeps" "Row.keeps" fC ["self","places","high"]
 NH:bD K a.bV "laid" "Row.laid" d9 ["self","by"]
 fV:dQ K a.be
 xI:aS K a.be "many"
 GC:mF K a.be "Shrink.__init__" mK ["self","many"]
 xi:bD K a.be "goes" "Row.goes" dw ["self","at"]
 sV:bD K a.be "height" "Shrink.height" j6 ["self","high"]
 vy:bD K a.be "keeps" "Shrink.keeps" lI ["self","places","high"]
 KG:bD K a.be "laid" "Row.laid" d9 ["self","by"]
 lu:dQ K a.cm
 CF:aS K a.cm "cell"
 EF:aS K a.cm "box"
 O9:mF K a.cm "Reaching.__init__" gi ["self","box","cell"]
 C3:bD K a.cm "goes" "Row.goes" dw ["self","at"]
 yE:bD K a.cm "height" "Reaching.height" fh ["self","high"]
 AG:bD K a.cm "keeps" "Get.keeps" qW ["self","places","high"]
 Od:bD K a.cm "laid" "Row.laid" d9 ["self","by"]
 iX:dQ K a.bP
 Co:aS K a.bP "one"
 CU:aS K a.bP "box"
 Lw:mF K a.bP "Copy.__init__" qA ["self","box","one"]
 AB:bD K a.bP "goes" "Row.goes" dw ["self","at"]
 xo:bD K a.bP "height" "Row.height" c7 ["self","high"]
 Aa:bD K a.bP "keeps" "Copy.keeps" oQ ["self","places","high"]
 NJ:bD K a.bP "laid" "Row.laid" d9 ["self","by"]
 GX:dQ K a.cM
 rO:aS K a.cM "landings"
 tj:aS K a.cM "entries"
 JI:∃ f fd,eJ K "__init__" "Table.__init__" oM f fd/\Mk K a.cM f/\Binds K fd ["self","entries","landings"] []/\Binds K fd ["self","entries","landings"] [.none]
 fM:dQ K a.aU
 yi:aS K a.aU "many"
 rP:aS K a.aU "in_cells"
 yt:aS K a.aU "away"
 vn:aS K a.aU "box_of"
 Js:mF K a.aU "Frame.__init__" oB ["self","home"]
 so:bD K a.aU "at_hand" "Frame.at_hand" jU ["self","name","spare"]
 xB:bD K a.aU "begun" "Frame.begun" mG ["self","handed"]
 uz:bD K a.aU "cell_of" "Frame.cell_of" jT ["self","name"]
 zj:bD K a.aU "left" "Frame.left" oW ["self"]
 vW:bD K a.aU "loaded" "Frame.loaded" lF ["self","name","box"]
 vV:bD K a.aU "stored" "Frame.stored" kH ["self","name","box"]
 i7:dQ K a.ba
 Dj:aS K a.ba "box"
 Mw:mF K a.ba "Back.__init__" qB ["self","box"]
 Aj:bD K a.ba "goes" "Back.goes" qF ["self","at"]
 xh:bD K a.ba "height" "Row.height" c7 ["self","high"]
 xY:bD K a.ba "keeps" "Row.keeps" fC ["self","places","high"]
 NI:bD K a.ba "laid" "Row.laid" d9 ["self","by"]
 eP:dQ K a.ay
 jL:aS K a.ay "landing_labels"
 sQ:aS K a.ay "places"
 sj:aS K a.ay "drafts"
 tw:aS K a.ay "begins"
 uB:aS K a.ay "frames"
 uv:aS K a.ay "bodies"
 s_:aS K a.ay "handed"
 Ha:mF K a.ay "Making.__init__" mV ["self","program","homes"]
 kP:bD K a.ay "add_function" "Making.add_function" fQ ["self","function"]
 oz:bD K a.ay "end_label" "Making.end_label" ig ["self","function"]
 p_:bD K a.ay "finished" "Making.finished" iH ["self"]
 xc:bD K a.ay "here" "Making.here" mL ["self","label"]
 vS:bD K a.ay "label" "Making.label" lH ["self","function","mark"]
 rk:bD K a.ay "rows_of" "Making.rows_of" jn ["self","function","mark"]
 tN:wt K a.cp
 km:c6 K a.cp a.bL false
 qV:c6 K a.cp a.ba false
 qK:c6 K a.cp a.aW false
 mW:c6 K a.cp a.bC false
 pI:wt K a.bP
 js:c6 K a.bP a.bL false
 oF:c6 K a.bP a.ba false
 nO:c6 K a.bP a.aW false
 kT:c6 K a.bP a.bC false
 pX:wt K a.bV
 jx:c6 K a.bV a.bL false
 nj:c6 K a.bV a.ba false
 oO:c6 K a.bV a.aW false
 kC:c6 K a.bV a.bC false
 jP:wt K a.be
 gK:c6 K a.be a.bL false
 kQ:c6 K a.be a.ba false
 lK:c6 K a.be a.aW false
 jr:c6 K a.be a.bC false
 uQ:wt K a.cq
 j8:c6 K a.cq a.bL false
 qI:c6 K a.cq a.ba false
 qQ:c6 K a.cq a.aW false
 mU:c6 K a.cq a.bC false
 uw:wt K a.cm
 ke:c6 K a.cm a.bL false
 qD:c6 K a.cm a.ba false
 qE:c6 K a.cm a.aW false
 mH:c6 K a.cm a.bC false
 pQ:wt K a.aW
 jv:c6 K a.aW a.bL false
 oX:c6 K a.aW a.ba false
 nI:c6 K a.aW a.aW true
 kG:c6 K a.aW a.bC false
 pL:wt K a.ba
 jE:c6 K a.ba a.bL false
 nv:c6 K a.ba a.ba true
 oS:c6 K a.ba a.aW false
 kW:c6 K a.ba a.bC false
 iG:W.specialIn K (.builtin "object.__class__") "__get__" = some (some (.builtin "getset_descriptor.__get__"))
 iL:W.takesIn K (.builtin "object.__class__")=some true
 Lf:rV K mg "FrameError" a.eN
 KC:je K a.eN
 jY:rV K mg "NoTable" a.dk
 OA:je K a.dk
 kh:rV K mg "NoProgram" a.cD
 jf:je K a.cD
 fe:aba K (.ref a.cD) (.ref a.eN)=some true
 ff:aba K (.ref a.cD) (.type "ValueError")=some true
 gh:aba K (.ref a.cD) (.ref a.dk)=some false
 EN:aba K (.type "int") (.type "int")=some true
 CB:aba K (.type "int") (.type "bool")=some false
 Dg:aba K (.type "bool") (.type "int")=some true
 Aw:aba K (.type "bool") (.type "bool")=some true
 Fz:aba K (.type "str") (.type "int")=some false
 xM:aba K (.type "tuple") (.type "tuple")=some true
 zS:aba K (.type "list") (.type "tuple")=some false
 Ao:aba K (.type "str") (.type "tuple")=some false
 rq:aba K (.type "NoneType") (.type "tuple")=some false
 Ep:aba K (.type "str") (.type "str")=some true
 Ax:aba K (.type "list") (.type "list")=some true
 yj:aba K (.type "tuple") (.type "list")=some false
 Al:bY K mg "is_whole" uF ["number"]
 C5:bY K mg "bounded" wD ["number","top"]
 yR:bY K mg "box_place" qo ["box"]
 xN:bY K mg "cell_place" o9 ["cell","high"]
 Dv:bY K mg "without" wF ["places","place"]
 FG:bY K mg "filled" z8 ["places","place","source"]
 Ct:bY K mg "sets_of" w5 ["entry"]
 Au:bY K mg "is_up_to" ub ["thing","top"]
 Dx:bY K mg "is_name" wZ ["thing"]
 CQ:bY K mg "is_part" wz ["part","kind","functions"]
 um:bY K mg "is_statement" lr ["statement","handed"]
 uH:bY K mg "lists_within" lD ["statement"]
 qa:bY K mg "are_statements" jB ["bodies","handed"]
 vw:bY K mg "is_function" mY ["function"]
 xg:bY K mg "is_program" nu ["program"]
 lS:bY K mg "asked_for_program" gC ["program"]
 BQ:bY K mg "is_home" wq ["home"]
 yY:bY K mg "are_homes" qj ["homes","functions"]
 E1:bY K mg "is_row" zE ["number","entries"]
 nP:bY K mg "has_wrong_place" iM ["entry"]
 vI:bY K mg "may_go_back" mJ ["row","entry"]
 rm:bY K mg "own_complaint" j7 ["row","entry"]
 rE:bY K mg "way_complaint" j4 ["row","entry","coming","entries"]
 ni:bY K mg "target_complaint" ij ["row","entries"]
 zc:bY K mg "each_once" qw ["numbers"]
 qd:bY K mg "row_complaints" jC ["code","entries","at"]
 lT:bY K mg "landing_complaint" gz ["code","entries","at","landing"]
 De:bY K mg "checked" wI ["code","table"]
 Dm:bY K mg "ways_on" wa ["code","landings","at"]
 GZ:bY K mg "reach" Bz ["heights","waiting","at","high"]
 xH:bY K mg "heights_of" nQ ["code","ways"]
 DP:bY K mg "narrow" yA ["sets","changed","at","places"]
 yb:bY K mg "places_of" qH ["code","ways","heights","first"]
 xD:bY K mg "entries_of" nW ["code","landings"]
 G9:∃ f fd,eJ K "guess" "guess" BI f fd/\mg "guess" = some (.ref f)/\Binds K fd ["code","landings"] []/\Binds K fd ["code","landings"] [.none]
 Dz:bY K mg "add_all" wM ["moves","statements","landing"]
 AQ:bY K mg "moves_of" tT ["body"]
 xE:bY K mg "plain_rows" n6 ["frame","move"]
 CJ:bY K mg "settled" wW ["row","places"]
 JR:∃ f fd,eJ K "made" "made" FN f fd/\mg "made" = some (.ref f)/\Binds K fd ["program","homes"] []/\Binds K fd ["program","homes"] [.none]
 vk:bY K mg "_law_cell_at" m_ ["_law_script","_law_k"]
 zk:bY K mg "_law_homes" qp ["_law_cell"]
 v9:bY K mg "_law_spoiled" mS ["_law_homes_here","_law_way","_law_cell"]
 vq:bY K mg "_law_refused" mI ["_law_program","_law_homes_here"]
 AM:bY K mg "_law_fits" tJ ["_law_found"]
 Rf:bY K mg "law" f9 ["_law_script"]
structure Ent where
 h:Int
 b:Int
 v4:Int
 v5:Int
 v6:Int
def Ent.cN (e:Ent):List Int:=[e.b,e.v4,e.v5,e.v6]
def g9 (K:W.Frag)(H:Hp)(p:Addr)(e:Ent):Prop:=∃ q,az K H p [.int e.h,.int e.b,.ref q]/\az K H q [.int e.v4,.int e.v5,.int e.v6]
variable {e:Ent} {p:Addr} {H H':Hp}
theorem g9.same {K:W.Frag}(h:g9 K H p e)(s:ah H H'):g9 K H' p e:=let ⟨q,h1,h2⟩:=h;⟨q,bf s h1,bf s h2⟩
def rS (K:W.Frag)(H:Hp)(v:V):Option Ent->Prop
 | none=>v=.ax
 | some e=>∃ p,v=.ref p/\g9 K H p e
theorem rS.same {K:W.Frag}{v:V}{oe:Option Ent}(h:rS K H v oe)(s:ah H H'):rS K H' v oe:=by
 cases oe with
 | none=>exact h
 | some e=>obtain⟨p,e1,e2⟩:=h;exact⟨p,e1,e2.same s⟩
def fc (K:W.Frag)(H:Hp)(vs:List V)(es:List (Option Ent)):Prop:=vs.length=es.length/\∀ (i:Nat) (oe:Option Ent),es[i]? = some oe->∃ v,vs[i]? = some v/\rS K H v oe
variable {es:List (Option Ent)}
theorem fc.same {K:W.Frag}{vs:List V}(h:fc K H vs es)(s:ah H H'):fc K H' vs es :=
 ⟨h.1,λi oe e=>let ⟨v,e1,e2⟩:=h.2 i oe e;⟨v,e1,e2.same s⟩⟩
def fu:Option Ent->PyData
 | none=>.none
 | some e=>.tuple [.int e.h,.int e.b,.tuple [.int e.v4,.int e.v5,.int e.v6]]
theorem rS.dp {K:W.Frag}{v:V}{oe:Option Ent}(h:rS K H v oe):Dp K H (fu oe) v:=by
 cases oe with
 | none=>cases h;exact Bl
 | some e =>
   obtain⟨p,rfl,q,h1,h2⟩:=h;exact eh h1 (aI (cG _) (aI (cG _) (aI (eh h2 (aI (cG _) (aI (cG _) (aI (cG _) b8)))) b8)))
theorem iT (e:Option Ent):shaped (fu e)=true:=by cases e <;> rfl
structure QV where
 r:Int
 a:Int
 b:Int
 c:Int
 n:Int
def RI (H:Hp)(v:V)(c:QV):Prop:=∃ t q,v=.ref t/\H t=some (.tup [.int c.r,.ref q,.int c.n])/\H q=some (.tup [.int c.a,.int c.b,.int c.c])
variable {Z : L2.St} {xs:List V}
theorem eV {K:W.Frag}{t:qx}{Q:L2.St->Hp->Prop}(h:az K H p xs)(hl:xs.length=n)(q:t xs Z H Q):Hn K n t (.ref p) Z H Q:=⟨p,xs,rfl,h,hl,q⟩
theorem Ju {t:TG}{u:qx}{v:V}{r:List V}{Q:L2.St->Hp->Prop}(q:t v Z H λZ' H'=>u r Z' H' Q):IZ t u (v::r) Z H Q:=⟨v,r,rfl,q⟩
theorem Nh {Q:L2.St->Hp->Prop}(q:Q Z H):Mu [] Z H Q:=⟨rfl,q⟩
theorem M7:aaY "dict" = some (.type "dict"):=by decide +kernel
def yC (l d:Addr):List (Str×V):=aj "landings" (.ref d) (aj "entries" (.ref l) [])
def xQ (K:W.Frag)(C:Addr):Sp:=λvs H Q _=>∃ (x dx pe:Addr) (lv:V) (xs:List V) (kvs:List (Key×V)),vs=[.ref x,.ref pe,lv]/\H x=some (.ins C dx [])/\av K H pe xs /\
 ((lv=.ax/\kvs=[])∨∃ pd,lv=.ref pd/\H pd=some (.dK kvs)) /\
 ∀ l d H',H l=none->H d=none->l≠d->(∀ b o,H b=some o->b≠x->H' b=some o)->H' x=some (.ins C dx (yC l d))->H' l=some (.lst xs)->H' d=some (.dK kvs)->Q .ax H'
def Nt (K:W.Frag):Sp:=λvs H Q _=>∃ (p:Addr) (e:Ent),vs=[.ref p]/\g9 K H p e/\∀ t,H t=none->Q (.ref t) (upd H t (.tup (e.cN.map V.int)))
theorem GA:aaY "sorted" = some (.builtin "sorted"):=by decide +kernel
def jz (a b:Option Ent):Bool:=adA (fu a) (fu b)
theorem LO {a b:Option Ent}(h:jz a b=true):a=b:=by
 cases a with
 | none=>cases b with
   | none=>rfl
   | some e=>simp[jz,fu,adA] at h
 | some e=>cases b with
   | none=>simp[jz,fu,adA] at h
   | some f =>
     obtain⟨h1,h2,h3,h4,h5⟩:=e;obtain⟨g1,g2,g3,g4,g5⟩:=f;simp[jz,fu,adA,PyData.eqvAll] at h;obtain⟨rfl,rfl,rfl,rfl,rfl⟩:=h;rfl
def Rw.here:Rw->Prop
 | .set ..=>True
 | .copy ..=>True
 | .add ..=>False
 | .sub ..=>False
 | .mul ..=>False
 | .less ..=>False
 | .grow ..=>True
 | .shrink ..=>True
 | .put ..=>True
 | .get ..=>True
 | .ck ..=>True
 | .branch ..=>False
 | .call ..=>False
 | .back ..=>True
 | .drop ..=>False
def Rw.isCall:Rw->Bool
 | .call _=>true
 | _=>false
def Rw.MZ:Rw->Bool
 | .back _=>true
 | _=>false
def aJ (a:aP)(H:Hp)(fI:List Addr)(rs:List Rw):Prop:=fI.length=rs.length/\∀ (i:Nat) (p:Addr) (r:Rw),fI[i]? = some p->rs[i]? = some r->br a H p r
variable {rs:List Rw} {fI:List Addr}
theorem aJ.to {a:aP}(h:aJ a H fI rs)(k:∀ p∈fI,∀ o,H p=some o->H' p=some o):aJ a H' fI rs :=
 ⟨h.1,λi p r e1 e2=>let ⟨dx,e⟩:=h.2 i p r e1 e2;⟨dx,k p (aad e1) _ e⟩⟩
theorem aJ.same {a:aP}(h:aJ a H fI rs)(s:ah H H'):aJ a H' fI rs:=h.to λ_ _ _ e=>s _ _ e
theorem aJ.nil {a:aP}:aJ a H [] []:=⟨rfl,λi p r e=>by simp at e⟩
variable {r:Rw}
theorem aJ.snoc {a:aP}(h:aJ a H fI rs)(q:br a H p r):aJ a H (fI++[p]) (rs++[r]):=by
 refine⟨by rw[aab,aab,h.1];rfl,λi p' r' e1 e2=>?_⟩;by_cases hi:i<rs.length
 . rw[aak (by rw[h.1]; exact hi)] at e1;rw[aak hi] at e2;exact h.2 i p' r' e1 e2
 . have Tz : i = rs.length := by
     have:=(List.getElem?_eq_some_iff.mp e2).1
     rw[aab] at this;simp at this;lia
   subst Tz;rw[aag (by lia)] at e2;rw[aag (by rw[h.1];lia),h.1] at e1;simp at e1 e2;subst e1 e2;exact q
theorem aJ.mem {a:aP}(h:aJ a H fI rs)(hp:p∈fI):∃ r,r∈rs/\br a H p r:=by
 obtain⟨i,hi,e⟩:=List.mem_iff_getElem.mp hp;have e1:fI[i]? = some p:=by rw[aac hi,e]
 have hi2:i<rs.length:=by rw[<- h.1];exact hi
 exact⟨rs[i],abu hi2,h.2 i p _ e1 (aac hi2)⟩
def aD (l:List (Int×Int)):List (Key×V):=l.map λp=>((Sum.inl p.1:Key),V.int p.2)
variable {c:Int}
theorem Hi {l:List (Int×Int)}{r:Int}(h:cV (aD l) (.inl c)=none):putK (aD l) (.inl c) (.int r)=aD (l++[(c,r)]):=by
 rw[zv _ h];unfold aD;rw[aal];rfl
def lv (ls:List (Int×Int))(k:Int):Int:=((ls.find? λp=>decide (p.1=k)).map (·.2)).getD 0
theorem rY:∀ {ls:List (Int×Int)},(ls.map (·.1)).Nodup->∀ p∈ls,cV (aD ls) (.inl p.1)=some (.int p.2)/\lv ls p.1=p.2
 | [],_,_,h=>nomatch h
 | (c, r) :: ls, hn, p, hp => by
   rw[aaQ,List.nodup_cons] at hn;rcases List.mem_cons.mp hp with rfl | hp
   . refine⟨?_,?_⟩
     . show cV ((Sum.inl c, V.int r) :: aD ls) (.inl c) = _;rw[jq rfl]
     . unfold lv;rw[abd,decide_eq_true rfl];rfl
   . have ne : ¬ c = p.1 := λz => hn.1 (List.mem_map.mpr ⟨p, hp, z.symm⟩);obtain ⟨i1,i2⟩:=rY hn.2 p hp;refine ⟨?_,?_⟩
     . show cV ((Sum.inl c, V.int r) :: aD ls) (.inl p.1) = _;rw[gH (λz=>ne (adh z))];exact i1
     . unfold lv at i2 ⊢;rw[abd,decide_eq_false ne];exact i2
theorem nz:∀ {ls:List (Int×Int)} {c:Int},c ∉ ls.map (·.1)->cV (aD ls) (.inl c)=none
 | [],_,_=>rfl
 | (d, r) :: ls, c, h => by
   rw[aaQ,aaX,not_or] at h;show cV ((Sum.inl d,V.int r)::aD ls) (.inl c)=_;rw[gH (λz=>h.1 (adh z).symm)];exact nz h.2
theorem EI (ls:List (Int×Int)):(aD ls).map (·.1)=(ls.map (·.1)).map Sum.inl:=by
 unfold aD;rw[abv,abv];rfl
theorem NK:aaY "any" = some (.builtin "any"):=by decide +kernel
inductive Wt where
 | place | aC | back | row | ax | start | call | length | b4 | b5 | b6
def Wt.v:Wt->V
 | .place=>.str "place" | .aC=>.str "height" | .back=>.str "back" | .row=>.str "row" | .ax=>.str "none" | .start=>.str "start" | .call=>.str "call" | .length=>.str "length"
 | .b4=>.int 4 | .b5=>.int 5 | .b6=>.int 6
def oV:Option Wt->V
 | none=>.ax
 | some w=>w.v
def jZ:Option Ent:=some ⟨0,128,16,32,64⟩
def de (h s:Int):Bool:=decide (s<=0) || !decide (s/2 ^ (8+h).toNat=0)
def cH (e:Ent):Bool:=decide (e.h<0) || (decide (4000<e.h) || e.cN.any (de e.h))
def jF (b:Int)(e:Ent):Bool:=decide (e.h=0) && ((aaP e.b ((2 ^ b.toNat:Nat):Int) != 0) && ((aaP e.v4 16 != 0) && ((aaP e.v5 32 != 0) && (aaP e.v6 64 != 0))))
def cX (r:Rw)(e:Ent):Option Wt:=if cH e=true then some .place else if r.aC e.h=none then some .aC else match r with | .back b=>if jF b e=true then none else some .back | _=>none
def cz (r:Rw)(e t:Ent):Option Wt:=if Bt.wo t.b.toNat (r.keep e.b.toNat e.h)≠0 then some .back else if Bt.wo t.v4.toNat (r.keep e.v4.toNat e.h)≠0 then some .b4 else if Bt.wo t.v5.toNat (r.keep e.v5.toNat e.h)≠0 then some .b5 else if Bt.wo t.v6.toNat (r.keep e.v6.toNat e.h)≠0 then some .b6 else none
def eG (r:Rw)(e:Ent)(c:Int)(es:List (Option Ent)):Option Wt:=if 0<=c/\c<es.length then (match es[c.toNat]?.join with | none=>some .ax | some t=>if r.aC e.h=some t.h then cz r e t else some .aC) else some .row
def dW (t:Int)(es:List (Option Ent)):Option Wt:=if 0<=t/\t<es.length then (if jz (es[t.toNat]?.join) jZ=true then none else some .start) else some .row
def Ent.nn (e:Ent):Prop:=0<=e.b/\0<=e.v4/\0<=e.v5/\0<=e.v6
def JY (K:W.Frag):Sp:=λvs H Q _=>∃ (n:Int) (p:Addr) (us:List V),vs=[.int n,.ref p]/\av K H p us/\Q (.bl (decide (0<=n/\n<us.length))) H
def J6 (K:W.Frag):Sp:=λvs H Q _=>∃ (p:Addr) (e:Ent),vs=[.ref p]/\g9 K H p e/\∀ H',ah H H'->Q (.bl (cH e)) H'
def Mg (K:W.Frag)(a:aP):Sp:=λvs H Q _=>∃ (x p:Addr) (b:Int) (e:Ent),vs=[.ref x,.ref p]/\br a H x (.back b)/\0<=b/\b<=7/\g9 K H p e/\∀ H',ah H H'->Q (.bl (jF b e)) H'
def Mb (K:W.Frag)(a:aP):Sp:=λvs H Q _=>∃ (x p:Addr) (r:Rw) (e:Ent),vs=[.ref x,.ref p]/\br a H x r/\r.ok/\r.here/\g9 K H p e/\∀ H',ah H H'->Q (oV (cX r e)) H'
def Mi (K:W.Frag)(a:aP):Sp:=λvs H Q _=>∃ (x p l:Addr) (c:Int) (r:Rw) (e:Ent) (ev:List V) (es:List (Option Ent)),vs=[.ref x,.ref p,.int c,.ref l]/\br a H x r/\r.ok/\r.here/\g9 K H p e/\e.nn/\0<=e.h/\e.h<=4000/\(r.aC e.h).isSome=true/\H l=some (.lst ev)/\fc K H ev es/\(∀ t,some t∈es->t.nn)/\∀ H',ah H H'->Q (oV (eG r e c es)) H'
def MO (K:W.Frag)(a:aP):Sp:=λvs H Q _=>∃ (x l:Addr) (t:Int) (ev:List V) (es:List (Option Ent)),vs=[.ref x,.ref l]/\br a H x (.call t)/\H l=some (.lst ev)/\fc K H ev es/\∀ H',ah H H'->Q (oV (dW t es)) H'
def once (ns:List Int):List Int:=ns.foldl (λt n=>if n∈t then t else t++[n]) []
def M3 (K:W.Frag):Sp:=λvs H Q _=>∃ (p:Addr) (ns:List Int),vs=[.ref p]/\av K H p (ns.map V.int)/\ns.length<=4000/\∀ q H',ah H H'->H' q=some (.lst ((once ns).map V.int))->Q (.ref q) H'
theorem EG (ns:List Int):(ns.map V.int).all fJ=true:=by rw[ab5];exact List.all_eq_true.mpr λ_ _=>rfl
theorem Gz (n:Int)(ns:List Int):qh (.int n) (ns.map V.int)=decide (n∈ns):=by
 unfold qh;rw[List.any_map]
 induction ns with
 | nil=>rfl
 | cons p ps ih =>
   rw[abh,ih];show(nF (.int p) (.int n) || _)=_;by_cases e:n=p
   . subst e;simp[nF]
   . have : ¬ p = n := λz => e z.symm;simp[nF,e,this]
theorem fc.at {K:W.Frag}{vs:List V}(h:fc K H vs es)(h0 : 0<=c)(h1:c<es.length):∃ v oe,cI vs c=some v/\es[c.toNat]? = some oe/\oe∈es/\rS K H v oe:=by
 have hi:c.toNat<es.length:=by omega
 obtain⟨v,e1,e2⟩:=h.2 c.toNat _ (aac hi);exact⟨v,_,by rw[show c=((c.toNat:Nat):Int) from by omega];exact cA e1,aac hi,abu hi,e2⟩
variable {q:Addr}
theorem y8 {K:W.Frag}{s:Addr}(h1:az K H s [.int 0,.int 128,.ref q])(h2:az K H q [.int 16,.int 32,.int 64]):Dp K H (fu jZ) (.ref s):=eh h1 (aI (cG _) (aI (cG _) (aI (eh h2 (aI (cG _) (aI (cG _) (aI (cG _) b8)))) b8)))
variable {Q:VK}
theorem Oy {K:W.Frag}{x y:V}(a b:Option Ent)(hx:Dp K H (fu a) x)(hy:Dp K H (fu b) y)(q:Q (.bl (jz a b)) H):BR K x y H Q:=.inr ⟨fu a,fu b,hx,hy,iT a,iT b,q⟩
theorem NM {K:W.Frag}{x y:V}(a b:Option Ent)(hx:Dp K H (fu a) x)(hy:Dp K H (fu b) y)(q:Q (.bl (!jz a b)) H):uY K x y H Q:=.inr ⟨fu a,fu b,hx,hy,iT a,iT b,q⟩
theorem Nd {w:Wt}(q:Q (.bl true) H):iS w.v .ax H Q:=⟨rfl,by rw[decide_eq_false (λz=>by cases w <;> cases z)];exact q⟩
structure Cm where
 i:Int
 at_:Int
 w:Wt
def E3 (H:Hp)(v:V)(c:Cm):Prop:=∃ q,v=.ref q/\H q=some (.tup [.int c.i,.int c.at_,c.w.v])
def bW (H:Hp)(vs:List V)(cs:List Cm):Prop:=vs.length=cs.length/\∀ (i:Nat) (c:Cm),cs[i]? = some c->∃ v,vs[i]? = some v/\E3 H v c
theorem E3.same {v:V}{c:Cm}(h:E3 H v c)(s:ah H H'):E3 H' v c:=let ⟨q,e,k⟩:=h;⟨q,e,s _ _ k⟩
variable {cs:List Cm}
theorem bW.same {vs:List V}(h:bW H vs cs)(s:ah H H'):bW H' vs cs:=⟨h.1,λi c e=>let ⟨v,e1,e2⟩:=h.2 i c e;⟨v,e1,e2.same s⟩⟩
theorem bW.nil:bW H [] []:=⟨rfl,λi c e=>by simp at e⟩
theorem bW.app {vs us:List V}{ds:List Cm}(h:bW H vs cs)(k:bW H us ds):bW H (vs++us) (cs++ds):=by
 refine⟨by rw[aab,aab,h.1,k.1],λi o e=>?_⟩;by_cases hi:i<cs.length
 . rw[aak hi] at e;obtain⟨u,e1,e2⟩:=h.2 i o e;exact⟨u,by rw[aak (by rw[h.1];exact hi)];exact e1,e2⟩
 . rw[aag (by lia)] at e;obtain⟨u,e1,e2⟩:=k.2 _ o e;exact⟨u,by rw[aag (by rw[h.1];lia),h.1];exact e1,e2⟩
theorem bW.one {v:V}{c:Cm}(h:E3 H v c):bW H [v] [c]:=⟨rfl,λi c' e=>by
 cases i with
 | zero=>simp at e;subst e;exact⟨v,rfl,h⟩
 | succ i=>simp at e⟩
def rW (r:Rw)(i:Int)(es:List (Option Ent)):List Cm:=match r with | .call t=>((dW t es).map λw=>Cm.mk i t w).toList | _=>[]
def rM (r:Rw)(e:Ent)(i:Int)(es:List (Option Ent)):List Cm:=match cX r e with
 | some w=>[⟨i,i,w⟩]
 | none=>((once (r.cP i)).filterMap λc=>(eG r e c es).map λw=>Cm.mk i c w)++rW r i es
def mw (rs:List Rw)(es:List (Option Ent))(i:Nat):List Cm:=match rs[i]?,es[i]?.join with
 | some r,some e=>rM r e i es
 | _,_=>[]
def jW (r:Rw)(oe:Option Ent)(at_:Int)(es:List (Option Ent)):Option Wt:=if r.isCall=true then (match oe with | none=>none | some e=>if (cX r e).isSome=true then none else eG r e at_ es) else some .call
def hJ (rs:List Rw)(es:List (Option Ent))(i at_:Int):Option Wt :=
 if 0<=i/\i<es.length then (match rs[i.toNat]?,es[i.toNat]?.join with
   | some r,oe=>jW r oe at_ es
   | none,_=>some .call) else some .call
structure GR (rs:List Rw)(es:List (Option Ent)):Prop where
 ok:∀ r∈rs,r.ok/\r.here
 nn:∀ t,some t∈es->t.nn
 nr:rs.length<=2000
 ne:es.length<=2000
def MN (K:W.Frag)(a:aP):Sp:=λvs H Q _=>∃ (c l:Addr) (i:Nat) (fI:List Addr) (rs:List Rw) (ev:List V) (es:List (Option Ent)),vs=[.ref c,.ref l,.int (i:Int)]/\H c=some (.lst (fI.map V.ref))/\aJ a H fI rs/\H l=some (.lst ev)/\fc K H ev es/\GR rs es/\i<rs.length/\rs.length=es.length /\
 ∀ p us H',ah H H'->H' p=some (.lst us)->bW H' us (mw rs es i)->H p=none->Q (.ref p) H'
def JV (K:W.Frag)(a:aP):Sp:=λvs H Q _=>∃ (c l:Addr) (i z:Int) (fI:List Addr) (rs:List Rw) (ev:List V) (es:List (Option Ent)),vs=[.ref c,.ref l,.int i,.int z]/\H c=some (.lst (fI.map V.ref))/\aJ a H fI rs/\H l=some (.lst ev)/\fc K H ev es/\GR rs es/\rs.length=es.length /\
 ∀ H',ah H H'->Q (oV (hJ rs es i z)) H'
def c_ (rs:List Rw)(es:List (Option Ent)):List Cm:=if 0<rs.length then (if jz (es[0]?.join) jZ=true then [] else [⟨-1,0,.start⟩]) else []
def ir (rs:List Rw)(es:List (Option Ent))(ls:List (Int×Int))(ks:List Int):List Cm:=ks.flatMap λk=>((hJ rs es k (lv ls k)).map λw=>Cm.mk k (lv ls k) w).toList
def fB (rs:List Rw)(es:List (Option Ent))(n:Nat):List Cm:=(aaU n).flatMap λi=>mw rs es i
def dU (rs:List Rw)(es:List (Option Ent))(ls:List (Int×Int))(ks:List Int):List Cm :=
 if es.length=rs.length then c_ rs es++fB rs es rs.length++ir rs es ls ks else [⟨-1,-1,.length⟩]
theorem qO (rs:List Rw)(es:List (Option Ent))(n:Nat):fB rs es (n+1)=fB rs es n++mw rs es n:=by
 unfold fB;rw[ab_,acF];simp
theorem Gn (r:Rw)(e:Ent)(i:Int)(es:List (Option Ent)):(rM r e i es).length<=10:=by
 unfold rM;split
 . exact aam rfl
 . rw[aab];have h1:=List.length_filterMap_le (λc=>(eG r e c es).map λw=>Cm.mk i c w) (once (r.cP i));have h2:(once (r.cP i)).length<=9:=by
     cases r <;> simp[Rw.cP,once]
     split <;> simp
   have h3:(rW r i es).length<=1:=by
     unfold rW;split
     . cases dW _ es <;> exact aam rfl
     . exact aaW _
   lia
theorem wL (rs:List Rw)(es:List (Option Ent))(i:Nat):(mw rs es i).length<=10:=by
 unfold mw;split
 . exact Gn _ _ _ _
 . exact aaW _
theorem mj (rs:List Rw)(es:List (Option Ent)):∀ n,(fB rs es n).length<=10*n
 | 0=>aai _
 | n + 1 => by
   rw[qO,aab]
   have:=mj rs es n
   have:=wL rs es n
   lia
theorem CO (rs:List Rw)(es:List (Option Ent)):(c_ rs es).length<=1:=by
 unfold c_;split
 . split <;> exact aam rfl
 . exact aaW _
def TabOf (K:W.Frag)(a:aP)(H:Hp)(t:Addr)(ev:List V)(ls:List (Int×Int)):Prop:=∃ dt l d,H t=some (.ins a.cM dt (yC l d))/\H l=some (.lst ev)/\H d=some (.dK (aD ls))
def Ky (K:W.Frag)(a:aP):Sp:=λvs H Q _=>∃ (c t:Addr) (fI:List Addr) (rs:List Rw) (ev:List V) (es:List (Option Ent)) (ls:List (Int×Int)),vs=[.ref c,.ref t]/\H c=some (.lst (fI.map V.ref))/\aJ a H fI rs/\TabOf K a H t ev ls/\fc K H ev es/\GR rs es/\(ls.map (·.1)).Nodup/\ls.length<64 /\
 ∀ p us ks H',ah H H'->H' p=some (.lst us)->(es.length=rs.length->ks.Perm (ls.map (·.1))/\ks.Pairwise (· <= ·))->bW H' us (dU rs es ls ks)->Q (.ref p) H'
structure Cn where
 P:Program
 w:World
 K:W.Frag
 mg:Str->Option Value
 base:Heap
 a:aP
def Cn.Good (c:Cn):Prop:=∀ (fa:Addr) (fd:abc),Txt c.w c.K c.mg c.a->dY c.K "law" "law" f9 fa fd->cW c.P c.w c.K c.mg c.base eA 11 fa fd ["_law_script"] (pM c.K)
theorem Cn.some:Nonempty Cn:=⟨⟨PySem.Challenge.pw_frameback_k61_what_is_not_made,⟨λ_ _=>0,{ strHash:=λ_=>0,shareClass:=λ_=>0,mergeTok:=id,idOf:=λ_=>0,idOfShared:=λ_ _=>0,followText:=λ_=>true,idOfImm:=λ_=>0 }⟩,[],λ_=>none,Classical.choice inferInstance,by constructor <;> exact(0:Nat)⟩⟩
noncomputable def cn:Cn:=@Classical.epsilon Cn Cn.some λc=>¬ c.Good
@[irreducible] noncomputable def P:Program:=cn.P
@[irreducible] noncomputable def w:World:=cn.w
@[irreducible] noncomputable def K:W.Frag:=cn.K
@[irreducible] noncomputable def mg:Str->Option Value:=cn.mg
@[irreducible] noncomputable def base:Heap:=cn.base
@[irreducible] noncomputable def a:aP:=cn.a
theorem Ly (h:∀ (fa:Addr) (fd:abc),Txt w K mg a->dY K "law" "law" f9 fa fd->cW P w K mg base eA 11 fa fd ["_law_script"] (pM K))(c:Cn):c.Good:=by
 delta P w K mg base a at h
 exact Classical.byContradiction λhn=>(@Classical.epsilon_spec Cn (λc=>¬ c.Good) ⟨c,hn⟩) h
abbrev FE:=iI P w K mg base eA
abbrev ME:=iQ P w K mg base eA
abbrev KE:=EO P w K mg base eA
abbrev TX:=Txt w K mg a
local macro_rules | `(tactic| walk_at "lk") => `(tactic| first | with_reducible assumption | (with_reducible exact lX) | (refine' A5 ?x ?y; (case x => decide +kernel); (case y => walk_at "lk")) | exact lX)
local macro_rules | `(tactic| walk_at "nolk") => `(tactic| first | with_reducible assumption | (with_reducible rfl) | (refine' BM ?x ?y; (case x => decide +kernel); (case y => walk_at "nolk")) | rfl)
set_option hygiene false
local macro_rules | `(tactic| walk_at "in") => `(tactic| ((focus (intro vs H Q E h; (repeat (first | (refine exE8 h ?_; clear h; intro _ _ _ _ _ _ _ _ h) | (refine exE4 h ?_; clear h; intro _ _ _ _ h) | (refine exE2 h ?_; clear h; intro _ _ h) | (refine Exists.elim h ?_; clear h; intro _ h))); first | exact congrArg adq h.1 | exact congrArg adq h | ((repeat (obtain ⟨_, h⟩ := h)); subst_vars; rfl))); intro f RK A outer s H vs Q E hr h))
set_option hygiene true
set_option hygiene false
local macro_rules | `(tactic| walk_at "t0") => `(tactic| first | (refine' aF ?_ ?_;walk_at "tS";walk_at "tB") | (refine' cv ?_;walk_at "tS"))
local macro_rules | `(tactic| walk_at "tB") => `(tactic| first | ((with_reducible refine' cv ?_);walk_at "tS") | ((with_reducible refine' aF ?_ ?_);walk_at "tS";walk_at "tB") | exact aT)
local macro_rules | `(tactic| walk_at "tS") => `(tactic| first
 | ((with_reducible refine' b9 ?_);walk_at"tE")
 | ((with_reducible refine' Ip ?_ ?_ ?_);walk_at"tT";walk_at"tB";walk_at"tB")
 | ((with_reducible refine' c9 ?_ ?_ ?_ ?_ ?_ ?_);walk_at"tn";walk_at"ti";walk_at"tl";walk_at"tE";exact rfl;walk_at"tl")
 | ((with_reducible refine' gM ?_ ?_ ?_ ?_);walk_at"tk";walk_at"tE";walk_at"tE";exact rfl)
 | ((with_reducible refine' cL ?_ ?_);walk_at"tE";exact rfl)
 | ((with_reducible refine' Lz ?_ ?_ ?_ ?_ ?_);walk_at"tE";walk_at"tG";exact rfl;exact rfl;exact rfl)
 | ((with_reducible refine' uG ?_ ?_ ?_ ?_ ?_ ?_);exact ab0;exact rfl;walk_at"tI";walk_at"tG";walk_at"tB";exact λ_=>rfl)
 | ((with_reducible refine' ma ?_ ?_ ?_);exact ab0;walk_at"tT";walk_at"tB")
 | (with_reducible exact ps_retN)
 | (with_reducible exact ps_break)
 | (with_reducible exact ps_continue)
 | (with_reducible exact ps_pass))
local macro_rules | `(tactic| walk_at "tI") => `(tactic| first
 | ((with_reducible refine' Nn (mg:=mg) ?_ ?_ ?_ ?_ ?_);exact rfl;walk_at"t3";exact rfl;walk_at"tA";exact rfl)
 | ((with_reducible refine' pi_rg2 (mg:=mg) ?_ ?_ ?_ ?_ ?_ ?_);exact rfl;walk_at"t3";exact rfl;walk_at"tA";exact rfl;exact rfl)
 | ((with_reducible refine' bj ?_ ?_);walk_at"tk";walk_at"tE"))
local macro_rules | `(tactic| walk_at "tG") => `(tactic| first
 | ((with_reducible refine' aM ?_ ?_ ?_ ?_);walk_at"tn";walk_at"ti";walk_at"tl";walk_at"tl")
 | ((with_reducible refine' fb ?_ ?_ ?_ ?_ ?_);walk_at"tk";exact rfl;walk_at"tH";exact rfl;exact rfl)
 | ((with_reducible refine' K2 ?_ ?_ ?_ ?_);walk_at"tE";walk_at"tE";exact set_list;exact λ_=>rfl))
local macro_rules | `(tactic| walk_at "tH") => `(tactic| first
 | (with_reducible exact eZ)
 | ((with_reducible refine' bR ?_ ?_ ?_);walk_at"tG";walk_at"tH";exact rfl))
local macro_rules | `(tactic| walk_at "tA") => `(tactic| first
 | ((with_reducible refine' aa ?_ ?_ ?_);walk_at"tE";walk_at"tA";exact rfl)
 | (with_reducible exact ao))
local macro_rules | `(tactic| walk_at "tT") => `(tactic| first
 | ((with_reducible refine' cC ?_ ?_ ?_ ?_);walk_at"tc";walk_at"tE";walk_at"tE";exact rfl)
 | ((with_reducible refine' Nm ?_ ?_);walk_at"tT";walk_at"tW")
 | ((with_reducible refine' Oq ?_ ?_);walk_at"tT";walk_at"tW")
 | ((with_reducible refine' dq ?_);walk_at"tT")
 | ((with_reducible refine' cJ ?_ ?_ ?_);walk_at"tk";walk_at"tE";exact λ_=>rfl))
local macro_rules | `(tactic| walk_at "tW") => `(tactic| first
 | ((with_reducible refine' Bq ?_);walk_at"tT")
 | ((with_reducible refine' hW ?_);walk_at"tT")
 | ((with_reducible refine' yo ?_ ?_);walk_at"tT";walk_at"tW")
 | ((with_reducible refine' fY ?_ ?_);walk_at"tT";walk_at"tW"))
local macro_rules | `(tactic| walk_at "tP") => `(tactic| first
 | (with_reducible exact vm)
 | ((with_reducible refine' vF ?_);walk_at"tE"))
local macro_rules | `(tactic| walk_at "tE") => `(tactic| first
 | ((with_reducible refine' ES ?_ ?_ ?_ ?_);walk_at"ti";walk_at"tl";exact Eq.refl false;exact Eq.refl false)
 | (with_reducible exact aH)
 | ((with_reducible refine' dD ?_ ?_ ?_);walk_at"tc";walk_at"tE";walk_at"tE")
 | ((with_reducible refine' bt ?_ ?_ ?_ ?_);walk_at"tc";walk_at"tE";walk_at"tE";exact λ_ _=>rfl)
 | ((with_reducible refine' OY (P:=P) (w:=w) (K:=K) (mg:=mg) (base:=base) ?_ ?_ ?_ ?_ ?_ ?_ ?_ ?_);rotate_left 1;exact⟨rfl,rfl,rfl,rfl,rfl⟩;walk_at"t3";walk_at"th";exact rfl;walk_at"tA";exact Eq.refl false;exact rfl;exact rfl)
 | ((with_reducible refine' aV ?_ ?_ ?_);walk_at"tk";walk_at"tE";exact rfl)
 | (with_reducible exact il)
 | ((with_reducible refine' iu ?_);walk_at"tA")
 | ((with_reducible refine' gj ?_);walk_at"tA")
 | ((with_reducible refine' KO (mg:=mg) ?_ ?_ ?_ ?_ ?_ ?_ ?_ ?_ ?_ ?_);rotate_left 1;exact rfl;walk_at"t3";walk_at"t3";walk_at"tc";exact rfl;walk_at"tA";exact Eq.refl false;decide;exact rfl;exact rfl)
 | (with_reducible exact eT)
 | (with_reducible exact IL)
 | ((with_reducible refine' Mx (mg:=mg) ?_ ?_ ?_ ?_ ?_ ?_ ?_ ?_ ?_ ?_);rotate_left 1;exact rfl;walk_at"t3";walk_at"t3";walk_at"tc";exact rfl;walk_at"tA";exact Eq.refl false;decide;exact rfl;exact rfl)
 | ((with_reducible refine' KJ (P:=P) (w:=w) (K:=K) (mg:=mg) (base:=base) ?_ ?_ ?_ ?_ ?_ ?_ ?_ ?_);rotate_left 1;exact⟨rfl,rfl,rfl,rfl,rfl⟩;walk_at"t3";walk_at"th";exact rfl;walk_at"tA";exact Eq.refl false;exact rfl;exact rfl)
 | ((with_reducible refine' Jl ?_ ?_ ?_ ?_ ?_ ?_ ?_ ?_);walk_at"tk";walk_at"tE";walk_at"tA";exact rfl;exact rfl;exact rfl;exact rfl;exact rfl)
 | ((with_reducible refine' Lq (P:=P) (w:=w) (K:=K) (mg:=mg) (base:=base) ?_ ?_ ?_ ?_ ?_ ?_ ?_ ?_);rotate_left 1;walk_at"t3";exact⟨rfl,rfl,rfl,rfl,rfl⟩;walk_at"tE";walk_at"th";walk_at"tA";exact rfl;exact rfl;exact rfl)
 | ((with_reducible refine' pe_meN0 (P:=P) (w:=w) (K:=K) (mg:=mg) (base:=base) ?_ ?_ ?_ ?_ ?_);rotate_left 1;walk_at"t3";exact⟨rfl,rfl,rfl,rfl,rfl⟩;walk_at"tE";walk_at"th";exact rfl)
 | ((with_reducible refine' rZ ?_ ?_ ?_ ?_);walk_at"tc";walk_at"tE";walk_at"tP";walk_at"tP")
 | ((with_reducible refine' gZ ?_ ?_ ?_ ?_);walk_at"tc";walk_at"tE";walk_at"tE";exact rfl)
 | ((with_reducible refine' MQ (mg:=mg) ?_ ?_ ?_ ?_);exact rfl;walk_at"t3";exact rfl;exact Eq.refl false)
 | ((with_reducible refine' Ld (mg:=mg) ?_ ?_ ?_ ?_);exact rfl;walk_at"t3";exact rfl;exact Eq.refl false)
 | ((with_reducible refine' zO ?_);walk_at"tE")
 | ((with_reducible refine' ON ?_ ?_);walk_at"tc";walk_at"tE")
 | ((with_reducible refine' jl ?_ ?_ ?_);walk_at"tT";walk_at"tE";walk_at"tE")
 | ((with_reducible refine' ib ?_);walk_at"tE")
 | ((with_reducible refine' fA ?_ ?_);walk_at"tE";walk_at"tE")
 | ((with_reducible refine' IS ?_ ?_);walk_at"tE";walk_at"tE")
 | (with_reducible exact yZ))
local macro_rules | `(tactic| walk_at "tl") => `(tactic| first | exact .inl rfl | exact .inr rfl | exact .inr (.inl rfl) | exact .inr (.inr rfl))
local macro_rules | `(tactic| walk_at "tn") => `(tactic| exact nd)
local macro_rules | `(tactic| walk_at "tk") => `(tactic| exact (rfl : _ = K))
local macro_rules | `(tactic| walk_at "tm") => `(tactic| exact (rfl : _ = mg))
local macro_rules | `(tactic| walk_at "tp") => `(tactic| exact (⟨rfl, rfl, rfl, rfl, rfl⟩ : _ = P /\ _ = w /\ _ = K /\ _ = mg /\ _ = base))
local macro_rules | `(tactic| walk_at "th") => `(tactic| exact hr.mono (by decide))
local macro_rules | `(tactic| walk_at "ti") => `(tactic| ((with_reducible first | refine QS nd ?_ | refine Rk nd ?_ | refine QU nd ?_ | refine RD nd ?_ | refine Rc nd ?_ | refine QZ nd ?_ | refine QO nd ?_ | refine Q9 nd ?_ | refine Rg nd ?_ | refine Rm nd ?_ | refine PU nd ?_ | refine gx11 nd ?_ | refine gx12 nd ?_ | refine gx13 nd ?_ | refine gx14 nd ?_ | refine gx15 nd ?_ | refine gx16 nd ?_ | refine gx17 nd ?_); rfl))
local macro_rules | `(tactic| walk_at "tc") => `(tactic| ((with_reducible first | exact ya | exact AX | exact Fw | exact BV | exact op_times | exact CC | exact p8 | exact CD | exact Ed | exact N_ | exact op_xor | exact Jf | exact E9 | exact vO | exact lW | exact ML | exact LV | exact call_int1 | refine' eR ?_ | refine' jj ?_ ?_ | refine' ou ?_ ?_ | refine' LS ?_ | refine' Et ?_ | refine' b_ ?_ | refine' HU ?_ | refine' bK ?_ | refine' CL ?_ | refine' cf ?_) <;> first | exact (rfl : _ = K) | exact hr.units))
local macro_rules | `(tactic| walk_at "t3") => `(tactic| with_reducible first | exact T.dm | exact du | exact Cu T | exact T.aY | exact aZ | exact T.DD | exact oK T | exact T.AO | exact T.va | exact T.E7 | exact vb T | exact T.Je | exact T.r_ | exact CA T | exact FU T | exact T.lL | exact lC | exact Kl T | exact oj "height" 1 | exact FP T | exact EB T | exact oj "here" 1 | exact oj "end_label" 2 | exact vR T | exact T.AH | exact xr T | exact qy T | exact oj "keeps" 3 | exact T.kz | exact rp T | exact T.Gj | exact oj "at_hand" 1 | exact DR T | exact oj "label" 1 | exact Aq T | exact T.sW | exact ue T | exact tf T | exact T.yk | exact xJ T | exact T.zC | exact Kh T | exact DF T | exact DH T | exact oj "cell_of" 1 | exact nX T | exact vY T | exact T.Eh | exact nh T | exact jk T | exact lP T | exact oj "goes" 1 | exact Cp T | exact Cc T | exact oj "stored" 4 | exact T.DG | exact T.Hb | exact oj "loaded" 4 | exact xu T | exact yq T | exact Ee T | exact oj "add_function" 7 | exact yg T | exact vM T)
local macro_rules | `(tactic| walk_at "s") => `(tactic| (refine NQ rfl (by dsimp only [L3.oE]) ?_))
local macro_rules | `(tactic| walk_at "h") => `(tactic| (refine' ⟨_, ?_, ?_⟩; rotate_left))
local macro_rules | `(tactic| walk_at "v") => `(tactic| (walk_at "t0"; walk_at "s"))
local macro_rules | `(tactic| walk_at "n") => `(tactic| (with_reducible refine' aF ?_ ?_))
local macro_rules | `(tactic| walk_at "m") => `(tactic| (with_reducible refine' cv ?_))
local macro_rules | `(tactic| walk_at "c") => `(tactic| (walk_at "n"; walk_at "tS"))
local macro_rules | `(tactic| walk_at "x") => `(tactic| (with_reducible refine' PS.gm ?_))
local macro_rules | `(tactic| walk_at "y") => `(tactic| (with_reducible refine' PT.gm ?_))
local macro_rules | `(tactic| walk_at "f") => `(tactic| (with_reducible refine' Ip ?_ ?_ ?_))
local macro_rules | `(tactic| walk_at "g") => `(tactic| ((with_reducible refine' uG ?_ ?_ ?_ ?_ ?_ ?_); exact ab0; exact rfl))
set_option hygiene true
local macro_rules | `(tactic| walk_at "rk") => `(tactic| repeat (first | (with_reducible first | refine JO ?_ | refine Lo ?_ | refine L0 ?_ | refine r_two ?_ | (refine' Hv ?x ?_; (case x => with_unfolding_all rfl)) | (refine' F9 ?x ?_; (case x => with_unfolding_all rfl)) | refine Nv ?_ | refine M_ ?_ | refine NA ?_ | refine r_notNr ?_ | refine JX ?_ | refine JN ?_ | refine PD ?_ | refine Qu ?_ | refine Ov ?_ | refine OM ?_ | refine LK ?_ | refine r_rng2 ?_ | refine ⟨_, rfl, ?_⟩) | (first | ((fail_if_success (fail_if_success (with_reducible refine Ji ?_))); (with_reducible refine λ_ _ => ?_)) | ((with_reducible refine' r_small ?x ?_); (case x => walk_at "small")) | ((with_reducible refine' Qf ?x ?y ?_); (case x => walk_at "tt"); (case y => walk_at "tt")) | ((with_reducible refine' r_62b ?x ?y ?z ?u ?_); (case x => walk_at "tt"); (case y => walk_at "tt"); (case z => walk_at "tt"); (case u => walk_at "tt")) | ((with_reducible refine' OH ?x ?_); (case x => walk_at "sql")) | ((with_reducible refine' Ob ?x ?_); (case x => walk_at "sqt")) | ((with_reducible refine' r_slI ?x ?_); (case x => walk_at "sql")) | ((with_reducible refine' OU ?x ?_); (case x => walk_at "sql")) | ((with_reducible refine' r_timesZ ?x ?y ?z ?_); (case x => walk_at "hlk"); (case y => walk_at "tt"); (case z => walk_at "tt")) | ((with_reducible refine' r_plusII ?x ?y ?z ?_); (case x => walk_at "hlk"); (case y => walk_at "hlk"); (case z => walk_at "small")) | ((with_reducible refine' Ox ?x ?_); (case x => walk_at "hlk")) | ((with_reducible refine' r_timesI ?h ?_); (case h => walk_at "cmul")) | ((with_reducible refine' r_sum ?h ?_); (case h => walk_at "sql")) | ((with_reducible refine' r_inT ?h ?x ?y ?_); (case h => walk_at "sqt"); (case x => rfl); (case y => rfl)) | ((with_reducible refine' r_clear ?x ?_); (case x => walk_at "hlk")) | ((with_reducible refine' rA ?x ?y ?_); (case x => walk_at "hlk"); (case y => walk_at "small")) | ((with_reducible refine' eY ?c ?t ?e ?_); (case c => exact λz => nomatch z); (case t => walk_at "ty"); (case e => walk_at "kit"))) | (first | ((with_reducible refine' Bf ?h ?_); (case h => first | exact ⟨by decide, by decide⟩ | (show (0 : Int) < _; first | decide | omega) | (show (0 : Int) <= _; first | decide | omega))) | ((with_reducible refine' Iv ?x ?_); (case x => intro hh; exact absurd hh (by decide)); intro _) | ((with_reducible refine' Iv ?_ ?x); (case x => intro hh; exact absurd hh (by decide)); intro _) | ((with_reducible refine' B9 ?x ?_); (case x => intro hh; exact absurd hh (by walk_at "nn")); intro _) | ((with_reducible refine' B9 ?_ ?x); (case x => intro hh; exact absurd (by walk_at "tt") hh); intro _) | ((with_reducible refine' jw ?x ?_); (case x => intro hh; exact absurd (by walk_at "tt") hh); intro _) | ((with_reducible refine' jw ?_ ?x); (case x => intro hh; exact absurd hh (by walk_at "nn")); intro _) | ((with_reducible refine' fH ?x ?_); (case x => intro hh; exact absurd hh (by walk_at "nn")); intro _) | ((with_reducible refine' fH ?_ ?x); (case x => intro hh; exact absurd (by walk_at "tt") hh); intro _) | ((with_reducible refine' sJ ?x ?_); (case x => intro hh; exact absurd (by walk_at "tt") hh); intro _) | ((with_reducible refine' sJ ?_ ?x); (case x => intro hh; exact absurd hh (by walk_at "nn")); intro _)) | (first | ((with_reducible refine' FL ?a ?b ?_); (case a => omega); (case b => omega)) | ((with_reducible refine' r_withBox ?h ?a ?b ?_); (case h => walk_at "sql"); (case a => omega); (case b => omega)) | ((with_reducible refine' F8 ?h ?a ?_); (case h => walk_at "sql"); (case a => omega)) | (with_reducible refine r_whole ?_) | (with_reducible refine DS ?_) | (with_reducible refine Gq ?_) | ((with_reducible refine' J8 ?a ?b ?_); (case a => omega); (case b => omega)) | ((with_reducible refine' HN ?a ?b ?c ?_); (case a => omega); (case b => omega); (case c => omega)) | ((with_reducible refine' r_setI ?x ?y ?z ?_); (case x => walk_at "hlk"); (case y => walk_at "tt"); (case z => walk_at "tt")) | ((with_reducible refine' r_setIN ?x ?y ?z ?_); (case x => walk_at "hlk"); (case y => walk_at "tt"); (case z => walk_at "tt")) | ((with_reducible refine' CV ?h ?e ?_); (case h => walk_at "sqt"); (case e => walk_at "at")) | ((with_reducible refine' Og ?h ?e ?_); (case h => walk_at "sql"); (case e => walk_at "at")) | (with_reducible refine r_gSub ?_)) | (first | (with_reducible refine Nd ?_) | (with_reducible refine r_isW ?_) | (with_reducible refine J3 ?_) | (with_reducible refine MT ?_) | (with_reducible refine N9 ?_) | (with_reducible refine LZ ?_) | (with_reducible refine Ll ?_) | (with_reducible refine LL ?_) | (with_reducible refine r_makeD _ _ _ ?_) | (with_reducible refine r_bitlen ?_) | (with_reducible refine r_tyI ?_) | (with_reducible refine r_low ?_) | (with_reducible refine Ju ?_) | (with_reducible refine Nh ?_) | ((with_reducible refine' eV ?x ?y ?_); (case x => walk_at "sqt"); (case y => with_unfolding_all rfl)) | ((with_reducible refine' K7 ?x ?_); (case x => walk_at "hlk")) | ((with_reducible refine' kJ ?x ?y ?_); (case x => walk_at "hlk"); (case y => walk_at "small")) | ((with_reducible refine' bA ?x ?y ?z ?_); (case x => walk_at "hlk"); (case y => walk_at "hlk"); (case z => walk_at "small"))) | ((with_reducible refine' IF ?h ?_); (case h => rfl)) | ((with_reducible refine' I_ ?h ?_); (case h => rfl)) | ((with_reducible refine' FI ?h ?c ?n ?l ?_); (case h => walk_at "hlk"); (case c => walk_at "cls"); (case n => walk_at "noat"); (case l => walk_at "lk"))))
section
variable {l:Addr}
theorem gL {A:Hp}{b:Addr}{x:HO}(h:(upd A l x) b=none):A b=none/\b≠l:=by
 by_cases e:b=l
 . rw[e,U] at h;cases h
 . rw[af e] at h;exact⟨h,e⟩
def cj (rs:List Rw)(ls:List (Int×Int))(i:Nat):List Int:=match rs[i]? with
 | some r=>r.cP i++(if r.isCall=true/\(i:Int)∈ls.map (·.1) then [lv ls i] else [])
 | none=>[]
inductive RH (rs:List Rw) (ls:List (Int×Int)):Int->Int->Prop
 | start:RH rs ls 0 0
 | way {i:Nat} {h h' w:Int} {r:Rw}:RH rs ls (i:Int) h->rs[i]? = some r->r.aC h=some h'->w∈cj rs ls i->RH rs ls w h'
 | call {i:Nat} {h t:Int}:RH rs ls (i:Int) h->rs[i]? = some (.call t)->RH rs ls t 0
def uc (rs:List Rw)(ls:List (Int×Int)):Prop:=∃ (i h:Int),RH rs ls i h/\(i<0∨(rs.length:Int)<=i∨(∃ r,rs[i.toNat]? = some r/\r.aC h=none)∨∃ h2,RH rs ls i h2/\h2≠h)
structure sh (rs:List Rw)(ls:List (Int×Int))(hs:List (Option Int)):Prop where
 len:hs.length=rs.length
 rh:∀ (i:Nat) (h:Int),hs[i]? = some (some h)->RH rs ls (i:Int) h
 start:hs[0]? = some (some 0)
 cl:∀ (i:Nat) (h:Int) (r:Rw),hs[i]? = some (some h)->rs[i]? = some r->∃ h',r.aC h=some h'/\∀ w∈cj rs ls i,0<=w/\hs[w.toNat]? = some (some h')
 tg:∀ (i:Nat) (h t:Int),hs[i]? = some (some h)->rs[i]? = some (.call t)->0<=t/\hs[t.toNat]? = some (some 0)
def nV (k:Nat):V:=.int (k:Int)
def pH (H:Hp)(ly:Addr)(rs:List Rw)(ls:List (Int×Int)):Prop:=∃ Sh:List Addr,H ly=some (.lst (Sh.map V.ref))/\Sh.length=rs.length/\∀ (i:Nat) (p:Addr),Sh[i]? = some p->H p=some (.lst ((cj rs ls i).map V.int))
variable {ls:List (Int×Int)}
theorem pH.same {ly:Addr}(h:pH H ly rs ls)(s:ah H H'):pH H' ly rs ls:=let ⟨Sh,h1,h2,h3⟩:=h;⟨Sh,s _ _ h1,h2,λi p e=>s _ _ (h3 i p e)⟩
def G5 (K:W.Frag)(a:aP):Sp:=λvs H Q _=>∃ (c d:Addr) (i:Nat) (fI:List Addr) (rs:List Rw) (ls:List (Int×Int)),vs=[.ref c,.ref d,.int (i:Int)]/\H c=some (.lst (fI.map V.ref))/\aJ a H fI rs/\(∀ r∈rs,r.ok/\r.here)/\H d=some (.dK (aD ls))/\(ls.map (·.1)).Nodup/\i<rs.length /\
 ∀ p H',ah H H'->H p=none->H' p=some (.lst ((cj rs ls i).map V.int))->Q (.ref p) H'
def BP (a:aP):Sp:=λvs H Q E=>∃ (lh lw:Addr) (n SO:Int) (hs:List (Option Int)) (ws:List Nat),vs=[.ref lh,.ref lw,.int n,.int SO]/\H lh=some (.lst (hs.map aO))/\H lw=some (.lst (ws.map nV))/\hs.length<=2000/\ws.length<=2000/\-10000<=n/\n<=10000/\lh≠lw /\
 ((n<0∨(hs.length:Int)<=n∨∃ h2,hs[n.toNat]? = some (some h2)/\h2≠SO)->E (.ref a.dk) none H)/\(0<=n->hs[n.toNat]? = some (some SO)->Q .ax H) /\
 (0<=n->hs[n.toNat]? = some none->Q .ax (upd (upd H lh (.lst ((hs.set n.toNat (some SO)).map aO))) lw (.lst ((ws++[n.toNat]).map nV))))
def bo (ks:List Nat):List (Key×V):=ks.map λk:Nat=>((Sum.inl (k:Int):Key),V.bl true)
def bX:Option Nat->V
 | none=>.ax
 | some s=>.int (s:Int)
def jb (ks:List Nat)(k:Nat):List Nat:=if k∈ks then ks else ks++[k]
def iP (o:Option Nat)(p:Nat):Nat:=match o with
 | none=>p
 | some s=>s &&& p
def y0:Sp:=λvs H Q _=>∃ (Ww dc:Addr) (n p:Nat) (ss:List (Option Nat)) (ks:List Nat) (o:Option Nat),vs=[.ref Ww,.ref dc,.int (n:Int),.int (p:Int)]/\H Ww=some (.lst (ss.map bX))/\H dc=some (.dK (bo ks))/\ss.length<=2000/\ks.length<=2000/\ks.Nodup/\ss[n]? = some o /\
 (o=some (iP o p)->Q .ax H)/\(o≠some (iP o p)->Q .ax (upd (upd H Ww (.lst ((ss.set n (some (iP o p))).map bX))) dc (.dK (bo (jb ks n)))))
theorem BU {k:Nat}(h:k<n):mC n (k:Int)=some k:=by
 unfold mC;rw[if_pos (by lia),if_pos (by lia)];rfl
variable {ks:List Nat}
theorem G8 (n:Nat):putK (bo ks) (.inl (n:Int)) (.bl true)=bo (jb ks n):=by
 unfold putK jb;have e:((bo ks).any λkv=>decide (kv.1=(Sum.inl (n:Int):Key)))=decide (n∈ks):=by
   unfold bo;rw[List.any_map]
   induction ks with
   | nil=>rfl
   | cons k r ih =>
     rw[abh,ih];by_cases h:k=n
     . subst h;simp
     . have h2 : ¬ n = k := λz => h z.symm;have h3 : ¬ ((Sum.inl (k:Int):Key)=Sum.inl (n:Int)):=λz=>h (by have:=adh z;lia);simp only[Function.comp_apply,aaX,h2,false_or];rw[decide_eq_false h3,abC]
 rw[e];by_cases h:n∈ks
 . rw[if_pos (decide_eq_true h),if_pos h];unfold bo;rw[abv];refine congrArg (λf=>ks.map f) (funext λk=>?_);show(if _ then _ else _)=_;split <;> rfl
 . rw[if_neg (by rw[decide_eq_false h]; exact aaw), if_neg h];unfold bo;rw[aal];rfl
theorem JJ (h:ks.Nodup)(n:Nat):(jb ks n).Nodup:=by
 unfold jb;split
 . exact h
 . rename_i hn;exact List.nodup_append.mpr ⟨h,(by simp),λa ha b hb=>by rw[List.mem_singleton.mp hb];exact λz=>hn (z ▸ ha)⟩
theorem DO (ks:List Nat):(bo ks).map (·.1)=(ks.map λk:Nat=>(k:Int)).map Sum.inl:=by
 unfold bo;rw[abv,abv];rfl
variable {α : Type}
theorem pE (f : α->V)(xs:List α)(n:Nat)(x : α):(xs.map f).set n (f x)=(xs.set n x).map f:=by rw[List.map_set]
theorem lM {n:Int}(h1 : -10000<=n)(h2:n<=10000):n.natAbs.log2<1900:=by
 by_cases h:n.natAbs=0
 . rw[h];decide
 . exact(Nat.log2_lt h).mpr (aaB (show n.natAbs<2 ^ 14 by omega) (aby (by decide) (by decide)))
def x8 (ls:List (Int×Int)):Prop:=(ls.map (·.1)).Nodup/\ls.length<64/\∀ p∈ls,-10000<=p.2/\p.2<=10000
theorem K3 {k:Int}(h:k∈ls.map (·.1)):∃ p∈ls,lv ls k=p.2:=by
 unfold lv;obtain⟨p,hp,e⟩:=List.mem_map.mp h;cases hf:ls.find? λp=>decide (p.1=k) with
 | none =>
   have:=List.find?_eq_none.mp hf p hp
   rw[decide_eq_true e] at this;exact absurd rfl this
 | some q=>exact⟨q,List.mem_of_find?_eq_some hf,rfl⟩
variable {i:Nat}
theorem Ci (au:∀ r∈rs,r.ok/\r.here)(hl:x8 ls)(hn:rs.length<=2000):∀ w∈cj rs ls i,-10000<=w/\w<=10000:=by
 intro w hw;unfold cj at hw;cases h:rs[i]? with
 | none=>rw[h] at hw;cases hw
 | some r =>
   rw[h] at hw;have hi:=(List.getElem?_eq_some_iff.mp h).1;have ho:=(au r (aad h)).1;rcases List.mem_append.mp hw with hw | hw
   . cases r <;> simp only[Rw.cP,aaX,aa0,or_false] at hw <;> simp only[Rw.ok,dz,isVal,eC,CN] at ho <;> lia
   . split at hw
     . rename_i hc;rw[List.mem_singleton.mp hw];obtain⟨p,hp,e⟩:=K3 hc.2;rw[e];exact hl.2.2 p hp
     . cases hw
def nN (hs:List (Option Int)):Nat:=(hs.filter λo=>o.isNone).length
theorem zo:∀ {hs:List (Option Int)} {n:Nat} {x:Int},hs[n]? = some none->nN (hs.set n (some x))+1=nN hs
 | [],n,x,h=>by simp at h
 | o :: r, 0, x, h => by
   have e:o=none:=by simpa using h
   subst e;rfl
 | o :: r, n + 1, x, h => by
   have ih:=@zo r n x (by simpa using h);unfold nN at ih ⊢;rw[acb,ac4,ac4];split
   . rw[aaq,aaq];lia
   . exact ih
theorem Mq (n:Nat):nN (aaL n none)=n:=by
 unfold nN;rw[List.filter_eq_self.mpr (λa ha=>by rw[List.eq_of_mem_replicate ha];rfl),aao]
def MU (rs:List Rw)(ls:List (Int×Int))(hs:List (Option Int))(i:Nat):Prop:=∀ (h:Int) (r:Rw),hs[i]? = some (some h)->rs[i]? = some r ->
 (∃ h',r.aC h=some h'/\∀ w∈cj rs ls i,0<=w/\hs[w.toNat]? = some (some h'))/\∀ t,r=.call t->0<=t/\hs[t.toNat]? = some (some 0)
structure HI (rs:List Rw)(ls:List (Int×Int))(hs:List (Option Int))(ws:List Nat)(ex:Option Nat):Prop where
 len:hs.length=rs.length
 rh:∀ (i:Nat) (h:Int),hs[i]? = some (some h)->RH rs ls (i:Int) h
 IH:∀ k∈ws,∃ h,hs[k]? = some (some h)
 cl:∀ i,i ∉ ws->some i≠ex->MU rs ls hs i
 wK:ws.length+nN hs<=hs.length
variable {hs:List (Option Int)}
theorem gq {x h:Int}(e:hs[n]? = some none)(hi:hs[i]? = some (some h)):(hs.set n (some x))[i]? = some (some h):=by
 have ne:n≠i:=λz=>by rw[z,hi] at e;cases e
 rw[aaT ne];exact hi
theorem HI.new {ws:List Nat}{ex:Option Nat}{x:Int}(I:HI rs ls hs ws ex)(e:hs[n]? = some none)(r:RH rs ls (n:Int) x):HI rs ls (hs.set n (some x)) (ws++[n]) ex:=by
 have hn:=(List.getElem?_eq_some_iff.mp e).1;refine⟨by rw[abx];exact I.len,λi h hi=>?_,λk hk=>?_,λi hi hx h r' hh hr'=>?_,?_⟩
 . by_cases z:n=i
   . subst z;rw[aaS hn] at hi;cases hi;exact r
   . rw[aaT z] at hi;exact I.rh i h hi
 . rcases List.mem_append.mp hk with hk | hk
   . obtain⟨h, hh⟩ := I.IH k hk;exact⟨h,gq e hh⟩
   . rw[List.mem_singleton.mp hk];exact⟨x,aaS hn⟩
 . have z : n ≠ i := λz => hi (aaz _ (List.mem_singleton.mpr z.symm));rw[aaT z] at hh;obtain⟨⟨h',a1,a2⟩,a3⟩:=I.cl i (λhm=>hi (aa5 _ hm)) hx h r' hh hr';exact⟨⟨h',a1,λw hw=>⟨(a2 w hw).1,gq e (a2 w hw).2⟩⟩,λt ht=>⟨(a3 t ht).1,gq e (a3 t ht).2⟩⟩
 . have h1 := zo (x := x) e;have h2:=I.wK;rw[aab,abx];show _+1+_<=_;lia
def NN (K:W.Frag)(a:aP):Sp:=λvs H Q E=>∃ (c ly:Addr) (fI:List Addr) (rs:List Rw) (ls:List (Int×Int)),vs=[.ref c,.ref ly]/\H c=some (.lst (fI.map V.ref))/\aJ a H fI rs/\(∀ r∈rs,r.ok/\r.here)/\0<rs.length/\rs.length<=2000/\x8 ls/\pH H ly rs ls /\
 (uc rs ls->∀ H',ah H H'->E (.ref a.dk) none H')/\∀ l hs H',ah H H'->H l=none->H' l=some (.lst (hs.map aO))->sh rs ls hs->Q (.ref l) H'
theorem HI.reach {ws:List Nat}{ex:Option Nat}{n x:Int}(I:HI rs ls hs ws ex)(r:RH rs ls n x):(n<0∨(hs.length:Int)<=n∨∃ h2,hs[n.toNat]? = some (some h2)/\h2≠x)->uc rs ls:=by
 intro hb;by_cases h0:n<0
 . exact⟨n,x,r,.inl h0⟩
 . rcases hb with hb | hb | ⟨h2,e2,n2⟩
   . exact absurd hb h0
   . exact⟨n,x,r,.inr (.inl (by rw[<- I.len];exact hb))⟩
   . have e3 := I.rh _ _ e2;rw[show((n.toNat:Nat):Int)=n by lia] at e3;exact⟨n,x,r,.inr (.inr (.inr ⟨h2,e3,n2⟩))⟩
theorem HI.close {ws:List Nat}{k:Nat}(I:HI rs ls hs ws (some k))(c:MU rs ls hs k):HI rs ls hs ws none:=⟨I.len,I.rh,I.IH,λi hi _=>by
 by_cases z:i=k
 . rw[z];exact c
 . exact I.cl i hi (λe=>z (aap e)),I.wK⟩
theorem sr:∀ (n:Nat) (ks:List Nat),ks.Nodup->(∀ k∈ks,k<n)->ks.length<=n
 | 0, ks, _, h => by
   cases ks with
   | nil=>exact aai _
   | cons k r=>exact absurd (h k (aa_ ..)) (adj k)
 | n + 1, ks, S_, h => by
   by_cases hm:n∈ks
   . have := sr n (ks.erase n) (S_.erase n) λk hk => by
       have h1:=S_.mem_erase_iff.mp hk
       have:=h k h1.2
       have:=h1.1
       lia
     rw[List.length_erase_of_mem hm] at this;lia
   . have := sr n ks S_ λk hk => by
       have h1:=h k hk;have h2:k≠n:=λz=>hm (z ▸ hk)
       lia
     lia
def Sub (x y:Nat):Prop:=x &&& y=x
variable {x y:Nat}
theorem Sub.iff:Sub x y ↔ ∀ i,x.testBit i=true->y.testBit i=true:=by
 unfold Sub
 constructor
 . intro h i hi
   have:=congrArg (λz=>z.testBit i) h
   simp only[abm,hi,abi] at this;exact this
 . intro h;apply acB;intro i;rw[abm];cases hx:x.testBit i with
   | false=>rfl
   | true=>rw[h i hx];rfl
theorem Sub.refl (x:Nat):Sub x x:=Nat.and_self x
theorem Sub.trans {z:Nat}(h:Sub x y)(k:Sub y z):Sub x z:=Sub.iff.mpr λi hi=>Sub.iff.mp k i (Sub.iff.mp h i hi)
theorem Sub.left (x y:Nat):Sub (x &&& y) x:=Sub.iff.mpr λi hi=>by rw[abm,aah] at hi;exact hi.1
theorem Sub.right (x y:Nat):Sub (x &&& y) y:=Sub.iff.mpr λi hi=>by rw[abm,aah] at hi;exact hi.2
theorem Sub.both {g:Nat}(h:Sub g x)(k:Sub g y):Sub g (x &&& y):=Sub.iff.mpr λi hi=>by rw[abm,Sub.iff.mp h i hi,Sub.iff.mp k i hi];rfl
theorem Fn {p:Nat}(h:Sub x y):Sub (Bt.wo x p) (Bt.wo y p):=Sub.iff.mpr λi hi=>by
 rw[Bt.uN,aah] at hi ⊢;exact⟨Sub.iff.mp h i hi.1,hi.2⟩
theorem Fd {p q:Nat}(h:Sub x y):Sub (gr x p q) (gr y p q):=by
 unfold gr;by_cases hx:x &&& q=0
 . rw[if_pos hx];by_cases hy:y &&& q=0
   . rw[if_pos hy];exact Fn h
   . rw[if_neg hy];refine Sub.iff.mpr λi hi=>?_;rw[Bt.uN,aah] at hi;rw[Nat.testBit_or,Sub.iff.mp h i hi.1];rfl
 . have hy : ¬ y &&& q = 0 := λz => hx (by
     apply acB;intro i
     have:=congrArg (λz=>z.testBit i) z
     simp only[abm,Nat.zero_testBit] at this ⊢;cases hxi:x.testBit i with
     | false=>rfl
     | true=>rw[Sub.iff.mp h i hxi] at this;exact this)
   rw[if_neg hx,if_neg hy];refine Sub.iff.mpr λi hi=>?_;rw[Nat.testBit_or,Bool.or_eq_true] at hi ⊢;rcases hi with hi | hi
   . exact .inl (Sub.iff.mp h i hi)
   . exact .inr hi
theorem HM (r:Rw)(h:Int)(k:Sub x y):Sub (r.keep x h) (r.keep y h):=by
 cases r
 all_goals first | exact k | exact Fn k | exact Fd k
theorem Cz (x p:Nat):Bt.wo x p<=x:=by
 have:Sub (Bt.wo x p) x:=Sub.iff.mpr λi hi=>by rw[Bt.uN,aah] at hi;exact hi.1
 rw[<- this];exact ac6
theorem gS {p q:Nat}(h:x<2 ^ n)(k:p<2 ^ n):gr x p q<2 ^ n:=by
 unfold gr;split
 . exact aa1 (Cz _ _) h
 . exact Nat.or_lt_two_pow h k
theorem JA {h:Int}(ho:r.ok)(h0 : 0<=h)(h1:h<=4000)(hx:x<2 ^ 4100):r.keep x h<2 ^ 4100:=by
 have om:∀ m:Nat,m<4100->2 ^ m<2 ^ 4100:=λm hm=>adp (by decide) hm;cases r
 case copy=>exact gS hx (om _ (by simp only[Rw.ok,dz] at ho;omega))
 case put=>exact gS hx (om _ (by simp only[Rw.ok,dz,eC] at ho;omega))
 case get=>exact gS hx (om _ (by simp only[Rw.ok,dz,eC] at ho;omega))
 all_goals first | exact hx | exact aa1 (Cz _ _) hx
theorem F3 {h h':Int}(ho:r.ok)(hb : 0<=h/\h<=4000)(hh:r.aC h=some h') : 0<=h'/\h'<=4000:=by
 cases r
 case grow m =>
   simp only[Rw.aC] at hh;simp only[Rw.ok,eC] at ho;split at hh
   . cases hh
   . have:=aap hh;lia
 case shrink m =>
   simp only[Rw.aC] at hh;simp only[Rw.ok,eC] at ho;split at hh
   . cases hh
   . have:=aap hh;lia
 case put b c =>
   simp only[Rw.aC] at hh;split at hh
   . cases hh
   . have:=aap hh;lia
 case get b c =>
   simp only[Rw.aC] at hh;split at hh
   . cases hh
   . have:=aap hh;lia
 all_goals (have:=aap (show some h=some h' from hh);lia)
theorem C9 (au:∀ r∈rs,r.ok/\r.here){i h:Int}(r:RH rs ls i h) : 0<=h/\h<=4000:=by
 induction r with
 | start=>exact⟨by decide,by decide⟩
 | way _ hr hh _ ih=>exact F3 (au _ (aad hr)).1 ih hh
 | call=>exact⟨by decide,by decide⟩
def Cons (rs:List Rw)(ls:List (Int×Int))(hs:List (Option Int))(first:Nat)(g:Nat->Nat):Prop:=Sub (g 0) first/\∀ (i:Nat) (h:Int) (r:Rw),hs[i]? = some (some h)->rs[i]? = some r->(∀ w∈cj rs ls i,Sub (g w.toNat) (r.keep (g i) h))/\∀ t,r=.call t->Sub (g t.toNat) first
def MW (rs:List Rw)(ls:List (Int×Int))(hs:List (Option Int))(first:Nat)(ss:List (Option Nat))(i:Nat):Prop:=∀ (s:Nat) (h:Int) (r:Rw),ss[i]? = some (some s)->hs[i]? = some (some h)->rs[i]? = some r ->
 (∀ w∈cj rs ls i,∃ s',ss[w.toNat]? = some (some s')/\Sub s' (r.keep s h))/\∀ t,r=.call t->∃ s',ss[t.toNat]? = some (some s')/\Sub s' first
structure PI (rs:List Rw)(ls:List (Int×Int))(hs:List (Option Int))(first:Nat)(ss:List (Option Nat))(Sq:Nat->Prop):Prop where
 len:ss.length=rs.length
 rd:∀ (i s:Nat),ss[i]? = some (some s)->∃ h,hs[i]? = some (some h)
 bd:∀ (i s:Nat),ss[i]? = some (some s)->s<2 ^ 4100
 cl:∀ i,¬ Sq i->MW rs ls hs first ss i
 up:∀ g,Cons rs ls hs first g->∀ (i s:Nat),ss[i]? = some (some s)->Sub (g i) s
def fk (ss ss':List (Option Nat)):Prop:=∀ (i s:Nat),ss[i]? = some (some s)->∃ s',ss'[i]? = some (some s')/\Sub s' s
theorem fk.refl (ss:List (Option Nat)):fk ss ss:=λi s h=>⟨s,h,Sub.refl s⟩
theorem fk.trans {a b c:List (Option Nat)}(h:fk a b)(k:fk b c):fk a c:=λi s e=>by
 obtain⟨s1,e1,q1⟩:=h i s e;obtain⟨s2,e2,q2⟩:=k i s1 e1;exact⟨s2,e2,q2.trans q1⟩
def bN:List (Option Nat)->Nat
 | []=>0
 | none::r=>2 ^ 4200+bN r
 | some s::r=>s+bN r
theorem rB:∀ {ss:List (Option Nat)} {n:Nat} {o:Option Nat} {x:Nat},ss[n]? = some o->(∀ s,o=some s->x<s)->x<2 ^ 4200->bN (ss.set n (some x))<bN ss
 | [],n,o,x,h,_,_=>by simp at h
 | none::r,0,o,x,h,_,hx=>by show x+bN r<2 ^ 4200+bN r;lia
 | some s :: r, 0, o, x, h, k, _ => by
   have:=k s (by simpa using h.symm)
   show x+bN r<s+bN r;lia
 | none :: r, n + 1, o, x, h, k, hx => by
   have:=rB (ss:=r) (n:=n) (o:=o) (x:=x) (by simpa using h) k hx
   show 2 ^ 4200+bN (r.set n (some x))<2 ^ 4200+bN r;lia
 | some s :: r, n + 1, o, x, h, k, hx => by
   have:=rB (ss:=r) (n:=n) (o:=o) (x:=x) (by simpa using h) k hx
   show s+bN (r.set n (some x))<s+bN r;lia
section
variable {rs:List Rw} {ls:List (Int×Int)} {hs:List (Option Int)} {first:Nat} {ss:List (Option Nat)} {Sq:Nat->Prop} {n p:Nat} {o:Option Nat}
theorem zr (ho:ss[n]? = some o):fk ss (ss.set n (some (iP o p))):=λi s e=>by
 have hn:=(List.getElem?_eq_some_iff.mp ho).1;by_cases z:n=i
 . subst z;rw[ho] at e;cases e
   exact⟨_,aaS hn,Sub.left s p⟩
 . exact⟨s,by rw[aaT z];exact e,Sub.refl s⟩
theorem Bh (ho:ss[n]? = some o)(Tp:o≠some (iP o p))(hb:p<2 ^ 4100):bN (ss.set n (some (iP o p)))<bN ss:=by
 have om:(2:Nat) ^ 4100<2 ^ 4200:=adp (by decide) (by decide);refine rB ho (λs e=>?_) ?_
 . subst e;have h1:s &&& p<=s:=Nat.and_le_left;have h2:s &&& p≠s:=λz=>Tp (by show some s=some (s &&& p);rw[z]);show s &&& p<s;lia
 . cases o with
   | none=>show p<_;lia
   | some s=>exact aa1 (show s &&& p<=p from ac6) (by lia)
theorem PI.narrow (I:PI rs ls hs first ss Sq)(ho:ss[n]? = some o)(hh:∃ h,hs[n]? = some (some h))(hb:p<2 ^ 4100)(hg:∀ g,Cons rs ls hs first g->Sub (g n) p):PI rs ls hs first (ss.set n (some (iP o p))) (λi=>Sq i∨i=n):=by
 have hn:=(List.getElem?_eq_some_iff.mp ho).1;have hl:=zr (p:=p) ho;have hleft:Sub (iP o p) p:=by cases o with | none=>exact Sub.refl p | some s=>exact Sub.right s p
 refine⟨by rw[abx];exact I.len,λi s e=>?_,λi s e=>?_,λi hi s h r e1 e2 e3=>?_,λg cg i s e=>?_⟩
 . by_cases z:n=i
   . subst z;exact hh
   . rw[aaT z] at e;exact I.rd i s e
 . by_cases z:n=i
   . subst z;rw[aaS hn] at e;cases e
     cases o with
     | none=>exact hb
     | some s=>exact aa1 (show s &&& p<=p from ac6) hb
   . rw[aaT z] at e;exact I.bd i s e
 . have z : n ≠ i := λz => hi (.inr z.symm);rw [aaT z] at e1;obtain ⟨a1,a2⟩:=I.cl i (λk=>hi (.inl k)) s h r e1 e2 e3;refine ⟨λw hw=>?_,λt ht=>?_⟩
   . obtain⟨s', b1, b2⟩ := a1 w hw;obtain⟨s2,c1,c2⟩:=hl _ _ b1;exact⟨s2,c1,c2.trans b2⟩
   . obtain⟨s', b1, b2⟩ := a2 t ht;obtain⟨s2,c1,c2⟩:=hl _ _ b1;exact⟨s2,c1,c2.trans b2⟩
 . by_cases z:n=i
   . subst z;rw[aaS hn] at e;cases e
     cases o with
     | none=>exact hg g cg
     | some s0=>exact(I.up g cg n s0 ho).both (hg g cg)
   . rw[aaT z] at e;exact I.up g cg i s e
theorem PI.weak {pend':Nat->Prop}(I:PI rs ls hs first ss Sq)(h:∀ i,Sq i->pend' i):PI rs ls hs first ss pend':=⟨I.len,I.rd,I.bd,λi hi=>I.cl i λk=>hi (h i k),I.up⟩
theorem PI.done {pend':Nat->Prop}(I:PI rs ls hs first ss Sq)(h:∀ i,¬ pend' i->¬ Sq i∨MW rs ls hs first ss i):PI rs ls hs first ss pend':=⟨I.len,I.rd,I.bd,λi hi=>by
 rcases h i hi with k | k
 . exact I.cl i k
 . exact k,I.up⟩
end
structure kn (rs:List Rw)(ls:List (Int×Int))(hs:List (Option Int))(first:Nat)(ss:List (Option Nat)):Prop where
 pi:PI rs ls hs first ss (λ_=>False)
 st:∃ s0,ss[0]? = some (some s0)/\Sub s0 first
def O1 (K:W.Frag)(a:aP):Sp:=λvs H Q _=>∃ (c ly lh:Addr) (fI:List Addr) (rs:List Rw) (ls:List (Int×Int)) (hs:List (Option Int)) (first:Nat),vs=[.ref c,.ref ly,.ref lh,.int (first:Int)]/\H c=some (.lst (fI.map V.ref))/\aJ a H fI rs/\(∀ r∈rs,r.ok/\r.here)/\0<rs.length/\rs.length<=2000/\x8 ls/\pH H ly rs ls/\H lh=some (.lst (hs.map aO))/\sh rs ls hs/\first<2 ^ 4100 /\
 ∀ l ss H',ah H H'->H l=none->H' l=some (.lst (ss.map bX))->kn rs ls hs first ss->Q (.ref l) H'
variable {first:Nat}
theorem yy {ss:List (Option Nat)}(P:kn rs ls hs first ss){i h:Int}(r:RH rs ls i h):∃ s,ss[i.toNat]? = some (some s):=by
 induction r with
 | start=>obtain⟨s0,e,_⟩:=P.st;exact⟨s0,e⟩
 | way _ hr hh hw ih =>
   obtain⟨s,e⟩:=ih;rw[aaA] at e;obtain⟨h0,e0⟩:=P.pi.rd _ _ e;obtain⟨s',e',_⟩:=(P.pi.cl _ (λz=>z) s h0 _ e e0 hr).1 _ hw;exact⟨s',e'⟩
 | call _ hr ih =>
   obtain⟨s,e⟩:=ih;rw[aaA] at e;obtain⟨h0,e0⟩:=P.pi.rd _ _ e;obtain⟨s',e',_⟩:=(P.pi.cl _ (λz=>z) s h0 _ e e0 hr).2 _ rfl;exact⟨s',e'⟩
theorem sF {ss:List (Option Nat)}(O:sh rs ls hs)(P:kn rs ls hs first ss){h:Int}(e:hs[i]? = some (some h)):∃ s,ss[i]? = some (some s):=by
 obtain⟨s,e1⟩:=yy P (O.rh i h e);rw[aaA] at e1;exact⟨s,e1⟩
structure Rr (rs:List Rw)(ls:List (Int×Int))(hs:List (Option Int))(sb s4 s5 s6:List (Option Nat)):Prop where
 ht:sh rs ls hs
 pb:kn rs ls hs 128 sb
 p4:kn rs ls hs 16 s4
 p5:kn rs ls hs 32 s5
 p6:kn rs ls hs 64 s6
def gN (ss:List (Option Nat))(i:Nat):Int:=(((ss[i]?).join).getD 0:Nat)
def d5 (hs:List (Option Int))(sb s4 s5 s6:List (Option Nat))(i:Nat):Option Ent:=((hs[i]?).join).map λh=>⟨h,gN sb i,gN s4 i,gN s5 i,gN s6 i⟩
structure yu (rs:List Rw)(ls:List (Int×Int))(es:List (Option Ent)):Prop where
 len:es.length=rs.length
 of : 0<rs.length->∃ (hs:List (Option Int)) (sb s4 s5 s6:List (Option Nat)),Rr rs ls hs sb s4 s5 s6/\∀ i,i<rs.length->es[i]? = some (d5 hs sb s4 s5 s6 i)
def Mr (K:W.Frag)(a:aP):Sp:=λvs H Q E=>∃ (c d:Addr) (fI:List Addr) (rs:List Rw) (ls:List (Int×Int)),vs=[.ref c,.ref d]/\H c=some (.lst (fI.map V.ref))/\aJ a H fI rs/\(∀ r∈rs,r.ok/\r.here)/\rs.length<=2000/\x8 ls/\H d=some (.dK (aD ls)) /\
 ((0<rs.length/\uc rs ls)->∀ H',ah H H'->E (.ref a.dk) none H')/\∀ l ev es H',ah H H'->H l=none->H' l=some (.lst ev)->fc K H' ev es->yu rs ls es->Q (.ref l) H'
def P2 (K:W.Frag)(a:aP)(H H':Hp)(t:Addr)(ev:List V)(ls:List (Int×Int)):Prop:=∃ dt l d,H l=none/\H d=none/\H' t=some (.ins a.cM dt (yC l d))/\H' l=some (.lst ev)/\H' d=some (.dK (aD ls))
def vj (K:W.Frag)(a:aP):Sp:=λvs H Q E=>∃ (c:Addr) (lvv:V) (fI:List Addr) (rs:List Rw) (ls:List (Int×Int)),vs=[.ref c,lvv]/\H c=some (.lst (fI.map V.ref))/\aJ a H fI rs/\(∀ r∈rs,r.ok/\r.here)/\rs.length<=2000/\x8 ls/\((lvv=.ax/\ls=[])∨∃ d,lvv=.ref d/\H d=some (.dK (aD ls))) /\
 (((0<rs.length/\uc rs ls)∨∃ es ks,yu rs ls es/\ks.Perm (ls.map (·.1))/\dU rs es ls ks≠[])->∀ H',ah H H'->E (.ref a.dk) none H') /\
 ∀ t ev es ks H',ah H H'->H t=none->P2 K a H H' t ev ls->fc K H' ev es->yu rs ls es->ks.Perm (ls.map (·.1))->dU rs es ls ks=[]->Q (.ref t) H'
theorem Jc (G:yu rs ls es):∀ t,some t∈es->t.nn:=by
 intro t ht;obtain⟨i,hi,e⟩:=List.getElem_of_mem ht;have hn:i<rs.length:=by rw[<- G.len];exact hi
 obtain⟨hs,sb,s4,s5,s6,_,he⟩:=G.of (by lia);have e1:=he i hn;rw[aac hi,e] at e1;have e2:d5 hs sb s4 s5 s6 i=some t:=(aap e1).symm;unfold d5 at e2;obtain⟨h,_,e3⟩:=Option.map_eq_some_iff.mp e2;rw[<- e3];exact⟨aaO _,aaO _,aaO _,aaO _⟩
def Ny (H:Hp)(v:V):Option Ent->Prop
 | none=>v=.ax
 | some e=>∃ p q,v=.ref p/\H p=some (.tup [.int e.h,.int e.b,.ref q])/\H q=some (.tup [.int e.v4,.int e.v5,.int e.v6])
def mP (H:Hp)(vs:List V)(es:List (Option Ent)):Prop:=vs.length=es.length/\∀ (i:Nat) (oe:Option Ent),es[i]? = some oe->∃ v,vs[i]? = some v/\Ny H v oe
theorem mP.to {vs:List V}(h:mP H vs es)(k:∀ b xs,H b=some (.tup xs)->H' b=some (.tup xs)):mP H' vs es:=⟨h.1,λi oe e=>by
 obtain⟨v,e1,e2⟩:=h.2 i oe e;refine⟨v,e1,?_⟩;cases oe with
 | none=>exact e2
 | some en=>obtain⟨p,q,a1,a2,a3⟩:=e2;exact⟨p,q,a1,k _ _ a2,k _ _ a3⟩⟩
theorem mP.nil:mP H [] []:=⟨rfl,λi oe e=>by simp at e⟩
theorem mP.snoc {vs:List V}{v:V}{o:Option Ent}(h:mP H vs es)(q:Ny H v o):mP H (vs++[v]) (es++[o]):=by
 refine⟨by rw[aab,aab,h.1];rfl,λi oe e=>?_⟩;by_cases hi:i<es.length
 . rw[aak hi] at e;obtain⟨v',e1,e2⟩:=h.2 i oe e;exact⟨v',by rw[aak (by rw[h.1];exact hi)];exact e1,e2⟩
 . rw[aag (by lia)] at e;cases hj:i - es.length with
   | zero =>
     rw[hj] at e
     have:o=oe:=by simpa using e
     subst this;exact⟨v,by rw[aag (by rw[h.1];lia),h.1,hj];rfl,q⟩
   | succ j=>rw[hj] at e;simp at e
theorem mP.ents {K:W.Frag}{vs:List V}(h:mP H vs es):fc K H vs es:=⟨h.1,λi oe e=>by
 obtain⟨v,e1,e2⟩:=h.2 i oe e;refine⟨v,e1,?_⟩;cases oe with
 | none=>exact e2
 | some en=>obtain⟨p,q,a1,a2,a3⟩:=e2;exact⟨p,a1,q,az.of a2,az.of a3⟩⟩
variable {o:HO} {ys:List V}
theorem pO (h:H l=some (.lst ys))(b:Addr)(xs:List V)(e:H b=some (.tup xs)):(upd H l o) b=some (.tup xs):=by
 rw[af (λz=>by subst z;rw[h] at e;cases e)];exact e
def firstsD:List Nat:=[128,16,32,64]
variable {dx:Addr}
theorem Il {K:W.Frag}{C pe x:Addr}{lv:V}{kvs:List (Key×V)}{R:VK}{E:XK}(hx:H x=none)(TC:H dx=none)(h1:av K H pe xs)(h2:(lv=.ax/\kvs=[])∨∃ pd,lv=.ref pd/\H pd=some (.dK kvs))
   (q:∀ l d H',ah H H'->H l=none->H d=none->l≠d->x≠l->x≠d->H' x=some (.ins C dx (aj "landings" (.ref d) (aj "entries" (.ref l) [])))->H' l=some (.lst xs)->H' d=some (.dK kvs)->R .ax H') :
   xQ K C [.ref x,.ref pe,lv] (upd (upd H dx (.own x)) x (.ins C dx [])) R E:=by
 have s1:ah H (upd (upd H dx (.own x)) x (.ins C dx [])):=λb o e=>by rw[af (ae e hx),af (ae e TC)];exact e
 refine⟨x,dx,pe,lv,xs,kvs,rfl,U,ah.seq s1 h1,?_,λl d H' nl nd Ue kp SG hl' VW=>?_⟩
 . rcases h2 with h2 | ⟨pd,e,h2⟩
   . exact .inl h2
   . exact .inr ⟨pd,e,s1 _ _ h2⟩
 . have Vg := eO nl;have nd1:=eO nd;exact q l d H' (λb o e=>kp b o (s1 b o e) (ae e hx)) (eO Vg.1).1 (eO nd1.1).1 Ue Vg.2.symm nd1.2.symm SG hl' VW
theorem GK {ns:List Int}(h:c∈once ns):c∈ns:=by
 have gen:∀ (ns t:List Int),c∈ns.foldl (λt n=>if n∈t then t else t++[n]) t->c∈ns∨c∈t:=by
   intro ns
   induction ns with
   | nil=>intro t h;exact .inr h
   | cons n r ih =>
     intro t h;rw[List.foldl_cons] at h;rcases ih _ h with h | h
     . exact .inl (aa8 _ h)
     . by_cases hn:n∈t
       . rw[if_pos hn] at h;exact .inr h
       . rw[if_neg hn] at h;rcases List.mem_append.mp h with h | h
         . exact .inr h
         . rw[List.mem_singleton.mp h];exact .inl (aa_ ..)
 rcases gen ns [] h with h | h
 . exact h
 . cases h
structure Lb (rs:List Rw)(es:List (Option Ent))(ls:List (Int×Int)):Prop where
 len:es.length=rs.length
 start : 0<rs.length->es[0]?.join=jZ
 own:∀ (i:Nat) (r:Rw) (e:Ent),rs[i]? = some r->es[i]?.join=some e->cX r e=none
 way:∀ (i:Nat) (r:Rw) (e:Ent) (c:Int),rs[i]? = some r->es[i]?.join=some e->c∈r.cP i->eG r e c es=none
 Ic:∀ (i:Nat) (t:Int) (e:Ent),rs[i]? = some (.call t)->es[i]?.join=some e->dW t es=none
 land:∀ k∈ls.map (·.1),hJ rs es k (lv ls k)=none
theorem OD {ks:List Int}(L:Lb rs es ls)(hp:ks.Perm (ls.map (·.1))):dU rs es ls ks=[]:=by
 unfold dU;rw[if_pos L.len];refine List.append_eq_nil_iff.mpr ⟨List.append_eq_nil_iff.mpr ⟨?_,?_⟩,?_⟩
 . unfold c_;by_cases h : 0<rs.length
   . rw[if_pos h,L.start h,if_pos (by unfold jz;decide +kernel)]
   . rw[if_neg h]
 . unfold fB;refine List.flatMap_eq_nil_iff.mpr λi _=>?_;unfold mw;cases hr:rs[i]? with
   | none=>rfl
   | some r =>
     cases he:es[i]?.join with
     | none=>rfl
     | some e =>
       show rM r e i es=[]
       unfold rM;rw[L.own i r e hr he];refine List.append_eq_nil_iff.mpr ⟨?_,?_⟩
       . rw[List.filterMap_eq_nil_iff];intro c hc;rw[L.way i r e c hr he (GK hc)];rfl
       . unfold rW;split
         . rename_i t;rw[L.Ic i t e hr he];rfl
         . rfl
 . unfold ir;refine List.flatMap_eq_nil_iff.mpr λk hk=>?_;rw[L.land k (hp.mem_iff.mp hk)];rfl
theorem Fk (h:eG r e c es=none) : 0<=c/\c<es.length/\∃ t,es[c.toNat]?.join=some t/\r.aC e.h=some t.h/\cz r e t=none:=by
 unfold eG at h;by_cases hb : 0<=c/\c<es.length
 . rw[if_pos hb] at h;refine⟨hb.1,hb.2,?_⟩;cases ht:es[c.toNat]?.join with
   | none=>rw[ht] at h;cases h
   | some t =>
     rw[ht] at h;have h:(if r.aC e.h=some t.h then cz r e t else some Wt.aC)=none:=h;by_cases hh:r.aC e.h=some t.h
     . rw[if_pos hh] at h;exact⟨t,rfl,hh,h⟩
     . rw[if_neg hh] at h;cases h
 . rw[if_neg hb] at h;cases h
variable {t:Ent}
theorem KI (h0 : 0<=c)(h1:c<es.length)(ht:es[c.toNat]?.join=some t)(hh:r.aC e.h=some t.h)(hl:cz r e t=none):eG r e c es=none:=by
 unfold eG;rw[if_pos ⟨h0,h1⟩,ht];show(if r.aC e.h=some t.h then cz r e t else some Wt.aC)=none;rw[if_pos hh];exact hl
theorem fT:Bt.wo x y=0 ↔ Sub x y:=by
 have h1:x &&& y<=x:=Nat.and_le_left;show x - (x &&& y)=0 ↔ x &&& y=x
 lia
theorem px (h:cz r e t=none):Sub t.b.toNat (r.keep e.b.toNat e.h)/\Sub t.v4.toNat (r.keep e.v4.toNat e.h)/\Sub t.v5.toNat (r.keep e.v5.toNat e.h)/\Sub t.v6.toNat (r.keep e.v6.toNat e.h):=by
 unfold cz at h;split at h;cases h
 split at h;cases h
 split at h;cases h
 split at h;cases h
 rename_i a b c d;exact⟨fT.mp (aci a),fT.mp (aci b),fT.mp (aci c),fT.mp (aci d)⟩
theorem JD (h:Sub t.b.toNat (r.keep e.b.toNat e.h)/\Sub t.v4.toNat (r.keep e.v4.toNat e.h)/\Sub t.v5.toNat (r.keep e.v5.toNat e.h)/\Sub t.v6.toNat (r.keep e.v6.toNat e.h)):cz r e t=none:=by
 obtain⟨h1,h2,h3,h4⟩:=h;unfold cz;rw[if_neg (λz=>z (fT.mpr h1)),if_neg (λz=>z (fT.mpr h2)),if_neg (λz=>z (fT.mpr h3)),if_neg (λz=>z (fT.mpr h4))]
theorem vQ {t:Int}(h:dW t es=none) : 0<=t/\t<es.length/\es[t.toNat]?.join=jZ:=by
 unfold dW at h;by_cases hb : 0<=t/\t<es.length
 . rw[if_pos hb] at h;by_cases he:jz (es[t.toNat]?.join) jZ=true
   . exact⟨hb.1,hb.2,LO he⟩
   . rw[if_neg he] at h;cases h
 . rw[if_neg hb] at h;cases h
theorem Lb.M5 (L:Lb rs es ls){w:Int}(hr:rs[i]? = some r)(he:es[i]?.join=some e)(hw:w∈cj rs ls i):eG r e w es=none:=by
 unfold cj at hw;rw[hr] at hw;have hw:w∈r.cP i++(if r.isCall=true/\(i:Int)∈ls.map (·.1) then [lv ls i] else []):=hw;rcases List.mem_append.mp hw with hw | hw
 . exact L.way i r e w hr he hw
 . split at hw
   . rename_i hc;rw[List.mem_singleton.mp hw];have z:=L.land _ hc.2;unfold hJ at z;have hi:=(List.getElem?_eq_some_iff.mp hr).1;rw[if_pos ⟨aaO _,by rw[L.len];omega⟩,aaA,hr,he] at z;have z:jW r (some e) (lv ls i) es=none:=z;unfold jW at z;rw[if_pos hc.1] at z;have z:(if (cX r e).isSome=true then none else eG r e (lv ls i) es)=none:=z;rw[L.own i r e hr he] at z;exact z
   . cases hw
theorem Lb.rh (L:Lb rs es ls)(h0 : 0<rs.length){i h:Int}(R:RH rs ls i h) : 0<=i/\i<rs.length/\∃ e,es[i.toNat]?.join=some e/\e.h=h:=by
 induction R with
 | start=>exact⟨by decide,by omega,_,L.start h0,rfl⟩
 | way _ hr hh hw ih =>
   obtain⟨_,_,e,he,rfl⟩:=ih;rw[aaA] at he;obtain⟨c0,c1,t,ht,hth,_⟩:=Fk (L.M5 hr he hw);rw[hh] at hth;exact⟨c0,by rw[<- L.len];exact c1,t,ht,(aap hth).symm⟩
 | call _ hr ih =>
   obtain⟨_,_,e,he,rfl⟩:=ih;rw[aaA] at he;obtain⟨t0,t1,ht⟩:=vQ (L.Ic _ _ e hr he);exact⟨t0,by rw[<- L.len];exact t1,_,ht,rfl⟩
theorem iO (h:cX r e=none):r.aC e.h≠none/\cH e=false:=by
 unfold cX at h;by_cases hw:cH e=true
 . rw[if_pos hw] at h;cases h
 . rw[if_neg hw] at h;refine⟨λz=>?_,Bool.eq_false_iff.mpr hw⟩;rw[if_pos z] at h;cases h
theorem Lb.good (L:Lb rs es ls) : ¬ (0<rs.length/\uc rs ls):=by
 rintro⟨h0,i,h,R,hb⟩;obtain⟨i0,i1,e,he,rfl⟩:=L.rh h0 R;rcases hb with z | z | ⟨r,hr,hn⟩ | ⟨h2,R2,Tp⟩
 . lia
 . lia
 . exact(iO (L.own _ r e hr he)).1 hn
 . obtain⟨_, _, e2, UB, rfl⟩ := L.rh h0 R2;rw[he] at UB;cases UB
   exact Tp rfl
theorem Sub.CZ (h:Sub x y)(k:Sub y x):x=y:=by
 have h1:x &&& y=x:=h;have h2:y &&& x=y:=k;rw[<- h1,Nat.and_comm];exact h2
theorem Sub.le (h:Sub x y):x<=y:=by
 have h1:x &&& y=x:=h;rw[<- h1];exact ac6
theorem Sub.pos (h:Sub x y)(hx:x≠0):y≠0:=λz=>by
 have h1:x &&& y=x:=h;rw[z,Nat.and_zero] at h1;exact hx h1.symm
theorem Sub.and {m:Nat}(h:Sub x y)(hx:x &&& m≠0):y &&& m≠0:=by
 refine Sub.pos (x:=x &&& m) (Sub.iff.mpr λi hi=>?_) hx;rw[abm,aah] at hi ⊢;exact⟨Sub.iff.mp h i hi.1,hi.2⟩
theorem EK {m:Nat}(hx:x<2 ^ (n+m)):Bt.wo x ((2 ^ m - 1)*2 ^ n)<2 ^ n:=by
 refine Nat.lt_pow_two_of_testBit _ λj hj=>?_;rw[Bt.uN];by_cases h:j<n+m
 . have e : ((2 ^ m - 1) * 2 ^ n).testBit j = true := by
     rw[Nat.testBit_mul_two_pow,Nat.testBit_two_pow_sub_one]
     simp;lia
   rw[e];simp
 . have e : x.testBit j = false := Nat.testBit_lt_two_pow (aaB hx (aby (by decide) (by lia)));rw[e];rfl
theorem JS {h h':Int}(ho:r.ok)(h0 : 0<=h)(hx:x<2 ^ (8+h).toNat)(hh:r.aC h=some h'):r.keep x h<2 ^ (8+h').toNat:=by
 have om:∀ m n:Nat,m<n->2 ^ m<2 ^ n:=λm n hm=>adp (by decide) hm;cases r
 case grow m =>
   simp only[Rw.aC] at hh;simp only[Rw.ok,eC] at ho;split at hh
   . cases hh
   . have e := aap hh;exact aaB hx (aby (by decide) (by lia))
 case shrink m =>
   simp only[Rw.aC] at hh;simp only[Rw.ok,eC] at ho;split at hh
   . cases hh
   . have e := aap hh;have e1:(8+h').toNat=(8+h - m).toNat:=by lia
     rw[e1];refine EK (x:=x) (n:=(8+h - m).toNat) (m:=m.toNat) ?_;rw[show(8+h - m).toNat+m.toNat=(8+h).toNat by lia];exact hx
 case put b c =>
   simp only[Rw.aC] at hh;simp only[Rw.ok,dz,eC] at ho;split at hh
   . cases hh
   . have e := aap hh;subst e;exact gS hx (om _ _ (by lia))
 case get b c =>
   simp only[Rw.aC] at hh;simp only[Rw.ok,dz,eC] at ho;split at hh
   . cases hh
   . have e := aap hh;subst e;exact gS hx (om _ _ (by lia))
 case copy b o =>
   have e:=aap (show some h=some h' from hh);subst e;simp only[Rw.ok,dz] at ho;exact gS hx (om _ _ (by lia))
 all_goals (
   have e:=aap (show some h=some h' from hh);subst e;first | exact hx | exact aa1 (Cz _ _) hx)
def gE (f:Ent->Int)(es:List (Option Ent))(i:Nat):Nat:=match es[i]?.join with
 | some e=>(f e).toNat
 | none=>0
theorem tW {f:Ent->Int}(h:es[i]?.join=some e):gE f es i=(f e).toNat:=by unfold gE;rw[h]
theorem cons_of (L:Lb rs es ls)(O:sh rs ls hs)(h0 : 0<rs.length){f:Ent->Int}(RU:(f ⟨0,128,16,32,64⟩).toNat=first)
   (hk:∀ r e t,cz r e t=none->Sub (f t).toNat (r.keep (f e).toNat e.h)):Cons rs ls hs first (gE f es):=by
 refine⟨by rw[tW (L.start h0),RU];exact Sub.refl _,λi h r hi hr=>?_⟩;obtain⟨_,_,e,he,rfl⟩:=L.rh h0 (O.rh i h hi);rw[aaA] at he;refine⟨λw hw=>?_,λt ht=>?_⟩
 . obtain⟨_, _, t, ht, _, hl⟩ := Fk (L.M5 hr he hw);rw[tW ht,tW he];exact hk r e t hl
 . subst ht;obtain⟨_,_,SU⟩:=vQ (L.Ic i t e hr he);rw[tW SU,RU];exact Sub.refl _
theorem OG {ss:List (Option Nat)}(au:∀ r∈rs,r.ok/\r.here)(O:sh rs ls hs)(P:kn rs ls hs first ss)(hf:first<256)(hu:∀ i a b,RH rs ls i a->RH rs ls i b->a=b){i h:Int}(R:RH rs ls i h):∀ s,ss[i.toNat]? = some (some s)->s<2 ^ (8+h).toNat:=by
 have hf8:first<2 ^ (8+(0:Int)).toNat:=by show first<2 ^ 8;lia
 induction R with
 | start =>
   intro s e;obtain⟨s0,e0,q⟩:=P.st;rw[show(0:Int).toNat=0 from rfl,e0] at e;cases e
   exact aa1 q.le hf8
 | @way j a a' w r R0 hr hh hw ih =>
   intro s e;obtain⟨s0,e0⟩:=yy P R0;have e0':=e0;rw[aaA] at e0';obtain⟨b,hb⟩:=P.pi.rd _ _ e0';obtain⟨s',e',q⟩:=(P.pi.cl _ (λz=>z) s0 b _ e0' hb hr).1 _ hw;rw[e'] at e;cases e
   cases hu _ _ _ R0 (O.rh _ _ hb)
   exact aa1 q.le (JS (au _ (aad hr)).1 (C9 au R0).1 (ih s0 e0) hh)
 | @call j a t R0 hr ih =>
   intro s e;obtain⟨s0,e0⟩:=yy P R0;rw[aaA] at e0;obtain⟨b,hb⟩:=P.pi.rd _ _ e0;obtain⟨s',e',q⟩:=(P.pi.cl _ (λz=>z) s0 b _ e0 hb hr).2 _ rfl;rw[e'] at e;cases e
   exact aa1 q.le hf8
theorem xR {ss:List (Option Nat)}{s:Nat}(h:ss[i]? = some (some s)):gN ss i=(s:Int):=by unfold gN;rw[h];rfl
theorem jV {h s:Int}(hw:de h s=false) : 0<s:=by
 unfold de at hw;rw[abW] at hw
 have:=of_decide_eq_false hw.1
 lia
theorem jX {h:Int}{s:Nat}(hs:s≠0)(hl:s<2 ^ (8+h).toNat):de h (s:Int)=false:=by
 unfold de;rw[decide_eq_false (by lia),abC];have e:((s:Nat):Int)/2 ^ (8+h).toNat=0:=Int.ediv_eq_zero_of_lt (by lia) (by exact_mod_cast hl);rw[decide_eq_true e];rfl
theorem xX (au:∀ r∈rs,r.ok/\r.here)(L:Lb rs es ls)(O:sh rs ls hs)(h0 : 0<rs.length){f:Ent->Int}{ss:List (Option Nat)}(P:kn rs ls hs first ss)(hf:first<256)(RU:(f ⟨0,128,16,32,64⟩).toNat=first)
   (hk:∀ r e t,cz r e t=none->Sub (f t).toNat (r.keep (f e).toNat e.h)) {i:Nat} {h:Int} {e:Ent} (hi:hs[i]? = some (some h)) (he:es[i]?.join=some e):∃ s,ss[i]? = some (some s)/\Sub (f e).toNat s/\s<2 ^ (8+h).toNat:=by
 obtain⟨s,R9⟩:=sF O P hi;refine⟨s,R9,?_,?_⟩
 . have z := P.pi.up _ (cons_of L O h0 RU hk) i s R9;rw[tW he] at z;exact z
 . exact OG au O P hf (λj a b Ra Rb => by
     obtain⟨_,_,e1,x1,rfl⟩:=L.rh h0 Ra;obtain⟨_,_,e2,x2,rfl⟩:=L.rh h0 Rb;rw[x1] at x2;cases x2;rfl) (O.rh i h hi) s (by rw[aaA];exact R9)
theorem LP (h:cz r e t=none):Sub t.b.toNat (r.keep e.b.toNat e.h):=(px h).1
theorem LN (h:cz r e t=none):Sub t.v4.toNat (r.keep e.v4.toNat e.h):=(px h).2.1
theorem MA (h:cz r e t=none):Sub t.v5.toNat (r.keep e.v5.toNat e.h):=(px h).2.2.1
theorem Mm (h:cz r e t=none):Sub t.v6.toNat (r.keep e.v6.toNat e.h):=(px h).2.2.2
theorem EA (h:cH e=false):de e.h e.b=false/\de e.h e.v4=false/\de e.h e.v5=false/\de e.h e.v6=false:=by
 unfold cH at h;rw[abW,abW] at h;have z:=h.2.2;rw[List.any_eq_false] at z;refine⟨?_,?_,?_,?_⟩
 . exact Bool.eq_false_iff.mpr (z e.b (by simp[Ent.cN]))
 . exact Bool.eq_false_iff.mpr (z e.v4 (by simp[Ent.cN]))
 . exact Bool.eq_false_iff.mpr (z e.v5 (by simp[Ent.cN]))
 . exact Bool.eq_false_iff.mpr (z e.v6 (by simp[Ent.cN]))
theorem pN {x s m:Nat}{y:Int}(hy : 0<y)(hs:Sub y.toNat s)(h:(aaP y (m:Int) != 0)=true):(aaP (s:Int) (m:Int) != 0)=true:=by
 have e:y=((y.toNat:Nat):Int):=by lia
 rw[e,iU] at h;rw[iU];have h1:y.toNat &&& m≠0:=λz=>by rw[z] at h;exact absurd h (by decide)
 have h2:=Sub.and hs h1
 simpa using h2
theorem we {k at_:Int}(hl:es.length=rs.length)(h:hJ rs es k at_=none) : 0<=k/\k<es.length/\∃ r,rs[k.toNat]? = some r/\r.isCall=true:=by
 unfold hJ at h;by_cases hb : 0<=k/\k<es.length
 . rw [if_pos hb] at h;have hi:k.toNat<rs.length:=by lia
   rw[aac hi] at h;refine⟨hb.1,hb.2,_,aac hi,?_⟩;unfold jW at h;by_cases hc:rs[k.toNat].isCall=true
   . exact hc
   . simp[hc] at h
 . rw[if_neg hb] at h;cases h
structure Rz (e' e:Ent):Prop where
 h:e'.h=e.h
 p : 0<e'.b/\0<e'.v4/\0<e'.v5/\0<e'.v6
 n:e.nn
 b:Sub e'.b.toNat e.b.toNat
 v4:Sub e'.v4.toNat e.v4.toNat
 v5:Sub e'.v5.toNat e.v5.toNat
 v6:Sub e'.v6.toNat e.v6.toNat
theorem great {S0:List (Option Ent)}(au:∀ r∈rs,r.ok/\r.here)(L:Lb rs S0 ls)(G:yu rs ls es):Lb rs es ls/\∀ (i:Nat) (e:Ent),es[i]?.join=some e->∃ e',S0[i]?.join=some e'/\Rz e' e:=by
 by_cases h0 : 0<rs.length
 case neg =>
   have hn:∀ i:Nat,rs[i]? = none:=λi=>abQ (by lia);have hn2:∀ i:Nat,es[i]? = none:=λi=>abQ (by rw[G.len];lia);refine⟨⟨G.len,λz=>absurd z h0,λi r e hr=>?_,λi r e c hr=>?_,λi t e hr=>?_,λk hk=>?_⟩,λi e he=>?_⟩
   . rw[hn i] at hr;cases hr
   . rw[hn i] at hr;cases hr
   . rw[hn i] at hr;cases hr
   . obtain⟨a, b, _⟩ := we L.len (L.land k hk)
     have:=L.len
     lia
   . rw[hn2 i] at he;cases he
 obtain⟨hs,sb,s4,s5,s6,PP,he⟩:=G.of h0;have O:=PP.ht;have jy:∀ (i:Nat) (h:Int),hs[i]? = some (some h)->es[i]?.join=some ⟨h,gN sb i,gN s4 i,gN s5 i,gN s6 i⟩:=λi h hi=>by
   have RJ:i<rs.length:=by rw[<- O.len];exact(List.getElem?_eq_some_iff.mp hi).1
   rw[he i RJ];show d5 hs sb s4 s5 s6 i=_;unfold d5;rw[hi];rfl
 have VD:∀ (i:Nat) (e:Ent),es[i]?.join=some e->∃ h,hs[i]? = some (some h):=λi e hi=>by
   have RJ:i<rs.length:=by
     rw[<- G.len];cases z:es[i]? with
     | none=>rw[z] at hi;cases hi
     | some o=>exact(List.getElem?_eq_some_iff.mp z).1
   rw[he i RJ] at hi;have hi:d5 hs sb s4 s5 s6 i=some e:=hi;unfold d5 at hi;cases z:hs[i]? with
   | none=>rw[z] at hi;cases hi
   | some o=>cases o with
     | none=>rw[z] at hi;cases hi
     | some h=>exact⟨h,rfl⟩
 have key : ∀ (i : Nat) (h : Int), hs[i]? = some (some h) -> ∃ (e' : Ent) (b c d f : Nat), S0[i]?.join = some e' /\ e'.h = h /\ sb[i]? = some (some b) /\ s4[i]? = some (some c) /\ s5[i]? = some (some d) /\ s6[i]? = some (some f) /\ es[i]?.join = some ⟨h, b, c, d, f⟩ /\
     (Sub e'.b.toNat b/\Sub e'.v4.toNat c/\Sub e'.v5.toNat d/\Sub e'.v6.toNat f)/\b<2 ^ (8+h).toNat/\c<2 ^ (8+h).toNat/\d<2 ^ (8+h).toNat/\f<2 ^ (8+h).toNat:=λi h hi=>by
   obtain⟨_,_,e',x1,x2⟩:=L.rh h0 (O.rh i h hi);rw[aaA] at x1;obtain⟨b,b1,b2,b3⟩:=xX au L O h0 (f:=Ent.b) PP.pb (by decide) rfl (λ_ _ _=>LP) hi x1;obtain⟨c,c1,c2,c3⟩:=xX au L O h0 (f:=Ent.v4) PP.p4 (by decide) rfl (λ_ _ _=>LN) hi x1;obtain⟨d,d1,d2,d3⟩:=xX au L O h0 (f:=Ent.v5) PP.p5 (by decide) rfl (λ_ _ _=>MA) hi x1;obtain⟨f,f1,f2,f3⟩:=xX au L O h0 (f:=Ent.v6) PP.p6 (by decide) rfl (λ_ _ _=>Mm) hi x1;have z:=jy i h hi;rw[xR b1,xR c1,xR d1,xR f1] at z;exact⟨e',b,c,d,f,x1,x2,b1,c1,d1,f1,z,⟨b2,c2,d2,f2⟩,b3,c3,d3,f3⟩
 have rowAt:∀ (i:Nat) (h:Int),hs[i]? = some (some h)->∃ r,rs[i]? = some r:=λi h hi=>by
   have RJ:i<rs.length:=by rw[<- O.len];exact(List.getElem?_eq_some_iff.mp hi).1
   exact⟨_,aac RJ⟩
 have posS:∀ (i:Nat) (r:Rw) (e':Ent),rs[i]? = some r->S0[i]?.join=some e'->0<e'.b/\0<e'.v4/\0<e'.v5/\0<e'.v6:=λi r e' hr x1=>by
   obtain⟨w1,w2,w3,w4⟩:=EA (iO (L.own i r e' hr x1)).2;exact⟨jV w1,jV w2,jV w3,jV w4⟩
 have wy:∀ (i:Nat) (r:Rw) (e:Ent) (w:Int),rs[i]? = some r->es[i]?.join=some e->w∈cj rs ls i->eG r e w es=none:=λi r e w hr Tb hw=>by
   obtain⟨h,hi⟩:=VD i e Tb;obtain⟨e',b,c,d,f,x1,x2,b1,c1,d1,f1,z,_⟩:=key i h hi;rw[z] at Tb;cases Tb
   obtain⟨h',hh,hcl⟩:=O.cl i h r hi hr;obtain⟨w0,VJ⟩:=hcl w hw;obtain⟨e2,b2,c2,d2,f2,y1,y2,y3,y4,y5,y6,y7,_⟩:=key w.toNat h' VJ;have RJ:=(List.getElem?_eq_some_iff.mp VJ).1;rw[O.len] at RJ;obtain⟨t1,u1,v1⟩:=(PP.pb.pi.cl i (λz=>z) b h r b1 hi hr).1 w hw;obtain⟨t2,u2,v2⟩:=(PP.p4.pi.cl i (λz=>z) c h r c1 hi hr).1 w hw;obtain⟨t3,u3,v3⟩:=(PP.p5.pi.cl i (λz=>z) d h r d1 hi hr).1 w hw;obtain⟨t4,u4,v4⟩:=(PP.p6.pi.cl i (λz=>z) f h r f1 hi hr).1 w hw;rw[y3] at u1;cases u1;rw[y4] at u2;cases u2;rw[y5] at u3;cases u3;rw[y6] at u4;cases u4;exact KI w0 (by rw[G.len];lia) y7 hh (JD ⟨v1,v2,v3,v4⟩)
 have Ua:∀ (i:Nat),hs[i]? = some (some 0)->S0[i]?.join=jZ->(∀ s,sb[i]? = some (some s)->Sub s 128)->(∀ s,s4[i]? = some (some s)->Sub s 16)->(∀ s,s5[i]? = some (some s)->Sub s 32)->(∀ s,s6[i]? = some (some s)->Sub s 64)->es[i]?.join=jZ:=λi hi RU q1 q2 q3 q4=>by
   obtain⟨e',b,c,d,f,x1,x2,b1,c1,d1,f1,z,⟨g1,g2,g3,g4⟩,_⟩:=key i 0 hi;rw[RU] at x1;have x1:(⟨0,128,16,32,64⟩:Ent)=e':=aap x1;subst x1;rw[z,Sub.CZ (q1 b b1) g1,Sub.CZ (q2 c c1) g2,Sub.CZ (q3 d d1) g3,Sub.CZ (q4 f f1) g4];rfl
 refine⟨⟨G.len,λ_=>?_,λi r e hr Tb=>?_,λi r e c hr Tb hc=>?_,λi t e hr Tb=>?_,λk hk=>?_⟩,λi e Tb=>?_⟩
 . refine Ua 0 O.start (L.start h0) ?_ ?_ ?_ ?_
   . obtain⟨s0,a1,a2⟩:=PP.pb.st;intro s R9;rw[a1] at R9;cases R9;exact a2
   . obtain⟨s0,a1,a2⟩:=PP.p4.st;intro s R9;rw[a1] at R9;cases R9;exact a2
   . obtain⟨s0,a1,a2⟩:=PP.p5.st;intro s R9;rw[a1] at R9;cases R9;exact a2
   . obtain⟨s0,a1,a2⟩:=PP.p6.st;intro s R9;rw[a1] at R9;cases R9;exact a2
 . obtain⟨h, hi⟩ := VD i e Tb;obtain⟨e',b,c,d,f,x1,x2,b1,c1,d1,f1,z,⟨g1,g2,g3,g4⟩,l1,l2,l3,l4⟩:=key i h hi;rw[z] at Tb;cases Tb
   obtain⟨p1,p2,p3,p4⟩:=posS i r e' hr x1;obtain⟨hb0,hb1⟩:=C9 au (O.rh i h hi);have hw:cH ⟨h,b,c,d,f⟩=false:=by
     unfold cH;show(decide (h<0) || (decide (4000<h) || _))=false;rw[decide_eq_false (by lia),decide_eq_false (by lia),abC,abC];show([(b:Int),(c:Int),(d:Int),(f:Int)].any (de h))=false;simp only[abh,List.any_nil,Bool.or_false];rw[jX (g1.pos (by lia)) l1,jX (g2.pos (by lia)) l2,jX (g3.pos (by lia)) l3,jX (g4.pos (by lia)) l4];rfl
   obtain⟨h',hh,_⟩:=O.cl i h r hi hr;unfold cX;rw[if_neg (by rw[hw];decide),if_neg (show ¬ r.aC h=none by rw[hh];intro z;cases z)];split
   . rename_i bx;have o1:=L.own i _ e' hr x1;unfold cX at o1;rw[if_neg (by rw[(iO (L.own i _ e' hr x1)).2];decide),if_neg (iO (L.own i _ e' hr x1)).1] at o1;have o1:(if jF bx e'=true then none else some Wt.back)=none:=o1;have o2:jF bx e'=true:=by
       by_cases z:jF bx e'=true
       . exact z
       . rw[if_neg z] at o1;cases o1
     rw[if_pos];unfold jF at o2 ⊢;rw[aah,aah,aah,aah] at o2 ⊢;obtain⟨m0,m1,m2,m3,m4⟩:=o2;refine⟨?_,pN (x:=0) p1 g1 m1,pN (x:=0) (m:=16) p2 g2 m2,pN (x:=0) (m:=32) p3 g3 m3,pN (x:=0) (m:=64) p4 g4 m4⟩;rw[x2] at m0;exact m0
   . rfl
 . refine wy i r e c hr Tb ?_;unfold cj;rw[hr];exact aa5 _ hc
 . obtain⟨h, hi⟩ := VD i e Tb;obtain⟨e',b,c,d,f,x1,x2,b1,c1,d1,f1,z,_⟩:=key i h hi;obtain⟨t0,ht⟩:=O.tg i h t hi hr;obtain⟨_,_,RU⟩:=vQ (L.Ic i t e' hr x1);have RJ:=(List.getElem?_eq_some_iff.mp ht).1;rw[O.len] at RJ
   have z := Ua t.toNat ht RU
     (by obtain⟨s0,a1,a2⟩:=(PP.pb.pi.cl i (λz=>z) b h _ b1 hi hr).2 t rfl;intro s R9;rw[a1] at R9;cases R9;exact a2)
     (by obtain⟨s0,a1,a2⟩:=(PP.p4.pi.cl i (λz=>z) c h _ c1 hi hr).2 t rfl;intro s R9;rw[a1] at R9;cases R9;exact a2)
     (by obtain⟨s0,a1,a2⟩:=(PP.p5.pi.cl i (λz=>z) d h _ d1 hi hr).2 t rfl;intro s R9;rw[a1] at R9;cases R9;exact a2)
     (by obtain⟨s0,a1,a2⟩:=(PP.p6.pi.cl i (λz=>z) f h _ f1 hi hr).2 t rfl;intro s R9;rw[a1] at R9;cases R9;exact a2)
   unfold dW;rw[if_pos ⟨t0,by rw[G.len];lia⟩,z,if_pos (by unfold jz;decide +kernel)]
 . obtain ⟨k0, k1, r, hr, hc⟩ := we L.len (L.land k hk);rw [L.len] at k1;have ek:((k.toNat:Nat):Int)=k:=by lia
   unfold hJ;rw[if_pos ⟨k0,by rw[G.len];lia⟩,hr];show jW r (es[k.toNat]?.join) (lv ls k) es=none;unfold jW;rw[if_pos hc];cases Tb:es[k.toNat]?.join with
   | none=>rfl
   | some e =>
     show(if (cX r e).isSome=true then none else eG r e (lv ls k) es)=none;by_cases T7:(cX r e).isSome=true
     . rw[if_pos T7]
     . rw[if_neg T7];refine wy k.toNat r e (lv ls k) hr Tb ?_;unfold cj;rw[hr];refine aaz _ ?_;rw[if_pos ⟨hc,by rw[ek];exact hk⟩,ek];exact List.mem_singleton.mpr rfl
 . obtain⟨h, hi⟩ := VD i e Tb;obtain⟨r,hr⟩:=rowAt i h hi;obtain⟨e',b,c,d,f,x1,x2,b1,c1,d1,f1,z,⟨g1,g2,g3,g4⟩,_⟩:=key i h hi;rw[z] at Tb;cases Tb
   exact⟨e',x1,x2,posS i r e' hr x1,⟨aaO _,aaO _,aaO _,aaO _⟩,g1,g2,g3,g4⟩
def bJ {α : Type}(R:Addr->α->Prop)(ps:List Addr)(xs:List α):Prop:=ps.length=xs.length/\∀ (i:Nat) (p:Addr) (x : α),ps[i]? = some p->xs[i]? = some x->R p x
variable {ps:List Addr} {R:Addr->α->Prop}
theorem bJ.to {S:Addr->α->Prop}{xs:List α}(h:bJ R ps xs)(k:∀ p x,R p x->S p x):bJ S ps xs:=⟨h.1,λi p x a b=>k p x (h.2 i p x a b)⟩
theorem bJ.nil:bJ R [] []:=⟨rfl,λi p r e=>by simp at e⟩
theorem bJ.snoc {xs:List α}{x : α}(h:bJ R ps xs)(q:R p x):bJ R (ps++[p]) (xs++[x]):=by
 refine⟨by rw[aab,aab,h.1];rfl,λi p' r' e1 e2=>?_⟩;by_cases hi:i<xs.length
 . rw[aak (by rw[h.1]; exact hi)] at e1;rw[aak hi] at e2;exact h.2 i p' r' e1 e2
 . rw[aag (by rw[h.1]; lia), h.1] at e1;rw[aag (by lia)] at e2;cases hj:i - xs.length with
   | zero=>rw[hj] at e1 e2;simp at e1 e2;subst e1 e2;exact q
   | succ j=>rw[hj] at e1;simp at e1
theorem bJ.at {xs:List α}(h:bJ R ps xs)(e:ps[i]? = some p):∃ x,xs[i]? = some x/\R p x:=by
 have hi:i<xs.length:=by rw[<- h.1];exact(List.getElem?_eq_some_iff.mp e).1
 exact⟨xs[i],aac hi,h.2 i p _ e (aac hi)⟩
theorem bJ.cons {xs:List α}{x : α}(q:R p x)(h:bJ R ps xs):bJ R (p::ps) (x::xs):=by
 refine⟨by rw[aaq,aaq,h.1],λi p' r' e1 e2=>?_⟩;cases i with
 | zero=>cases e1;cases e2;exact q
 | succ i=>exact h.2 i p' r' (by simpa using e1) (by simpa using e2)
theorem dG {v:V}(hv:(ps.map V.ref)[i]? = some v):∃ p,ps[i]? = some p/\v=.ref p:=by
 rw[aae] at hv;obtain⟨p,hp,e⟩:=Option.map_eq_some_iff.mp hv;exact⟨p,hp,e.symm⟩
inductive Sx where
 | set (x:Int) | give (x:Int) | leave
def Sx.vs:Sx->List V
 | .set x=>[.str "set",.int x,.int 7]
 | .give x=>[.str "give",.int x]
 | .leave=>[.str "leave",.int 7]
def By (x:Int):Prop:=0<=x/\x<=5
def Sx.ok:Sx->Prop
 | .set x=>By x
 | .give x=>0<=x
 | .leave=>False
def Sx.b:Sx->Bool
 | .give x=>decide (x<=5)
 | _=>true
def Gw (H:Hp)(p:Addr)(s:Sx):Prop:=H p=some (.tup s.vs)
def gT (H:Hp)(q:Addr)(s:Sx):Prop:=∃ p,H q=some (.tup [.ref p,.ax])/\H p=some (.tup s.vs)
def ka (H:Hp)(l:Addr)(ss:List Sx):Prop:=∃ ps,H l=some (.lst (ps.map V.ref))/\bJ (Gw H) ps ss
def C2 (ss:List Sx):Prop:=(∀ s∈ss,s.ok)/\ss.length<=2
structure Fx where
 n:Int
 ss:List Sx
def gO (H:Hp)(f:Addr)(F:Fx):Prop:=∃ l,H f=some (.tup [.int F.n,.ref l])/\ka H l F.ss
def Fx.ok (F:Fx):Prop:=0<=F.n/\F.n<=3/\C2 F.ss
def eW (H:Hp)(pr:Addr)(Fs:List Fx):Prop:=∃ fs,H pr=some (.lst (fs.map V.ref))/\bJ (gO H) fs Fs/\(∀ F∈Fs,F.ok)/\Fs.length<=4
def x9 (bs:List (List Sx)):Bool:=bs.all λss=>ss.all Sx.b
def ja (Fs:List Fx):Bool:=!Fs.isEmpty && x9 (Fs.map (·.ss))
theorem ka.same {ss:List Sx}(h:ka H l ss)(s:ah H H'):ka H' l ss:=let ⟨ps,a,b⟩:=h;⟨ps,s _ _ a,b.to λ_ _ z=>s _ _ z⟩
variable {f:Addr}
theorem gO.same {F:Fx}(h:gO H f F)(s:ah H H'):gO H' f F:=let ⟨l,a,b⟩:=h;⟨l,s _ _ a,b.same s⟩
theorem eW.same {pr:Addr}{Fs:List Fx}(h:eW H pr Fs)(s:ah H H'):eW H' pr Fs:=let ⟨fs,a,b,c⟩:=h;⟨fs,s _ _ a,b.to λ_ _ z=>z.same s,c⟩
def Eb:V->Bool
 | .int i=>decide (0<=i)
 | _=>false
def oU (t:Int):V->Bool
 | .int i=>decide (0<=i) && decide (i<=t)
 | _=>false
def nU (p:Int×Str):Bool:=p.2 == "value" || oU 5 (.int p.1)
def IW:V->Bool
 | .int _ | .bl _ | .str _=>true
 | _=>false
def Oe:Sp:=λvs H Q _=>∃ v,vs=[v]/\IW v=true/\Q (.bl (Eb v)) H
def Oc:Sp:=λvs H Q _=>∃ v t,vs=[v,.int t]/\IW v=true/\Q (.bl (oU t v)) H
def OI:Sp:=λvs H Q _=>∃ v,vs=[v]/\IW v=true/\Q (.bl (oU 5 v)) H
def Jv:Sp:=λvs H Q _=>∃ (i n:Int) (k:Str),vs=[.int i,.str k,.int n]/\((k = "name"/\Q (.bl (oU 5 (.int i))) H)∨(k = "value"/\i=7/\Q (.bl true) H))
def Lj:Sp:=λvs H Q _=>∃ (p h:Addr) (s:Sx) (us:List V),vs=[.ref p,.ref h]/\H p=some (.tup s.vs)/\s.ok/\H h=some (.lst us)/\us.length<=8/\∀ H',ah H H'->Q (.bl s.b) H'
def DQ:Sp:=λvs H Q _=>∃ (p:Addr) (s:Sx),vs=[.ref p]/\H p=some (.tup s.vs)/\s.ok/\∀ l H',ah H H'->H' l=some (.lst [])->H l=none->Q (.ref l) H'
def Mp:Sp:=λvs H Q _=>∃ (b h:Addr) (ls:List Addr) (bs:List (List Sx)) (us:List V),vs=[.ref b,.ref h]/\H b=some (.lst (ls.map V.ref))/\bJ (ka H) ls bs/\(∀ ss∈bs,C2 ss)/\bs.length<=4/\H h=some (.lst us)/\us.length<=8/\∀ H',ah H H'->Q (.bl (x9 bs)) H'
def N4:Sp:=λvs H Q _=>∃ (f l:Addr) (n:Int) (us:List V),vs=[.ref f]/\H f=some (.tup [.int n,.ref l])/\0<=n/\n<=3/\H l=some (.lst us)/\Q (.bl true) H
def Of:Sp:=λvs H Q _=>∃ (pr:Addr) (Fs:List Fx),vs=[.ref pr]/\eW H pr Fs/\∀ H',ah H H'->Q (.bl (ja Fs)) H'
def KY (a:aP):Sp:=λvs H Q E=>∃ (pr:Addr) (Fs:List Fx),vs=[.ref pr]/\eW H pr Fs/\(ja Fs=true->∀ H',ah H H'->Q .ax H')/\(ja Fs=false->∀ H',ah H H'->E (.ref a.cD) none H')
def MR:Sp:=λvs H Q _=>∃ (m l:Addr) (ps:List Addr) (ss:List Sx),vs=[.ref m,.ref l,.ax]/\H m=some (.lst [])/\H l=some (.lst (ps.map V.ref))/\m≠l/\bJ (Gw H) ps ss/\C2 ss/\∀ qs H',(∀ b o,H b=some o->b≠m->H' b=some o)->H' m=some (.lst (qs.map V.ref))->bJ (gT H') qs ss->Q .ax H'
def ix (H:Hp)(m:Addr)(ss:List Sx):Prop:=∃ qs,H m=some (.lst (qs.map V.ref))/\bJ (gT H) qs ss
theorem gT.to (s:∀ b xs,H b=some (.tup xs)->H' b=some (.tup xs))(p:Addr)(x:Sx)(h:gT H p x):gT H' p x:=let ⟨q,k1,k2⟩:=h;⟨q,s _ _ k1,s _ _ k2⟩
theorem ix.same {ss:List Sx}(h:ix H l ss)(s:ah H H'):ix H' l ss:=let ⟨ps,a,b⟩:=h;⟨ps,s _ _ a,b.to (gT.to λ_ _ z=>s _ _ z)⟩
def K0:Sp:=λvs H Q _=>∃ (l:Addr) (ss:List Sx),vs=[.ref l]/\ka H l ss/\C2 ss/\∀ m H',ah H H'->H m=none->ix H' m (ss++[.leave])->Q (.ref m) H'
theorem A_ (h:H l=some (.lst ys))(b:Addr)(xs:List V)(e:H b=some (.tup xs)):(upd H l o) b=some (.tup xs):=by
 rw[af (λz=>by subst z;rw[h] at e;cases e)];exact e
theorem bJ.head {xs:List α}{x : α}(h:bJ R (p::ps) (x::xs)):R p x/\bJ R ps xs:=⟨h.2 0 p x rfl rfl,by have:=h.1;simpa using this,λi q y e1 e2=>h.2 (i+1) q y (by simpa using e1) (by simpa using e2)⟩
theorem Ik:∀ {fs:List Addr} {Fs:List Fx},bJ (gO H) fs Fs->∃ ls:List Addr,bJ (ka H) ls (Fs.map (·.ss))/\ls.length=fs.length/\∀ (i:Nat) (f:Addr),fs[i]? = some f->∃ F l,Fs[i]? = some F/\ls[i]? = some l/\H f=some (.tup [.int F.n,.ref l])
 | [],[],_=>⟨[],bJ.nil,rfl,λi f e=>by simp at e⟩
 | [],_::_,h=>by have:=h.1;simp at this
 | _::_,[],h=>by have:=h.1;simp at this
 | f :: fs, F :: Fs, h => by
   obtain⟨⟨l,hf,hb⟩,hr⟩:=h.head;obtain⟨ls,a,b,c⟩:=Ik hr;refine⟨l::ls,bJ.cons hb a,by rw[aaq,aaq,b],λi f' e=>?_⟩;cases i with
   | zero=>cases e;exact⟨F,l,rfl,rfl,hf⟩
   | succ i=>exact c i f' (by simpa using e)
theorem Eo {K:W.Frag}{a:Addr}{g:TG}{tc:TT}{te:TE}{RN:List V->Hp->Prop}{Z0:L2.St}(hl:av K H a [])(hd:RN [] H):eK (uA K a) g tc te RN Z0 H:=by
 refine bz (xs:=[]) (λi ys Z H1=>ys=[]/\Z = Z0/\H1=H) ⟨rfl,rfl,rfl⟩ ?_ ?_ ?_
 . rintro i ys Z H1 _ ⟨rfl,rfl,rfl⟩;exact⟨hl,aaW _⟩
 . intro i y ys Z H1 e h;simp at e
 . rintro ys Z H1 ⟨rfl,rfl,rfl⟩;exact hd
def jG (b:Int):Option Int->List (Int×Int)
 | none=>[]
 | some n=>[(n,b)]
def fR:List Int->List (Option Int)->List (Int×Int)
 | b::bs,o::r=>jG b o++fR bs r
 | _,_=>[]
def bQ (h:List (Option Int)):List (Int×Int):=fR [4,5,6] h
def gB (h:List (Option Int))(n:Int):Option Int:=((bQ h).find? λp=>decide (p.1=n)).map (·.2)
def aA (h:List (Option Int)):List Int:=7::(bQ h).map (·.2)
def cT (h:List (Option Int)):List Int:=([0,1,2,3,4,5]:List Int).filter λn=>(gB h n).isNone
def BF (h:List (Option Int))(n:Int):Nat:=(cT h).findIdx λm=>decide (m=n)
def f_ (h:List (Option Int))(n:Int):Int:=(((aA h).length+BF h n:Nat):Int)
def dO (h:List (Option Int)):List Int:=h.filterMap id
def bw (h:List (Option Int)):Bool:=decide (h.length=3) && (dO h).all λn=>(decide (0<=n) && decide (n<=5)) && decide ((dO h).countP (· == n)=1)
def gY:List (Option Int):=[none,some 0,some 1,some 2,some 3,some 4,some 5]
def vX:List (List (Option Int)):=(gY.flatMap λa=>gY.flatMap λb=>gY.map λc=>[a,b,c]).filter bw
variable {h:List (Option Int)}
theorem pR (e:bw h=true):h∈vX:=by
 unfold bw at e;rw[aah,decide_eq_true_eq,ac5] at e;obtain⟨hl,hn⟩:=e
 match h,hl with
 | [a,b,c],_ =>
   have o1:∀ o∈[a,b,c],o∈gY:=λo ho=>by
     cases o with
     | none=>exact aa_ ..
     | some n =>
       have:=hn n (List.mem_filterMap.mpr ⟨some n,ho,rfl⟩)
       rw[aah,aah,decide_eq_true_eq,decide_eq_true_eq] at this;obtain⟨⟨h0,h5⟩,_⟩:=this
       have:n=0∨n=1∨n=2∨n=3∨n=4∨n=5:=by lia
       rcases this with rfl | rfl | rfl | rfl | rfl | rfl <;> decide
   refine List.mem_filter.mpr ⟨List.mem_flatMap.mpr ⟨a,o1 a (by simp),List.mem_flatMap.mpr ⟨b,o1 b (by simp),List.mem_map.mpr ⟨c,o1 c (by simp),rfl⟩⟩⟩,?_⟩;unfold bw;rw[aah,ac5];exact⟨rfl,hn⟩
def uo (h:List (Option Int)):Bool:=decide ((aA h).length+(cT h).length=7) && (decide ((bQ h).map (·.1)).Nodup && (([0,1,2,3,4,5]:List Int).all λn=>match gB h n with | none=>decide ((cT h)[BF h n]? = some n) && ((aaU (BF h n)).all λi=>decide ((cT h)[i]? ≠ some n)) | some b=>decide (4<=b) && decide (b<=6)))
theorem yB (e:bw h=true):uo h=true:=by
 have:∀ h∈vX,uo h=true:=by decide +kernel
 exact this h (pR e)
theorem pC (e:bw h=true):(aA h).length+(cT h).length=7:=by
 have:=yB e
 unfold uo at this;rw[aah,decide_eq_true_eq] at this;exact this.1
theorem Jr (e:bw h=true):((bQ h).map (·.1)).Nodup:=by
 have:=yB e
 unfold uo at this;rw[aah,aah,decide_eq_true_eq] at this;exact of_decide_eq_true this.2.1
theorem tO (e:bw h=true){n:Int}(h0 : 0<=n)(h5:n<=5):(gB h n=none/\(cT h)[BF h n]? = some n/\∀ i:Nat,i<BF h n->(cT h)[i]? ≠ some n)∨∃ b,gB h n=some b/\4<=b/\b<=6:=by
 have:=yB e
 unfold uo at this;rw[aah,aah,ac5] at this;have hm:n∈([0,1,2,3,4,5]:List Int):=by
   have:n=0∨n=1∨n=2∨n=3∨n=4∨n=5:=by lia
   rcases this with rfl | rfl | rfl | rfl | rfl | rfl <;> decide
 have k:=this.2.2 n hm;cases hb:gB h n with
 | none =>
   rw[hb] at k;obtain⟨k1,k2⟩:=(aah _ _).mp k;exact .inl ⟨rfl,of_decide_eq_true k1,λi hi=>of_decide_eq_true (List.all_eq_true.mp k2 i (List.mem_range.mpr hi))⟩
 | some b =>
   rw[hb] at k;obtain⟨k1,k2⟩:=(aah _ _).mp k;exact .inr ⟨b,rfl,of_decide_eq_true k1,of_decide_eq_true k2⟩
theorem pB:∀ (ls:List (Int×Int)) (k:Int),cV (aD ls) (.inl k)=((ls.find? λp=>decide (p.1=k)).map (·.2)).map V.int
 | [],_=>rfl
 | (c, r) :: ls, k => by
   show cV ((Sum.inl c,V.int r)::aD ls) (.inl k)=_;by_cases e:c=k
   . subst e;rw[jq rfl,abd,decide_eq_true rfl];rfl
   . rw[gH (λz=>e (adh z)),abd,decide_eq_false e];exact pB ls k
theorem xV (h:List (Option Int))(n:Int):cV (aD (bQ h)) (.inl n)=(gB h n).map V.int:=pB _ _
def wN (h:List (Option Int))(n b:Int):List Rw:=match gB h n with | none=>[.put b (f_ h n)] | some x=>if x=b then [] else [.copy x b]
def wC (h:List (Option Int))(n b:Int):List Rw:=match gB h n with | none=>[.get b (f_ h n)] | some x=>[.copy b x]
def iE (h:List (Option Int))(n s:Int):Int:=(gB h n).getD s
def cy (f:Int->Int->Rw):Nat->List Int->List Rw
 | _,[]=>[]
 | c,b::r=>f b c::cy f (c+1) r
def d7 (h:List (Option Int))(k:Nat):List Rw:=(aaU k).flatMap λn:Nat=>wN h (n:Int) (n:Int)
def jO (h:List (Option Int))(k:Nat):List Rw:=Rw.grow 7::cy .put 0 (aA h)++d7 h k++((bQ h).filter λp=>decide ((k:Int)<=p.1)).map λp=>.set p.2 0
def zW (h:List (Option Int)):List Rw:=cy .get 0 (aA h)++[.shrink 7]
structure FF (fs:List (Str×V))(d la lc:Addr):Prop where
 box:fs.lookup ("box_of" : Str)=some (.ref d)
 away:fs.lookup ("away" : Str)=some (.ref la)
 cells:fs.lookup ("in_cells" : Str)=some (.ref lc)
 many:fs.lookup ("many" : Str)=some (.int 7)
 len:fs.length<=9
 no:∀ x:Str,x∈(["cell_of","begun","left","at_hand","loaded","stored"]:List Str)->fs.lookup x=none
structure yD (a:aP)(H:Hp)(x dx d la lc:Addr)(fs:List (Str×V))(h:List (Option Int)):Prop where
 hx:H x=some (.ins a.aU dx fs)
 F:FF fs d la lc
 hd:H d=some (.dK (aD (bQ h)))
 ha:H la=some (.lst ((aA h).map V.int))
 hc:H lc=some (.lst ((cT h).map V.int))
def fq (a:aP)(H:Hp)(x:Addr)(h:List (Option Int)):Prop:=∃ dx d la lc fs,yD a H x dx d la lc fs h
theorem yD.same {a:aP}{x d la lc:Addr}{fs:List (Str×V)}(f:yD a H x dx d la lc fs h)(s:ah H H'):yD a H' x dx d la lc fs h:=⟨s _ _ f.hx,f.F,s _ _ f.hd,s _ _ f.ha,s _ _ f.hc⟩
theorem fq.same {a:aP}{x:Addr}(f:fq a H x h)(s:ah H H'):fq a H' x h:=let ⟨dx,d,la,lc,fs,k⟩:=f;⟨dx,d,la,lc,fs,k.same s⟩
def eF (H:Hp)(v:V)(h:List (Option Int)):Prop:=∃ p,v=.ref p/\H p=some (.tup (h.map aO))
def cB (a:aP)(H H':Hp)(l:Addr)(rs:List Rw):Prop:=H l=none/\∃ fI:List Addr,H' l=some (.lst (fI.map V.ref))/\aJ a H' fI rs
def Jq (a:aP):Sp:=λvs H Q _=>∃ (x dx:Addr) (v:V) (h:List (Option Int)),vs=[.ref x,v]/\H x=some (.ins a.aU dx [])/\eF H v h/\bw h=true/\∀ d la lc fs H',H d=none->H la=none->H lc=none->(∀ b o,H b=some o->b≠x->H' b=some o)->yD a H' x dx d la lc fs h->Q .ax H'
def Kc (a:aP):Sp:=λvs H Q _=>∃ (x:Addr) (h:List (Option Int)) (n:Int),vs=[.ref x,.int n]/\fq a H x h/\bw h=true/\0<=n/\n<=5/\gB h n=none/\Q (.int (f_ h n)) H
def Ge (a:aP):Sp:=λvs H Q _=>∃ (x:Addr) (h:List (Option Int)) (n s:Int),vs=[.ref x,.int n,.int s]/\fq a H x h/\Q (.int (iE h n s)) H
def HJ (a:aP):Sp:=λvs H Q _=>∃ (x:Addr) (h:List (Option Int)) (n b:Int),vs=[.ref x,.int n,.int b]/\fq a H x h/\bw h=true/\0<=n/\n<=5/\0<=b/\b<=7/\∀ l H',ah H H'->cB a H H' l (wN h n b)->Q (.ref l) H'
def Hd (a:aP):Sp:=λvs H Q _=>∃ (x:Addr) (h:List (Option Int)) (n b:Int),vs=[.ref x,.int n,.int b]/\fq a H x h/\bw h=true/\0<=n/\n<=5/\0<=b/\b<=7/\∀ l H',ah H H'->cB a H H' l (wC h n b)->Q (.ref l) H'
def Kg (a:aP):Sp:=λvs H Q _=>∃ (x:Addr) (h:List (Option Int)) (k:Nat),vs=[.ref x,.int (k:Int)]/\fq a H x h/\bw h=true/\k<=3/\∀ l H',ah H H'->cB a H H' l (jO h k)->Q (.ref l) H'
def Nq (a:aP):Sp:=λvs H Q _=>∃ (x:Addr) (h:List (Option Int)),vs=[.ref x]/\fq a H x h/\bw h=true/\∀ l H',ah H H'->cB a H H' l (zW h)->Q (.ref l) H'
def hV (H:Hp)(v:V)(b:Bool):Prop :=
 (∃ p h,v=.ref p/\H p=some (.tup (h.map aO))/\h.length<=8/\b=bw h)∨(b=false/\((v=.ax)∨(∃ x,v=.str x)∨(∃ p us,v=.ref p/\H p=some (.lst us))∨∃ p u us,v=.ref p/\H p=some (.tup us)/\us.length=3/\(u=.bl true∨∃ x,u=.str x)/\(us=[u,.ax,.ax]∨us=[.ax,u,.ax])))
def F_:Sp:=λvs H Q _=>∃ v b,vs=[v]/\hV H v b/\∀ H',ah H H'->Q (.bl b) H'
def uP (H:Hp)(vs:List V)(bs:List Bool):Prop:=vs.length=bs.length/\∀ (i:Nat) (v:V),vs[i]? = some v->∃ b,bs[i]? = some b/\hV H v b
def Dr:Sp:=λvs H Q _=>∃ (w:Addr) (n:Int),vs=[.ref w,.int n]/\((∃ us,H w=some (.tup us)/\Q (.bl false) H)∨∃ hv bs,H w=some (.lst hv)/\uP H hv bs/\hv.length<=8/\∀ H',ah H H'->Q (.bl (decide ((bs.length:Int)=n) && bs.all id)) H')
theorem Kw {td ty tx:TE}(q:td Z H λx H1=>∃ a,x=.ref a/\Mt H1 a/\ty Z H1 λy H2=>tx Z H2 λz H3=>∃ o,c8 H3 a y o/\Q (o.getD z) H3):E8 td ty tx Z H Q:=q
variable {C:Addr}
theorem pT {mk:Int->Int->Rw}{a:aP}{i j:Int}{R:VK}{E:XK}(hk:(mk i j).ok)(hc:(mk i j).cls a=C)(q:∀ l H',ah H H'->cB a H H' l [mk i j]->R (.ref l) H') :
   ∀ x dx,H x=none->H dx=none->dx≠x->jH C mk (.ref x::[.int i,.int j]) (upd (upd H dx (.own x)) x (.ins C dx [])) (λv H2=>v=.ax/\∀ l,H2 l=none->R (.ref l) (upd H2 l (.lst [.ref x]))) E :=
 Fg (Q:=λv H2=>∀ l,H2 l=none->R (.ref l) (upd H2 l (.lst [v]))) hk hc (λp H' s np z l nl=>q l _ (s.trans (ag nl)) ⟨aB s nl,[p],U,aJ.nil.snoc (z.same (ag nl))⟩)
theorem HW {o:Option Int}(e:h[i]? = some o):dO (h.take (i+1))=dO (h.take i)++o.toList:=by
 unfold dO;rw[aaI,e,aaE,adb];cases o <;> rfl
theorem BA (h:List (Option Int)):(dO h).length<=h.length:=List.length_filterMap_le _ _
theorem Rv {x:Int}(c:Nat)(hb:oU 5 (.int x)=true):V.bl (decide (V.int (c:Int)=V.int 1))=V.bl ((decide (0<=x) && decide (x<=5)) && decide (c=1)):=by
 have hb':(decide (0<=x) && decide (x<=5))=true:=hb;rw[hb',abi]
 congr 1
 rw[decide_eq_decide];exact⟨λz=>by have:=V.int.inj z;lia,λz=>by rw[z];rfl⟩
theorem Rp {x:Int}(c:Nat)(hb:oU 5 (.int x)=false):V.bl false=V.bl ((decide (0<=x) && decide (x<=5)) && decide (c=1)):=by
 have hb':(decide (0<=x) && decide (x<=5))=false:=hb;rw[hb',abj]
theorem hV.same {v:V}{b:Bool}(h:hV H v b)(s:ah H H'):hV H' v b:=by
 rcases h with ⟨p,h,e,hp,r⟩ | ⟨e,h | h | ⟨p,us,e2,hp⟩ | ⟨p,u,us,e2,hp,r⟩⟩
 . exact .inl ⟨p,h,e,s _ _ hp,r⟩
 . exact .inr ⟨e,.inl h⟩
 . exact .inr ⟨e,.inr (.inl h)⟩
 . exact .inr ⟨e,.inr (.inr (.inl ⟨p,us,e2,s _ _ hp⟩))⟩
 . exact .inr ⟨e,.inr (.inr (.inr ⟨p,u,us,e2,s _ _ hp,r⟩))⟩
theorem vP {K:W.Frag}{ta:TA}{R:It->Hp->Prop}(q:ta Z H λvs H2=>∃ a xs,vs=[.ref a]/\av K H2 a xs/\R (DX K a) H2):Fe K ta Z H R:=q
theorem oY (f:Int->Int->Rw):∀ {bs:List Int} {i c:Nat} {b:Int},bs[i]? = some b->cy f c (bs.take (i+1))=cy f c (bs.take i)++[f b ((c+i:Nat):Int)]
 | [],_,_,_,e=>by simp at e
 | x::bs,0,c,b,e=>by cases e;rfl
 | x :: bs, i + 1, c, b, e => by
   have:=oY f (bs:=bs) (i:=i) (c:=c+1) (b:=b) (by simpa using e)
   rw[abg,abg];show f x c::cy f (c+1) (bs.take (i+1))=f x c::cy f (c+1) (bs.take i)++_;rw[this,show c+1+i=c+(i+1) from by lia];rfl
theorem uI (e:bw h=true):(∀ b∈aA h,4<=b/\b<=7)/\(aA h).length<=4/\∀ p∈bQ h,0<=p.1/\p.1<=5/\4<=p.2/\p.2<=6:=by
 have:∀ h∈vX,(∀ b∈aA h,4<=b/\b<=7)/\(aA h).length<=4/\∀ p∈bQ h,0<=p.1/\p.1<=5/\4<=p.2/\p.2<=6:=by decide +kernel
 exact this h (pR e)
theorem int_at {ns:List Int}{v:V}(hv:(ns.map V.int)[i]? = some v):∃ n,ns[i]? = some n/\v=.int n:=by
 rw[aae] at hv;obtain⟨p,hp,e⟩:=Option.map_eq_some_iff.mp hv;exact⟨p,hp,e.symm⟩
def Q5 (R:Addr->Hp->Prop):VK:=λv H=>match v with
 | .ref p=>R p H
 | _=>False
theorem vp {mk:Int->Int->Rw}{a:aP}{i j:Int}{R:Addr->Hp->Prop}{E:XK}(hk:(mk i j).ok)(hc:(mk i j).cls a=C)(q:∀ p H',ah H H'->H p=none->br a H' p (mk i j)->R p H') :
   ∀ x dx,H x=none->H dx=none->dx≠x->jH C mk (.ref x::[.int i,.int j]) (upd (upd H dx (.own x)) x (.ins C dx [])) (λv H2=>v=.ax/\R x H2) E:=Fg (Q:=Q5 R) hk hc q
theorem cO (f:Int->Int->Rw):∀ (c:Nat) (bs:List Int),(cy f c bs).length=bs.length
 | _,[]=>rfl
 | c,_::bs=>by show(cy f (c+1) bs).length+1=_;rw[cO f (c+1) bs];rfl
theorem aJ.MM {a:aP}(h:aJ a H fI rs)(hl:H l=some (.lst ys)):aJ a (upd H l o) fI rs:=h.to λp hp x e=>by
 obtain⟨r,_,dx,e2⟩:=h.mem hp;rw[af (λz=>by rw[z,hl] at e2;cases e2)];exact e
variable {qs:List Rw}
theorem aJ.app {a:aP}{Sy:List Addr}(h:aJ a H fI rs)(k:aJ a H Sy qs):aJ a H (fI++Sy) (rs++qs):=by
 refine⟨by rw[aab,aab,h.1,k.1],λi p r e1 e2=>?_⟩;by_cases hi:i<rs.length
 . rw[aak (by rw[h.1]; exact hi)] at e1;rw[aak hi] at e2;exact h.2 i p r e1 e2
 . rw[aag (by rw[h.1]; lia), h.1] at e1;rw[aag (by lia)] at e2;exact k.2 _ p r e1 e2
theorem w6:∀ (i:Nat) (bs:List Int) (h:List (Option Int)),fR bs h=fR (bs.take i) (h.take i)++fR (bs.drop i) (h.drop i)
 | 0,bs,h=>by rw[acS,acS,List.drop_zero,List.drop_zero];rfl
 | _+1,[],h=>by simp[fR]
 | _+1,_::_,[]=>by simp[fR]
 | i + 1, b :: bs, o :: h => by
   rw[abg,abg,List.drop_succ_cons,List.drop_succ_cons];show jG b o++fR bs h=(jG b o++fR (bs.take i) (h.take i))++_;rw[aaD,<- w6 i bs h]
theorem rj:∀ {i:Nat} {bs:List Int} {h:List (Option Int)} {b:Int} {o:Option Int},bs[i]? = some b->h[i]? = some o->fR (bs.take (i+1)) (h.take (i+1))=fR (bs.take i) (h.take i)++jG b o
 | _,[],_,_,_,e,_=>by simp at e
 | _,_::_,[],_,_,_,e=>by simp at e
 | 0, b' :: bs, o' :: h, b, o, e1, e2 => by
   cases e1;cases e2
   show jG b' o'++fR [] []=[]++jG b' o';rw[List.nil_append];exact aaJ _
 | i + 1, b' :: bs, o' :: h, b, o, e1, e2 => by
   have:=rj (i:=i) (bs:=bs) (h:=h) (b:=b) (o:=o) (by simpa using e1) (by simpa using e2)
   rw[abg,abg,abg,abg];show jG b' o'++fR (bs.take (i+1)) (h.take (i+1))=(jG b' o'++fR (bs.take i) (h.take i))++_;rw[this,aaD]
theorem Jw {b n:Int}(hn:((bQ h).map (·.1)).Nodup)(e1:([4,5,6]:List Int)[i]? = some b)(e2:h[i]? = some (some n)):n ∉ (fR (([4,5,6]:List Int).take i) (h.take i)).map (·.1):=by
 unfold bQ at hn;rw[w6 (i+1) [4,5,6] h,rj e1 e2,aal,aal] at hn;have h1:=(List.nodup_append.mp hn).1;intro hm;exact(List.nodup_append.mp h1).2.2 n hm n (List.mem_singleton.mpr rfl) rfl
theorem pF (bs:List Int)(h:List (Option Int)):(fR bs h).length<=bs.length:=by
 induction bs generalizing h with
 | nil=>cases h <;> exact aai _
 | cons b bs ih =>
   cases h with
   | nil=>exact aaW _
   | cons o h =>
     show(jG b o++fR bs h).length<=_
     have:=ih h
     rw[aab,aaq];cases o <;> (simp only[jG,aaZ,aaq];lia)
variable {H1:Hp}
theorem dN {x:Addr}{o1:HO}(k:∀ b o,H b=some o->b≠x->H1 b=some o)(hx:H1 x=some o1)(n:H1 l=none):H l=none:=by
 cases e:H l with
 | none=>rfl
 | some o =>
   have ne:l≠x:=λz=>by rw[z,hx] at n;cases n
   rw[k l o e ne] at n;cases n
theorem F5 (h:List (Option Int)):(((aaU 6).filter λi:Nat=>(gB h (i:Int)).isNone).map λi:Nat=>V.int (i:Int))=(cT h).map V.int:=by
 have e:(([0,1,2,3,4,5]:List Int))=(aaU 6).map λi:Nat=>(i:Int):=by decide
 unfold cT;rw[e,List.filter_map,abv];rfl
def BG (a:aP)(H H1:Hp)(l:Addr)(rs:List Rw):Prop:=H l=none/\ah H H1/\∃ fI:List Addr,H1 l=some (.lst (fI.map V.ref))/\aJ a H1 fI rs
variable {H2:Hp}
theorem Ia {a:aP}{le:Addr}(B:BG a H H1 l rs)(s:ah H1 H2)(N:cB a H1 H2 le qs)(hz:rs.length+qs.length<=4000)(q:∀ H3,BG a H H3 l (rs++qs)->Q .ax H3):pz (.ref l) [.ref le] H2 Q:=by
 obtain⟨nl,s1,fI,hl,hr⟩:=B;obtain⟨ne,Sy,Vn,hq⟩:=N;have Sk:=s _ _ hl;refine jD Sk Vn (by rw[aaa,aaa,hr.1,hq.1,aan];lia) ?_;refine q _ ⟨nl,λb o e=>by rw[af (ae e nl)];exact s _ _ (s1 _ _ e),fI++Sy,by rw[U,aal],?_⟩;exact((hr.same s).app hq).MM Sk
theorem uL (h:List (Option Int))(n b:Int):(wN h n b).length<=1:=by
 unfold wN;cases gB h n with
 | none=>exact aai _
 | some x =>
   show(if x=b then [] else [Rw.copy x b]).length<=1;by_cases e:x=b
   . rw[if_pos e];exact aaW _
   . rw[if_neg e];exact aai _
theorem strs_snoc (h:List (Option Int))(k:Nat):d7 h (k+1)=d7 h k++wN h (k:Int) (k:Int):=by
 unfold d7;rw[ab_,acF,List.flatMap_cons,List.flatMap_nil,aaJ]
theorem mh (h:List (Option Int)):∀ k:Nat,(d7 h k).length<=k
 | 0=>aai _
 | k + 1 => by
   have h1:=mh h k;have h2:=uL h (k:Int) (k:Int);rw[strs_snoc,aab];lia
def gk (k:Nat)(ps:List (Int×Int)):List Rw:=(ps.filter λp=>decide ((k:Int)<=p.1)).map λp=>.set p.2 0
theorem Es {k:Nat}{ps:List (Int×Int)}{p:Int×Int}(e:ps[i]? = some p):gk k (ps.take (i+1))=gk k (ps.take i)++(if (k:Int)<=p.1 then [.set p.2 0] else []):=by
 unfold gk;rw[aaI,e,aaE,acN,aal];by_cases h:(k:Int)<=p.1
 . rw[if_pos h];simp[List.filter,h]
 . rw[if_neg h];simp[List.filter,h]
theorem r9 (k:Nat)(ps:List (Int×Int)):(gk k ps).length<=ps.length:=by
 unfold gk;rw[aaa];exact acs _ _
theorem J1 {kk:Key}{v:V}(e:(aD ls)[i]? = some (kk,v)):∃ n b,ls[i]? = some (n,b)/\kk=.inl n/\v=.int b:=by
 unfold aD at e;rw[aae] at e;obtain⟨p,hp,e⟩:=Option.map_eq_some_iff.mp e;cases e
 exact⟨p.1,p.2,hp,rfl,rfl⟩
def Ds (h:List (Option Int))(x:Int):List Rw:=.set (iE h x 0) 7::wN h x (iE h x 0)
theorem Ke (e:bw h=true){n:Int}(h0 : 0<=n)(h5:n<=5) : 0<=iE h n 0/\iE h n 0<=7:=by
 unfold iE;rcases tO e h0 h5 with ⟨k,_,_⟩ | ⟨b,k,b4,b6⟩
 . rw[k];exact⟨Int.le_refl 0,by decide⟩
 . rw[k];exact⟨by show 0<=b;lia,by show b<=7;lia⟩
def JF (a:aP):Sp:=λvs H Q _=>∃ (fr mv:Addr) (h:List (Option Int)) (x:Int),vs=[.ref fr,.ref mv]/\H mv=some (.tup (Sx.set x).vs)/\fq a H fr h/\bw h=true/\By x/\∀ l H',ah H H'->cB a H H' l (Ds h x)->Q (.ref l) H'
def AW:Rw->Bool
 | .ck _=>true
 | _=>false
def gF (pl:List (Int×Int))(t:Int):Option Int:=(pl.find? λp=>decide (p.1=t)).map (·.2)
def ju (pl:List (Int×Int)):Rw->Rw
 | .ck t=>.ck ((gF pl t).getD 0)
 | r=>r
def Kb (a:aP)(t:Int):Sp:=λvs H Q _=>∃ (x:Addr) (d:Int),vs=[.ref x,.int d]/\br a H x (.ck t)/\0<=t+d/\t+d<=2000/\∀ p H',ah H H'->br a H' p (.ck (t+d))->Q (.ref p) H'
def sq (pl:List (Int×Int))(r:Rw):Prop:=∀ t,r=.ck t->∃ n,gF pl t=some n/\0<=n/\n<=2000
def D6 (a:aP):Sp:=λvs H Q _=>∃ (p d:Addr) (r:Rw) (pl:List (Int×Int)),vs=[.ref p,.ref d]/\br a H p r/\r.here/\H d=some (.dK (aD pl))/\sq pl r/\∀ p' H',ah H H'->br a H' p' (ju pl r)->Q (.ref p') H'
theorem vo {K:W.Frag}{a:aP}{H0:Hp}{l1 l2:Addr}(s0:ah H0 H1)(N1:cB a H0 H1 l1 rs)(s:ah H1 H2)(N2:cB a H1 H2 l2 qs)(hz:rs.length+qs.length<=4000)(q:∀ p H3,ah H0 H3->cB a H0 H3 p (rs++qs)->Q (.ref p) H3):uk K (.ref l1) (.ref l2) H2 Q:=by
 obtain⟨n1,ps,h1,r1⟩:=N1;obtain⟨n2,Wj,h2,r2⟩:=N2;refine bA (s _ _ h1) h2 (by rw[aaa,aaa,r1.1,r2.1,aan];lia) λp np=>?_;exact q p _ ((s0.trans s).trans (ag np)) ⟨aB (s0.trans s) np,ps++Wj,by rw[U,aal],((r1.same s).app r2).same (ag np)⟩
theorem sv {a:aP}{H0:Hp}{r:Addr}{rw:Rw}(s0:ah H H0)(w:br a H0 r rw)(nl:H0 l=none):ah H (upd H0 l (.lst [.ref r]))/\cB a H (upd H0 l (.lst [.ref r])) l [rw] :=
 ⟨s0.trans (ag nl),aB s0 nl,[r],U,aJ.nil.snoc (w.same (ag nl))⟩
structure c5 where
 ns:List Nat
 hs:List (List (Option Int))
 x:Int
structure mE where
 (HB:Hp) (dx:Addr) (fs:List (Str×V)) (lh lb lf lg ld lp ll:Addr) (bs bE:List Addr)
def c5.ss (D:c5):List Sx:=[.set D.x,.give 1,.leave]
def c5.gs (D:c5):List Int:=(aaU D.ns.length).map λi:Nat=>5*(i:Int)
structure c5.ok (D:c5):Prop where
 n:D.ns.length<=3
 h:D.hs.length=D.ns.length
 ns:∀ k∈D.ns,k<=3
 hs:∀ h∈D.hs,bw h=true
 x:By D.x
structure Pn (E:mE):Prop where
 handed:E.fs.lookup ("handed" : Str)=some (.ref E.lh)
 zU:E.fs.lookup ("bodies" : Str)=some (.ref E.lb)
 frames:E.fs.lookup ("frames" : Str)=some (.ref E.lf)
 D7:E.fs.lookup ("begins" : Str)=some (.ref E.lg)
 yp:E.fs.lookup ("drafts" : Str)=some (.ref E.ld)
 places:E.fs.lookup ("places" : Str)=some (.ref E.lp)
 lands:E.fs.lookup ("landing_labels" : Str)=some (.ref E.ll)
 len:E.fs.length<=9
 no:∀ x:Str,x∈(["label","end_label","here","add_function","rows_of","finished"]:List Str)->E.fs.lookup x=none
structure Q4 (a:aP)(E:mE)(D:c5):Prop where
 F:Pn E
 nd:E.HB E.ld=none
 np:E.HB E.lp=none
 ne:E.ld≠E.lp
 ok:D.ok
 hh:E.HB E.lh=some (.lst (D.ns.map λk:Nat=>V.int (k:Int)))
 hb:E.HB E.lb=some (.lst (E.bs.map V.ref))
 bs:E.bs.length=D.ns.length/\∀ b∈E.bs,ix E.HB b D.ss
 hf:E.HB E.lf=some (.lst (E.bE.map V.ref))
 fl:E.bE.length=D.ns.length
 fr:∀ (i:Nat) (f:Addr),E.bE[i]? = some f->∃ h,D.hs[i]? = some h/\fq a E.HB f h
structure dX (a:aP)(H:Hp)(m:Addr)(E:mE)(D:c5)(rs:List Rw)(pl:List (Int×Int)):Prop where
 B:Q4 a E D
 st:ah E.HB H
 hm:H m=some (.ins a.ay E.dx E.fs)
 hg:H E.lg=some (.lst (D.gs.map V.int))
 hl:H E.ll=some (.dK [])
 hd:∃ fI:List Addr,H E.ld=some (.lst (fI.map V.ref))/\aJ a H fI rs
 hp:H E.lp=some (.dK (aD pl))
 Pq:E.lg≠E.ld
 iK:E.ll≠E.lp
def KD (E:mE)(H H':Hp):Prop:=∀ b o,H b=some o->b≠E.ld->b≠E.lp->H' b=some o
variable {E:mE}
theorem KD.trans (k:KD E H H1)(k2:KD E H1 H2):KD E H H2:=λb o e n1 n2=>k2 b o (k b o e n1 n2) n1 n2
theorem ah.kd (s:ah H H'):KD E H H':=λb o e _ _=>s b o e
variable {D:c5}
theorem Ey {f:Nat}(h:f<D.ns.length):gI D.gs (f:Int)=5*(f:Int):=by
 unfold gI c5.gs;rw[aaA,List.getD_eq_getElem?_getD,aae,acE h];rfl
variable {pl:List (Int×Int)} {m:Addr}
theorem dX.kd {a:aP}(S:dX a H m E D rs pl)(k:KD E H H'){rs':List Rw}{pl':List (Int×Int)}(hd:∃ fI:List Addr,H' E.ld=some (.lst (fI.map V.ref))/\aJ a H' fI rs')(hp:H' E.lp=some (.dK (aD pl'))):dX a H' m E D rs' pl':=by
 obtain⟨fI,VV,_⟩:=S.hd;have Uy:=S.hp
 exact ⟨S.B, λb o e => k b o (S.st b o e) (λz => by rw [z, S.B.nd] at e; cases e) (λz => by rw [z, S.B.np] at e; cases e),
   k _ _ S.hm (λz=>by have h:=S.hm;rw[z,VV] at h;cases h) (λz=>by have h:=S.hm;rw[z,Uy] at h;cases h),
   k _ _ S.hg S.Pq (λz=>by have h:=S.hg;rw[z,Uy] at h;cases h),k _ _ S.hl (λz=>by have h:=S.hl;rw[z,VV] at h;cases h) S.iK,hd,hp,S.Pq,S.iK⟩
theorem dX.same {a:aP}(S:dX a H m E D rs pl)(s:ah H H'):dX a H' m E D rs pl:=by
 obtain⟨fI,VV,hr⟩:=S.hd;exact S.kd (ah.kd s) ⟨fI,s _ _ VV,hr.same s⟩ (s _ _ S.hp)
def Ko (a:aP):Sp:=λvs H Q _=>∃ (m:Addr) (f k:Nat) (E:mE) (D:c5) (rs:List Rw) (pl:List (Int×Int)),vs=[.ref m,.int (f:Int),.int (k:Int)]/\dX a H m E D rs pl/\f<D.ns.length/\Q (.int (5*(f:Int)+1+(k:Int))) H
def Ni (a:aP):Sp:=λvs H Q _=>∃ (m:Addr) (f:Nat) (E:mE) (D:c5) (rs:List Rw) (pl:List (Int×Int)),vs=[.ref m,.int (f:Int)]/\dX a H m E D rs pl/\f<D.ns.length/\Q (.int (5*(f:Int)+4)) H
def MX (a:aP):Sp:=λvs H Q _=>∃ (m:Addr) (l:Int) (E:mE) (D:c5) (rs:List Rw) (pl:List (Int×Int)),vs=[.ref m,.int l]/\dX a H m E D rs pl/\gF pl l=none/\pl.length<=100/\∀ H',KD E H H'->dX a H' m E D rs (pl++[(l,(rs.length:Int))])->Q .ax H'
theorem Gp {l:List (Int×Int)}{r:Int}(h:gF l c=none):putK (aD l) (.inl c) (.int r)=aD (l++[(c,r)]):=by
 rw[zv _ (by rw[pB];unfold gF at h;rw[h];rfl)];unfold aD;rw[aal];rfl
theorem i3 {bs:List Addr}{f:Nat}{b:Addr}(e:bs[f]? = some b):cI (bs.map V.ref) (f:Int)=some (.ref b):=by
 have hf:f<bs.length:=(List.getElem?_eq_some_iff.mp e).1;unfold cI mC;rw[aaa,if_pos (aaO _),if_pos (by lia),aaA];show(bs.map V.ref)[f]? = _;rw[aae,e];rfl
theorem aJ.dup {a:aP}{kv:List (Key×V)}(h:aJ a H fI rs)(hl:H l=some (.dK kv)):aJ a (upd H l o) fI rs:=h.to λp hp x e=>by
 obtain⟨r,_,dx,e2⟩:=h.mem hp;rw[af (λz=>by rw[z,hl] at e2;cases e2)];exact e
theorem dX.place {a:aP}(S:dX a H m E D rs pl)(pl':List (Int×Int)):KD E H (upd H E.lp (.dK (aD pl')))/\dX a (upd H E.lp (.dK (aD pl'))) m E D rs pl':=by
 have k:KD E H (upd H E.lp (.dK (aD pl'))):=λb o e _ n=>by rw[af n];exact e
 obtain⟨fI,hd,Ux⟩:=S.hd;exact⟨k,S.kd k ⟨fI,by rw[af S.B.ne];exact hd,Ux.dup S.hp⟩ U⟩
theorem dX.ua {a:aP}{le:Addr}(S:dX a H m E D rs pl)(s:ah H H1)(N:cB a H H1 le qs)(hz:rs.length+qs.length<=4000)(q:∀ H',KD E H H'->dX a H' m E D (rs++qs) pl->Q .ax H'):pz (.ref E.ld) [.ref le] H1 Q:=by
 obtain⟨fI,hd,hr⟩:=S.hd;obtain⟨ne,Sy,Vn,hq⟩:=N;have SW:=s _ _ hd;refine jD SW Vn (by rw[aaa,aaa,hr.1,hq.1,aan];lia) ?_;have k:KD E H (upd H1 E.ld (.lst (fI.map V.ref++Sy.map V.ref))):=λb o e n _=>by rw[af n];exact s _ _ e
 refine q _ k (S.kd k ⟨fI++Sy,by rw[U,aal],((hr.same s).app hq).MM SW⟩ ?_);rw[af S.B.ne.symm];exact s _ _ S.hp
theorem P8 (T:TX)(hr:r.here)(h:br a H p r):∃ t',bH K H (.ref p) t'/\aba K t' (.ref a.aW)=some (AW r)/\aba K t' (.ref a.bC)=some false/\aba K t' (.ref a.bL)=some false:=by
 obtain⟨dx,e⟩:=h;cases r
 . exact⟨_,bH.ins e T.k7 T.tN.1 T.iG T.iL T.tN.2,T.qK,T.mW,T.km⟩
 . exact⟨_,bH.ins e T.iX T.pI.1 T.iG T.iL T.pI.2,T.nO,T.kT,T.js⟩
 . exact hr.elim
 . exact hr.elim
 . exact hr.elim
 . exact hr.elim
 . exact⟨_,bH.ins e T.iZ T.pX.1 T.iG T.iL T.pX.2,T.oO,T.kC,T.jx⟩
 . exact⟨_,bH.ins e T.fV T.jP.1 T.iG T.iL T.jP.2,T.lK,T.jr,T.gK⟩
 . exact⟨_,bH.ins e T.kU T.uQ.1 T.iG T.iL T.uQ.2,T.qQ,T.mU,T.j8⟩
 . exact⟨_,bH.ins e T.lu T.uw.1 T.iG T.iL T.uw.2,T.qE,T.mH,T.ke⟩
 . exact⟨_,bH.ins e T.gJ T.pQ.1 T.iG T.iL T.pQ.2,T.nI,T.kG,T.jv⟩
 . exact hr.elim
 . exact hr.elim
 . exact⟨_,bH.ins e T.i7 T.pL.1 T.iG T.iL T.pL.2,T.oS,T.kW,T.jE⟩
 . exact hr.elim
def Ca (h:List (Option Int))(x:Int)(f:Nat):Nat->List Rw
 | 0=>Ds h x
 | 1=>wC h 1 0++[.ck (5*(f:Int)+4)]
 | _=>[.set 0 0]
def HZ (a:aP):Sp:=λvs H Q _=>∃ (m:Addr) (f k:Nat) (h:List (Option Int)) (E:mE) (D:c5) (rs:List Rw) (pl:List (Int×Int)),vs=[.ref m,.int (f:Int),.int (k:Int)]/\dX a H m E D rs pl/\f<D.ns.length/\D.hs[f]? = some h/\k<3/\∀ l H',ah H H'->cB a H H' l (Ca h D.x f k)->Q (.ref l) H'
theorem D5 (h:List (Option Int))(n b:Int):(wC h n b).length<=1:=by
 unfold wC;cases gB h n <;> exact aai _
def fD (h:List (Option Int))(x:Int)(f:Nat)(i:Nat):List Rw:=(aaU i).flatMap (Ca h x f)
def fZ (h:List (Option Int))(n:Nat)(x:Int)(f:Nat):List Rw:=jO h n++fD h x f 3++(zW h++[.back 7])
def iN (L:Nat)(h:List (Option Int))(n:Nat)(x:Int)(f:Nat)(i:Nat):List (Int×Int):=(5*(f:Int),(L:Int))::(aaU i).map λk:Nat=>(5*(f:Int)+1+(k:Int),((L+(jO h n).length+(fD h x f k).length:Nat):Int))
theorem kD (h:List (Option Int))(x:Int)(f i:Nat):fD h x f (i+1)=fD h x f i++Ca h x f i:=by
 unfold fD;rw[ab_,acF,List.flatMap_cons,List.flatMap_nil,aaJ]
theorem se (L:Nat)(h:List (Option Int))(n:Nat)(x:Int)(f i:Nat):iN L h n x f (i+1)=iN L h n x f i++[(5*(f:Int)+1+(i:Int),((L+(jO h n).length+(fD h x f i).length:Nat):Int))]:=by
 unfold iN;rw[ab_,aal];rfl
theorem uh {L:Nat}{x:Int}{f:Nat}:∀ p∈iN L h n x f i,p.1<5*(f:Int)+1+(i:Int):=by
 intro p hp;unfold iN at hp;rcases List.mem_cons.mp hp with rfl | hp
 . show 5*(f:Int)<_;lia
 . obtain⟨k, hk, rfl⟩ := List.mem_map.mp hp
   have:=List.mem_range.mp hk
   show 5*(f:Int)+1+(k:Int)<_;lia
theorem lz (L:Nat)(h:List (Option Int))(n:Nat)(x:Int)(f i:Nat):(iN L h n x f i).length=i+1:=by
 unfold iN;rw[aaq,aaa,aa4]
theorem ky (h:∀ p∈pl,p.1<c):gF pl c=none:=by
 unfold gF;rw[List.find?_eq_none.mpr (λp hp=>by have:=h p hp;rw[decide_eq_true_eq];lia)];rfl
theorem Be (h:List (Option Int))(x:Int)(f k:Nat):(Ca h x f k).length<=2:=by
 match k with
 | 0=>have:=uL h x (iE h x 0);show(wN h x (iE h x 0)).length+1<=2;lia
 | 1=>have:=D5 h 1 0;show(wC h 1 0++[_]).length<=2;rw[aab];show _+1<=2;lia
 | _+2=>exact ack 1
theorem oZ (h:List (Option Int))(x:Int)(f:Nat):∀ i,(fD h x f i).length<=2*i
 | 0=>aai _
 | i+1=>by have:=oZ h x f i;have:=Be h x f i;rw[kD,aab];lia
theorem zL (e:bw h=true){k:Nat}(hk:k<=3):(jO h k).length<=11:=by
 have h1:=cO .put 0 (aA h);have h2:=mh h k;have h3:=r9 k (bQ h);have h4:(bQ h).length<=3:=pF [4,5,6] h;have h5:=(uI e).2.1;show(Rw.grow 7::cy .put 0 (aA h)++d7 h k++gk k (bQ h)).length<=11;rw[aab,aab,aaq,h1];lia
theorem D4 (e:bw h=true):(zW h).length<=5:=by
 have h1:=cO .get 0 (aA h);have h5:=(uI e).2.1;unfold zW;rw[aab,h1];show _+1<=5;lia
def KZ (a:aP):Sp:=λvs H Q _=>∃ (m:Addr) (f n:Nat) (h:List (Option Int)) (E:mE) (D:c5) (rs:List Rw) (pl:List (Int×Int)),vs=[.ref m,.int (f:Int)]/\dX a H m E D rs pl/\D.hs[f]? = some h/\D.ns[f]? = some n/\(∀ p∈pl,p.1<5*(f:Int))/\pl.length<=20/\rs.length<=200/\∀ H',KD E H H'->dX a H' m E D (rs++fZ h n D.x f) (pl++iN rs.length h n D.x f 3++[(5*(f:Int)+4,((rs.length+(jO h n).length+(fD h D.x f 3).length:Nat):Int))])->Q .ax H'
theorem Ka {ns:List Nat}{f:Nat}(e:ns[f]? = some n):cI (ns.map λk:Nat=>V.int (k:Int)) (f:Int)=some (.int (n:Int)):=by
 have hf:f<ns.length:=(List.getElem?_eq_some_iff.mp e).1;unfold cI mC;rw[aaa,if_pos (aaO _),if_pos (by lia),aaA];show(ns.map λk:Nat=>V.int (k:Int))[f]? = _;rw[aae,e];rfl
def BZ (a:aP)(H:Hp)(t:Addr)(n:Nat):Prop:=∃ dt l d ev,H t=some (.ins a.cM dt (yC l d))/\H l=some (.lst ev)/\ev.length=n
def NY (a:aP):Sp:=λvs H Q _=>∃ (m:Addr) (E:mE) (D:c5) (rs:List Rw) (pl:List (Int×Int)),vs=[.ref m]/\dX a H m E D rs pl/\(∀ r∈rs,r.ok/\r.here/\sq pl r)/\rs.length<=2000/\(∃ S0,Lb (rs.map (ju pl)) S0 []) /\
 ∀ (tt c t:Addr) (fI:List Addr) (H':Hp),ah H H'->H' tt=some (.tup [.ref c,.ref t])->H' c=some (.lst (fI.map V.ref))->fI.length=rs.length->BZ a H' t rs.length->Q (.ref tt) H'
theorem Mv (h:r.ok/\r.here/\sq pl r):(ju pl r).ok/\(ju pl r).here:=by
 obtain⟨h1,h2,h3⟩:=h;cases r with
 | ck t =>
   obtain⟨n,hn,n0,n2⟩:=h3 t rfl;refine⟨?_,h2⟩;show(Rw.ck ((gF pl t).getD 0)).ok;rw[hn];exact⟨n0,n2⟩
 | _=>exact⟨h1,h2⟩
def E_ (a:aP):Sp:=λvs H Q _=>∃ (x dx pr w:Addr) (fs:List Addr) (hv:List V) (D:c5),vs=[.ref x,.ref pr,.ref w]/\H x=some (.ins a.ay dx [])/\H pr=some (.lst (fs.map V.ref))/\bJ (gO H) fs (D.ns.map λn:Nat=>⟨(n:Int),[.set D.x,.give 1]⟩)/\H w=some (.lst hv)/\hv.length=D.hs.length/\(∀ (i:Nat) (v:V),hv[i]? = some v->∃ h,D.hs[i]? = some h/\eF H v h)/\D.ok /\
 ∀ (E:mE) H',(∀ b o,H b=some o->b≠x->H' b=some o)->H E.ld=none->H E.lp=none->dX a H' x E D [] []->Q .ax H'
theorem ka.off {x:Addr}{fs:List (Str×V)}{ss:List Sx}(h:ka H l ss)(hx:H x=some (.ins C dx fs))(k:∀ b o,H b=some o->b≠x->H' b=some o):ka H' l ss:=by
 obtain⟨ps,a,b⟩:=h;exact⟨ps,k _ _ a (λz=>by rw[z,hx] at a;cases a),b.to λp s (z:H p=some (.tup s.vs))=>k _ _ z (λy=>by rw[y,hx] at z;cases z)⟩
theorem ix.off {x:Addr}{fs:List (Str×V)}{ss:List Sx}(h:ix H l ss)(hx:H x=some (.ins C dx fs))(k:∀ b o,H b=some o->b≠x->H' b=some o):ix H' l ss:=by
 obtain⟨ps,a,b⟩:=h;exact⟨ps,k _ _ a (λz=>by rw[z,hx] at a;cases a),b.to (gT.to λc xs e=>k _ _ e (λy=>by rw[y,hx] at e;cases e))⟩
theorem fq.off {a:aP}{x:Addr}{fs:List (Str×V)}(r:fq a H f h)(hx:H x=some (.ins C dx fs))(ne:f≠x)(k:∀ b o,H b=some o->b≠x->H' b=some o):fq a H' f h:=by
 obtain⟨dx',d,la,lc,fs',r⟩:=r;have h1:=r.hd;have h2:=r.ha;have h3:=r.hc;exact⟨dx',d,la,lc,fs',k _ _ r.hx ne,r.F,k _ _ h1 (λz=>by rw[z,hx] at h1;cases h1),k _ _ h2 (λz=>by rw[z,hx] at h2;cases h2),k _ _ h3 (λz=>by rw[z,hx] at h3;cases h3)⟩
def fL (x:Addr)(H:Hp):Hp:=λb=>if b=x then none else H b
theorem i4 {x b:Addr}(e:H b=some o)(ne:b≠x):fL x H b=some o:=by unfold fL;rw[if_neg ne];exact e
theorem yX {x:Addr}(k:∀ b o,H b=some o->b≠x->H' b=some o):ah (fL x H) H':=λb o e=>by
 unfold fL at e;by_cases h:b=x
 . rw[if_pos h] at e;cases e
 . rw[if_neg h] at e;exact k b o e h
theorem zP {x:Addr}(e:H l=none):fL x H l=none:=by
 unfold fL;by_cases h:l=x
 . rw[if_pos h]
 . rw[if_neg h];exact e
def c5.rows (D:c5):Nat->List Rw
 | 0=>[]
 | k+1=>D.rows k++fZ ((D.hs[k]?).getD []) ((D.ns[k]?).getD 0) D.x k
def c5.iF (D:c5):Nat->List (Int×Int)
 | 0=>[]
 | k+1=>D.iF k++iN (D.rows k).length ((D.hs[k]?).getD []) ((D.ns[k]?).getD 0) D.x k 3++[(5*(k:Int)+4,(((D.rows k).length+(jO ((D.hs[k]?).getD []) ((D.ns[k]?).getD 0)).length+(fD ((D.hs[k]?).getD []) D.x k 3).length:Nat):Int))]
theorem Lx (e:bw h=true)(hn:n<=3)(x:Int)(f:Nat):(fZ h n x f).length<=23:=by
 have h1:=zL e hn;have h2:=oZ h x f 3;have h3:=D4 e;unfold fZ;rw[aab,aab,aab];show _+_+(_+1)<=23;lia
theorem kK (ok:D.ok){k:Nat}(hk:k<D.ns.length):∃ h n,D.hs[k]? = some h/\D.ns[k]? = some n/\bw h=true/\n<=3:=by
 have h1:D.hs[k]? = some (D.hs[k]'(by rw[ok.h];exact hk)):=aac _;have h2:D.ns[k]? = some (D.ns[k]'hk):=aac _;exact⟨_,_,h1,h2,ok.hs _ (aad h1),ok.ns _ (aad h2)⟩
theorem eX (ok:D.ok):∀ k,k<=D.ns.length->(D.rows k).length<=23*k
 | 0,_=>aai _
 | k + 1, hk => by
   have ih:=eX ok k (by lia);obtain⟨h,n,e1,e2,e3,e4⟩:=kK ok (k:=k) (by lia);show(D.rows k++fZ ((D.hs[k]?).getD []) ((D.ns[k]?).getD 0) D.x k).length<=_;rw[e1,e2,aab]
   have:=Lx e3 e4 D.x k
   show _+(fZ h n D.x k).length<=_;lia
theorem vv (D:c5):∀ k,(D.iF k).length=5*k
 | 0=>rfl
 | k + 1 => by
   have ih:=vv D k;show(D.iF k++iN _ _ _ _ _ 3++[_]).length=_;rw[aab,aab,lz,ih];show 5*k+4+1=_;lia
theorem uD (D:c5):∀ k,∀ p∈D.iF k,p.1<5*(k:Int)
 | 0,p,hp=>by cases hp
 | k + 1, p, hp => by
   rcases List.mem_append.mp hp with z | z
   . rcases List.mem_append.mp z with z | z
     . have:=uD D k p z;lia
     . have:=uh p z;lia
   . rw[List.mem_singleton.mp z];show 5*(k:Int)+4<_;lia
def pK (a:aP):Sp:=λvs H Q E=>∃ (pr:Addr) (Fs:List Fx) (hvv:V),vs=[.ref pr,hvv]/\eW H pr Fs /\
 ((ja Fs=false/\∀ H',ah H H'->E (.ref a.cD) none H') ∨
  (ja Fs=true/\(∃ w,hvv=.ref w/\((∃ us,H w=some (.tup us))∨∃ hv bs,H w=some (.lst hv)/\uP H hv bs/\hv.length<=8/\(decide ((bs.length:Int)=(Fs.length:Int)) && bs.all id)=false))/\∀ H',ah H H'->E (.ref a.cD) none H') ∨
  (ja Fs=true/\∃ D:c5,D.ok/\Fs=D.ns.map (λn:Nat=>⟨(n:Int),[.set D.x,.give 1]⟩)/\((hvv=.ax/\D.hs=D.ns.map λ_=>[none,none,none])∨∃ w hv,hvv=.ref w/\H w=some (.lst hv)/\hv.length=D.hs.length/\∀ (i:Nat) (v:V),hv[i]? = some v->∃ h,D.hs[i]? = some h/\eF H v h) /\
    (∀ r∈D.rows D.ns.length,r.ok/\r.here/\sq (D.iF D.ns.length) r)/\(∃ S0,Lb ((D.rows D.ns.length).map (ju (D.iF D.ns.length))) S0 []) /\
    ∀ (tt c t:Addr) (fI:List Addr) (H':Hp),ah H H'->H' tt=some (.tup [.ref c,.ref t])->H' c=some (.lst (fI.map V.ref))->fI.length=(D.rows D.ns.length).length->BZ a H' t (D.rows D.ns.length).length->Q (.ref tt) H'))
def vz (aw:List Int)(pl:Nat->Bool)(r:Int):Int:=match aw.findIdx? (λb=>decide (b=r)) with
 | some j=>if pl j=true then 2 ^ (14 - j) else 2 ^ r.toNat
 | none=>2 ^ r.toNat
def jy (aw:List Int)(pl:Nat->Bool)(h:Int):Ent:=⟨h,vz aw pl 7,vz aw pl 4,vz aw pl 5,vz aw pl 6⟩
def lV (aw:List Int):List Ent:=jy aw (λ_=>false) 0::(aaU aw.length).map λi=>jy aw (λj=>decide (j<i)) 7
def dJ (aw:List Int):Ent:=jy aw (λ_=>true) 7
def ki (aw:List Int):List Ent:=((aaU (aw.length+1)).map λk=>jy aw (λj=>decide (k<=j)) 7)++[jy aw (λ_=>false) 0]
def fm (h:List (Option Int))(n:Nat)(x:Int)(f:Nat):List Rw:=d7 h n++gk n (bQ h)++fD h x f 3
def oJ (h:List (Option Int))(n:Nat)(x:Int):List Ent:=lV (aA h)++aaL (fm h n x 0).length (dJ (aA h))++ki (aA h)
theorem Ol {rs0 RS:List Rw}{es0:List Ent}(hl:es0.length=rs0.length)(h0:es0[0]? = some ⟨0,128,16,32,64⟩)(h:∀ (i:Nat) (r:Rw) (e:Ent),rs0[i]? = some r->es0[i]? = some e->cX r e=none/\(∀ t,r≠.call t)/\∀ c∈r.cP (i:Int),∃ (k:Nat) (t:Ent),c=(k:Int)/\es0[k]? = some t/\r.aC e.h=some t.h/\cz r e t=none) :
   Lb (rs0++RS) (es0.map some++aaL RS.length none) []:=by
 have up:∀ (k:Nat) (t:Ent),es0[k]? = some t->(es0.map some++aaL RS.length none)[k]?.join=some t:=λk t e=>by
   have hk:k<es0.length:=(List.getElem?_eq_some_iff.mp e).1;rw[aak (by rw[aaa];exact hk),aae,e];rfl
 have dn:∀ (i:Nat) (r:Rw) (e:Ent),(rs0++RS)[i]? = some r->(es0.map some++aaL RS.length none)[i]?.join=some e->rs0[i]? = some r/\es0[i]? = some e:=λi r e hr he=>by
   by_cases hi:i<es0.length
   . rw[aak (by rw[aaa]; exact hi), aae, aac hi] at he;rw[aak (by rw[<- hl];exact hi)] at hr;exact⟨hr,by rw[aac hi];exact he⟩
   . rw[aag (by rw[aaa]; lia), aaa, abe] at he;split at he <;> cases he
 have elen:(es0.map some++aaL RS.length none).length=es0.length+RS.length:=by rw[aab,aaa,aao]
 refine⟨by rw[elen,aab,hl],λ_=>up 0 _ h0,λi r e hr he=>?_,λi r e c hr he hc=>?_,λi t e hr he=>?_,λk hk=>by cases hk⟩
 . obtain⟨a1, a2⟩ := dn i r e hr he;exact(h i r e a1 a2).1
 . obtain⟨a1, a2⟩ := dn i r e hr he;obtain⟨k,t,rfl,ht,hh,hw⟩:=(h i r e a1 a2).2.2 c hc;have hk:k<es0.length:=(List.getElem?_eq_some_iff.mp ht).1;unfold eG;rw[if_pos ⟨aaO _,by rw[elen];lia⟩,aaA,up k t ht];show(if r.aC e.h=some t.h then cz r e t else some .aC)=none;rw[if_pos hh];exact hw
 . obtain⟨a1, a2⟩ := dn i _ e hr he;exact absurd rfl ((h i _ e a1 a2).2.1 t)
def isStr:Rw->Bool
 | .ck _ | .branch _ _ | .call _ | .back _ | .drop _=>false
 | _=>true
def BY (r:Rw)(e t:Ent):Bool:=(cX r e).isNone && (decide (r.aC e.h=some t.h) && (cz r e t).isNone)
def mq (r:Rw)(e t:Ent):Bool:=isStr r && BY r e t
theorem IG (h:BY r e t=true):cX r e=none/\r.aC e.h=some t.h/\cz r e t=none:=by
 unfold BY at h;rw[aah,aah,Option.isNone_iff_eq_none,decide_eq_true_eq,Option.isNone_iff_eq_none] at h;exact h
theorem zm (h:isStr r=true)(i:Int):r.cP i=[i+1]/\(∀ t,r≠.call t)/\AW r=false:=by
 cases r <;> first | (cases h;done) | exact⟨rfl,(λt z=>by cases z),rfl⟩
def eI (aw:List Int):List Rw:=.grow 7::cy .put 0 aw
def jA (aw:List Int):List Rw:=cy .get 0 aw++[.shrink 7,.back 7]
def chain:List Rw->List Ent->Bool
 | r::rs,e::t::es=>mq r e t && chain rs (t::es)
 | [],_=>true
 | _,_=>false
def Lu (aw:List Int):Bool:=chain (eI aw) (lV aw++[dJ aw]) && (chain (cy .get 0 aw++[.shrink 7]) (ki aw) && (BY (.ck 0) (dJ aw) (dJ aw) && ((cX (.back 7) (jy aw (λ_=>false) 0)).isNone && ((ki aw)[0]?.any λe=>e.h == (dJ aw).h && (e.b == (dJ aw).b && (e.v4 == (dJ aw).v4 && (e.v5 == (dJ aw).v5 && e.v6 == (dJ aw).v6)))))))
def pY (aw:List Int)(r:Rw):Bool:=mq r (dJ aw) (dJ aw)
def EU (h:List (Option Int)):Bool:=(d7 h 3).all (pY (aA h)) && (((bQ h).map λp=>Rw.set p.2 0).all (pY (aA h)) && ((([0,1,2,3,4,5]:List Int).all λx=>(Ds h x).all (pY (aA h))) && ((wC h 1 0).all (pY (aA h)) && pY (aA h) (.set 0 0))))
theorem O7:∀ h∈vX,Lu (aA h)=true:=by decide +kernel
theorem Nk:∀ h∈vX,EU h=true:=by decide +kernel
theorem ph:∀ {rs:List Rw} {es:List Ent} {i:Nat} {r:Rw},chain rs es=true->rs[i]? = some r->∃ e t,es[i]? = some e/\es[i+1]? = some t/\mq r e t=true
 | r0 :: rs, e :: t :: es, 0, r, h, hr => by
   cases hr
   unfold chain at h;exact⟨e,t,rfl,rfl,((aah _ _).mp h).1⟩
 | r0 :: rs, e :: t :: es, i + 1, r, h, hr => by
   unfold chain at h;obtain⟨e',t',a1,a2,a3⟩:=ph ((aah _ _).mp h).2 (i:=i) (by simpa using hr);exact⟨e',t',by simpa using a1,by simpa using a2,a3⟩
 | [],_,i,r,_,hr=>by simp at hr
 | _::_,[],i,r,h,_=>by unfold chain at h;cases h
 | _::_,[_],i,r,h,_=>by unfold chain at h;cases h
theorem EV (h:AW r=false):ju pl r=r:=by
 cases r <;> first | rfl | cases h
theorem yO (hn:n<=3)(m:r∈d7 h n):r∈d7 h 3:=by
 unfold d7 at m ⊢;obtain⟨k,hk,hr⟩:=List.mem_flatMap.mp m;exact List.mem_flatMap.mpr ⟨k,List.mem_range.mpr (by have:=List.mem_range.mp hk;lia),hr⟩
theorem yJ {k:Nat}{ps:List (Int×Int)}(m:r∈gk k ps):r∈ps.map λp=>Rw.set p.2 0:=by
 unfold gk at m;obtain⟨p,hp,e⟩:=List.mem_map.mp m;exact List.mem_map.mpr ⟨p,(List.mem_filter.mp hp).1,e⟩
theorem Jg (e:bw h=true)(hn:n<=3){x:Int}(x0 : 0<=x)(x5:x<=5){f:Nat}(m:r∈fm h n x f):pY (aA h) r=true∨r=.ck (5*(f:Int)+4):=by
 have k:=Nk h (pR e);unfold EU at k;obtain⟨k1,k⟩:=(aah _ _).mp k;obtain⟨k2,k⟩:=(aah _ _).mp k;obtain⟨k3,k⟩:=(aah _ _).mp k;obtain⟨k4,k5⟩:=(aah _ _).mp k;rcases List.mem_append.mp m with m | m
 . rcases List.mem_append.mp m with m | m
   . exact .inl (List.all_eq_true.mp k1 r (yO hn m))
   . exact .inl (List.all_eq_true.mp k2 r (yJ m))
 . unfold fD at m;obtain ⟨i,hi,hr⟩:=List.mem_flatMap.mp m;have hi:=List.mem_range.mp hi;rcases (show i=0∨i=1∨i=2 from by lia) with rfl | rfl | rfl
   . have hx : x ∈ ([0, 1, 2, 3, 4, 5] : List Int) := by
       have:x=0∨x=1∨x=2∨x=3∨x=4∨x=5:=by lia
       rcases this with rfl | rfl | rfl | rfl | rfl | rfl <;> decide
     exact .inl (List.all_eq_true.mp (List.all_eq_true.mp k3 x hx) r hr)
   . rcases List.mem_append.mp hr with hr | hr
     . exact .inl (List.all_eq_true.mp k4 r hr)
     . exact .inr (List.mem_singleton.mp hr)
   . rw[List.mem_singleton.mp hr];exact .inl k5
def tV:Rw->Bool
 | .set b n=>decide (0<=b) && (decide (b<=7) && (decide (0<=n) && decide (n<=4294967295)))
 | .copy b o=>decide (0<=b) && (decide (b<=7) && (decide (0<=o) && decide (o<=7)))
 | .grow m | .shrink m=>decide (0<=m) && decide (m<=4000)
 | .put b c | .get b c=>decide (0<=b) && (decide (b<=7) && (decide (0<=c) && decide (c<=4000)))
 | .back b=>decide (0<=b) && decide (b<=7)
 | _=>false
theorem yw (h:tV r=true):r.ok/\r.here/\AW r=false:=by
 cases r <;> first | (cases h;done) | (simp only[tV,aah,decide_eq_true_eq] at h;refine⟨?_,abq,rfl⟩;simp only[Rw.ok,dz,isVal,eC];lia)
def vZ (h:List (Option Int)):Bool:=(eI (aA h)).all tV && ((jA (aA h)).all tV && ((d7 h 3).all tV && (((bQ h).map λp=>Rw.set p.2 0).all tV && ((([0,1,2,3,4,5]:List Int).all λx=>(Ds h x).all tV) && (wC h 1 0).all tV))))
theorem yx:∀ h∈vX,vZ h=true:=by decide +kernel
theorem uJ (h:List (Option Int))(n:Nat)(x:Int)(f:Nat):fZ h n x f=eI (aA h)++fm h n x f++jA (aA h):=by
 show(Rw.grow 7::cy .put 0 (aA h)++d7 h n++gk n (bQ h))++fD h x f 3++(cy .get 0 (aA h)++[.shrink 7]++[.back 7])=_;unfold eI fm jA;simp only[aaD,List.cons_append,List.nil_append]
theorem Nx (e:bw h=true)(hn:n<=3){x:Int}(x0 : 0<=x)(x5:x<=5){f:Nat}(m:r∈fZ h n x f):tV r=true∨r=.ck (5*(f:Int)+4):=by
 have k:=yx h (pR e);unfold vZ at k;obtain⟨k1,k⟩:=(aah _ _).mp k;obtain⟨k2,k⟩:=(aah _ _).mp k;obtain⟨k3,k⟩:=(aah _ _).mp k;obtain⟨k4,k⟩:=(aah _ _).mp k;obtain⟨k5,k6⟩:=(aah _ _).mp k;rw[uJ] at m;rcases List.mem_append.mp m with m | m
 . rcases List.mem_append.mp m with m | m
   . exact .inl (List.all_eq_true.mp k1 r m)
   . rcases List.mem_append.mp m with m | m
     . rcases List.mem_append.mp m with m | m
       . exact .inl (List.all_eq_true.mp k3 r (yO hn m))
       . exact .inl (List.all_eq_true.mp k4 r (yJ m))
     . unfold fD at m;obtain ⟨i,hi,hr⟩:=List.mem_flatMap.mp m;have hi:=List.mem_range.mp hi;rcases (show i=0∨i=1∨i=2 from by lia) with rfl | rfl | rfl
       . have hx : x ∈ ([0, 1, 2, 3, 4, 5] : List Int) := by
           have:x=0∨x=1∨x=2∨x=3∨x=4∨x=5:=by lia
           rcases this with rfl | rfl | rfl | rfl | rfl | rfl <;> decide
         exact .inl (List.all_eq_true.mp (List.all_eq_true.mp k5 x hx) r hr)
       . rcases List.mem_append.mp hr with hr | hr
         . exact .inl (List.all_eq_true.mp k6 r hr)
         . exact .inr (List.mem_singleton.mp hr)
       . rw[List.mem_singleton.mp hr];exact .inl rfl
 . exact .inl (List.all_eq_true.mp k2 r m)
theorem Jh {xs ys:List (Int×Int)}{t v:Int}(h:gF xs t=some v):gF (xs++ys) t=some v:=by
 unfold gF at h ⊢;rw[List.find?_append];cases hf:xs.find? (λp=>decide (p.1=t)) with
 | none=>rw[hf] at h;cases h
 | some p=>rw[hf] at h;exact h
theorem G0 {xs:List (Int×Int)}{t v:Int}(h:∀ p∈xs,p.1<t):gF (xs++[(t,v)]) t=some v:=by
 unfold gF;rw[List.find?_append,List.find?_eq_none.mpr (λp hp=>by have:=h p hp;rw[decide_eq_true_eq];lia),Option.none_or];rw[abd,decide_eq_true rfl];rfl
theorem Ab (D:c5)(f:Nat):∀ k,∃ ys,D.iF (f+1)++ys=D.iF (f+1+k)
 | 0=>⟨[],aaJ _⟩
 | k + 1 => by
   obtain⟨ys,e⟩:=Ab D f k;refine'⟨ys++?z,?y⟩
   case y =>
     rw[<- aaD,e];exact(aaD _ _ _).symm
theorem nA (D:c5)(f:Nat):∀ k,∃ ys,D.rows f++ys=D.rows (f+k)
 | 0=>⟨[],aaJ _⟩
 | k + 1 => by
   obtain⟨ys,e⟩:=nA D f k;refine'⟨ys++?z,?y⟩
   case y =>
     rw[<- aaD,e];rfl
theorem F2 (D:c5){f:Nat}(e1:D.hs[f]? = some h)(e2:D.ns[f]? = some n){N:Nat}(hN:f<N):gF (D.iF N) (5*(f:Int)+4)=some (((D.rows f).length+(jO h n).length+(fD h D.x f 3).length:Nat):Int):=by
 obtain⟨ys,e⟩:=Ab D f (N - (f+1));rw[show f+1+(N - (f+1))=N from by lia] at e;rw[<- e];refine Jh ?_;show gF (D.iF f++iN (D.rows f).length ((D.hs[f]?).getD []) ((D.ns[f]?).getD 0) D.x f 3++[(5*(f:Int)+4,_)]) _=_;rw[e1,e2];refine G0 λp hp=>?_;rcases List.mem_append.mp hp with z | z
 . have:=uD D f p z;lia
 . have:=uh p z;lia
theorem ze (D:c5):∀ k,k<=D.ns.length->D.ok->r∈D.rows k->∃ f h n,f<k/\D.hs[f]? = some h/\D.ns[f]? = some n/\bw h=true/\n<=3/\r∈fZ h n D.x f
 | 0,_,_,m=>by cases m
 | k + 1, hk, ok, m => by
   rcases List.mem_append.mp m with m | m
   . obtain⟨f, h, n, a1, a2⟩ := ze D k (by lia) ok m;exact⟨f,h,n,by lia,a2⟩
   . obtain⟨h, n, e1, e2, e3, e4⟩ := kK ok (k := k) (by lia);rw[e1,e2] at m;exact⟨k,h,n,by lia,e1,e2,e3,e4,m⟩
theorem v_ (ok:D.ok):∀ r∈D.rows D.ns.length,r.ok/\r.here/\sq (D.iF D.ns.length) r:=λr m=>by
 obtain⟨f,h,n,hf,e1,e2,e3,e4,m⟩:=ze D _ (aai _) ok m;have o3:=ok.n;have hx:=ok.x;rcases Nx e3 e4 hx.1 hx.2 m with k | rfl
 . obtain⟨a1, a2, a3⟩ := yw k;exact⟨a1,a2,λt e=>by rw[e] at a3;cases a3⟩
 . refine ⟨⟨by lia, by lia⟩, abq, λt e => ?_⟩;cases e
   have h1:=eX ok f (by lia);have h2:=zL e3 e4;have h3:=oZ h D.x f 3;exact⟨_,F2 D e1 e2 hf,by lia,by lia⟩
theorem J0 (aw:List Int):(lV aw)[0]? = some ⟨0,128,16,32,64⟩:=by
 have k:∀ r:Int,vz aw (λ_=>false) r=2 ^ r.toNat:=λr=>by
   unfold vz;split <;> rfl
 show some (jy aw (λ_=>false) 0)=_;unfold jy;rw[k,k,k,k];rfl
theorem vK (h:mq r e t=true){es0:List Ent}(ht:es0[i+1]? = some t):cX r e=none/\(∀ t,r≠.call t)/\∀ c∈r.cP (i:Int),∃ (k:Nat) (t:Ent),c=(k:Int)/\es0[k]? = some t/\r.aC e.h=some t.h/\cz r e t=none:=by
 unfold mq at h;obtain⟨h1,h2⟩:=(aah _ _).mp h;obtain⟨a1,a2,a3⟩:=zm h1 (i:Int);obtain⟨b1,b2,b3⟩:=IG h2;refine⟨b1,a2,λc hc=>?_⟩;rw[a1] at hc;exact⟨i+1,t,by rw[List.mem_singleton.mp hc];rfl,ht,b2,b3⟩
theorem Oh (h:mq r e t=true):AW r=false:=by
 unfold mq at h;exact(zm ((aah _ _).mp h).1 0).2.2
theorem map_id (h:∀ r∈rs,AW r=false):rs.map (ju pl)=rs:=by
 induction rs with
 | nil=>rfl
 | cons r rs ih =>
   rw[aaQ,EV (h r (aa_ ..)),ih λr' m=>h r' (aa8 _ m)]
theorem G3 (e:bw h=true)(hn:n<=3){x:Int}(x0 : 0<=x)(x5:x<=5)(RM:gF pl 4=some (((jO h n).length+(fD h x 0 3).length:Nat):Int))(RS:List Rw):∃ S0,Lb ((fZ h n x 0).map (ju pl)++RS) S0 []:=by
 have k:=O7 h (pR e);unfold Lu at k;obtain⟨k1,k⟩:=(aah _ _).mp k;obtain⟨k2,k⟩:=(aah _ _).mp k;obtain⟨k3,k⟩:=(aah _ _).mp k;obtain⟨k4,k5⟩:=(aah _ _).mp k;have Ss:=yx h (pR e);unfold vZ at Ss;obtain⟨p1,Ss⟩:=(aah _ _).mp Ss;obtain⟨p2,_⟩:=(aah _ _).mp Ss;have VM:(ki (aA h))[0]? = some (dJ (aA h)):=by
   cases hz:(ki (aA h))[0]? with
   | none=>rw[hz] at k5;cases k5
   | some y =>
     rw[hz] at k5;have k5:(y.h == (dJ (aA h)).h && (y.b == (dJ (aA h)).b && (y.v4 == (dJ (aA h)).v4 && (y.v5 == (dJ (aA h)).v5 && y.v6 == (dJ (aA h)).v6))))=true:=k5;rw[aah,aah,aah,aah,beq_iff_eq,beq_iff_eq,beq_iff_eq,beq_iff_eq,beq_iff_eq] at k5;obtain⟨a1,a2,a3,a4,a5⟩:=k5
     congr 1
     cases y
     generalize dJ (aA h)=m at a1 a2 a3 a4 a5 ⊢;cases m
     dsimp only at a1 a2 a3 a4 a5;rw[a1,a2,a3,a4,a5]
 have lp:(lV (aA h)).length=(eI (aA h)).length:=by
   unfold lV eI;rw[aaq,aaq,aaa,aa4,cO]
 have ls:(ki (aA h)).length=(jA (aA h)).length:=by
   unfold ki jA;rw[aab,aab,aaa,aa4,cO];rfl
 have lq:(jO h n).length+(fD h x 0 3).length=(eI (aA h)).length+(fm h n x 0).length:=by
   have z:=congrArg adq (uJ h n x 0);have y:(zW h++[Rw.back 7]).length=(jA (aA h)).length:=by unfold zW jA;rw[aaD];rfl
   unfold fZ at z;simp only[aab] at z y
   lia
 have hq : 0<(fm h n x 0).length:=by
   unfold fm;rw[aab,kD,aab];show 0<_+(_+1)
   lia
 have em:(fZ h n x 0).map (ju pl)=eI (aA h)++(fm h n x 0).map (ju pl)++jA (aA h):=by
   rw[uJ,aal,aal,map_id (rs:=eI _) λr m=>(yw (List.all_eq_true.mp p1 r m)).2.2,map_id (rs:=jA _) λr m=>(yw (List.all_eq_true.mp p2 r m)).2.2]
 rw[em];have mid:∀ j,(eI (aA h)).length<=j->j<=(eI (aA h)).length+(fm h n x 0).length->(oJ h n x)[j]? = some (dJ (aA h)):=λj j0 j1=>by
   unfold oJ;by_cases hj:j<(eI (aA h)).length+(fm h n x 0).length
   . rw[aaD,aag (by lia),aak (by rw[aao];lia),abe,if_pos (by lia)]
   . rw[aag (by rw[aab, aao]; lia), aab, aao, show j - ((lV (aA h)).length + (fm h n x 0).length) = 0 from by lia];exact VM
 have suf:∀ j,(oJ h n x)[(eI (aA h)).length+(fm h n x 0).length+j]? = (ki (aA h))[j]?:=λj=>by
   unfold oJ;rw[aag (by rw[aab,aao];lia),aab,aao]
   congr 1;lia
 have pre:∀ j t,(lV (aA h)++[dJ (aA h)])[j]? = some t->(oJ h n x)[j]? = some t:=λj t z=>by
   by_cases hj:j<(lV (aA h)).length
   . rw[aak hj] at z;unfold oJ;rw[aaD,aak hj];exact z
   . rw [aag (by lia)] at z;have VQ:=(List.getElem?_eq_some_iff.mp z).1;rw [aax] at VQ;rw [show j - (lV (aA h)).length=0 from by lia] at z;cases z
     exact mid j (by lia) (by lia)
 refine⟨_,Ol (es0:=oJ h n x) ?_ (pre 0 _ ?_) λi r t hr ht=>?_⟩
 . unfold oJ;rw[aab,aab,aab,aab,aao,aaa,lp,ls]
 . rw[aak (by rw[lp]; exact Nat.succ_pos _)];exact J0 _
 . by_cases hi:i<(eI (aA h)).length
   . rw[aaD,aak hi] at hr;obtain⟨e',t',a1,a2,a3⟩:=ph k1 hr;rw[pre i e' a1] at ht;cases ht
     exact vK a3 (pre _ t' a2)
   . by_cases hi2:i<(eI (aA h)).length+(fm h n x 0).length
     . rw [aak (by rw [aab, aaa]; exact hi2), aag (by lia), aae] at hr;obtain ⟨r0,hr0,rfl⟩:=Option.map_eq_some_iff.mp hr;rw [mid i (by lia) (by lia)] at ht;cases ht
       rcases Jg e hn x0 x5 (aad hr0) with z | rfl
       . rw[EV (Oh z)];exact vK z (mid (i+1) (by lia) (by lia))
       . have ej : ju pl (.ck (5 * ((0 : Nat) : Int) + 4)) = .ck (((eI (aA h)).length + (fm h n x 0).length : Nat) : Int) := by
           show Rw.ck ((gF pl 4).getD 0)=_;rw[RM,lq];rfl
         rw[ej];obtain⟨b1,b2,b3⟩:=IG k3;refine⟨b1,(λt z=>by cases z),λc hc=>?_⟩;rw[List.mem_singleton.mp hc];exact⟨_,_,rfl,mid _ (by lia) (aai _),b2,b3⟩
     . rw [aag (by rw [aab, aaa]; lia), aab, aaa] at hr;obtain ⟨j,rfl⟩:∃ j,i=(eI (aA h)).length+(fm h n x 0).length+j:=⟨i - ((eI (aA h)).length+(fm h n x 0).length),by lia⟩
       rw[Nat.add_sub_cancel_left] at hr;rw[suf] at ht;have es:jA (aA h)=(cy .get 0 (aA h)++[.shrink 7])++[.back 7]:=by unfold jA;rw[aaD];rfl
       rw[es] at hr;by_cases hj:j<(cy .get 0 (aA h)++[Rw.shrink 7]).length
       . rw[aak hj] at hr;obtain⟨e',t',a1,a2,a3⟩:=ph k2 hr;rw[a1] at ht;cases ht
         exact vK a3 (by rw[Nat.add_assoc,suf];exact a2)
       . rw[aag (by lia)] at hr;have VQ:=(List.getElem?_eq_some_iff.mp hr).1;rw[aax] at VQ;have hj3:j=(aA h).length+1:=by
           rw[aab,cO,aax] at hj VQ
           lia
         rw[show j - (cy .get 0 (aA h)++[Rw.shrink 7]).length=0 from by lia] at hr;cases hr
         have he:(ki (aA h))[j]? = some (jy (aA h) (λ_=>false) 0):=by
           unfold ki;rw[hj3,aag (by rw[aaa,aa4];exact aai _),aaa,aa4,acQ];rfl
         rw[he] at ht;cases ht
         exact⟨Option.isNone_iff_eq_none.mp k4,(λt z=>by cases z),(λc hc=>by cases hc)⟩
theorem Bj (ok:D.ok)(hp : 0<D.ns.length):∃ S0,Lb ((D.rows D.ns.length).map (ju (D.iF D.ns.length))) S0 []:=by
 obtain⟨h,n,e1,e2,e3,e4⟩:=kK ok hp;obtain⟨ys,ey⟩:=nA D 1 (D.ns.length - 1);rw[show 1+(D.ns.length - 1)=D.ns.length from by lia] at ey;have hx:=ok.x;have z:=F2 D e1 e2 hp;have e0:D.rows 1=fZ h n D.x 0:=by
   show[]++fZ ((D.hs[0]?).getD []) ((D.ns[0]?).getD 0) D.x 0=_;rw[e1,e2];rfl
 rw[<- ey,aal,e0];exact G3 e3 e4 hx.1 hx.2 (by rw[<- show 5*((0:Nat):Int)+4=4 from rfl,z];show some ((([]:List Rw).length+_+_:Nat):Int)=_;rw[aaZ,abT]) _
theorem yN (ok:D.ok)(hp : 0<D.ns.length) : 0<(D.rows D.ns.length).length:=by
 obtain⟨h,n,e1,e2,e3,e4⟩:=kK ok hp;obtain⟨ys,ey⟩:=nA D 1 (D.ns.length - 1);rw[show 1+(D.ns.length - 1)=D.ns.length from by lia] at ey;rw[<- ey,aab,show D.rows 1=[]++fZ ((D.hs[0]?).getD []) ((D.ns[0]?).getD 0) D.x 0 from rfl,uJ];simp only[aab];show 0<_+(_+1+_+_)+_
 lia
def xP (H:Hp)(w:Addr)(n:Nat):Prop:=(∃ us,H w=some (.tup us))∨∃ hv bs,H w=some (.lst hv)/\uP H hv bs/\hv.length<=8/\(decide ((bs.length:Int)=(n:Int)) && bs.all id)=false
def iA (H:Hp)(hv:List V):Prop:=∀ v∈hv,hV H v true
variable {hv:List V}
theorem iA.same (h:iA H hv)(s:ah H H'):iA H' hv:=λv m=>(h v m).same s
def Ht:Sp:=λvs H Q _=>∃ c:Int,vs=[.int c]/\∀ (p:Addr) (h:List (Option Int)) H',ah H H'->H p=none->H' p=some (.tup (h.map aO))->bw h=true->Q (.ref p) H'
def GL:Sp:=λvs H Q _=>∃ (l:Addr) (way c:Int) (hv:List V),vs=[.ref l,.int way,.int c]/\H l=some (.lst hv)/\0<hv.length/\hv.length<=3/\iA H hv/\0<=way/\way<=11/\∀ (w:Addr) H',ah H H'->xP H' w hv.length->Q (.ref w) H'
def Bg (a:aP):Sp:=λvs H Q _=>∃ (pr w:Addr) (Fs:List Fx),vs=[.ref pr,.ref w]/\eW H pr Fs/\(ja Fs=false∨ja Fs=true/\xP H w Fs.length)/\∀ H',ah H H'->Q (.bl true) H'
def JK (a:aP):Sp:=λvs H Q _=>∃ (tt c t:Addr) (us:List V),vs=[.ref tt]/\H tt=some (.tup [.ref c,.ref t])/\H c=some (.lst us)/\BZ a H t us.length/\0<us.length/\us.length<=2000/\∀ H',ah H H'->Q (.bl true) H'
theorem Ea {n:Int}(m:n∈dO h)(k:n<0∨5<n):bw h=false:=by
 cases e:bw h with
 | false=>rfl
 | true =>
   unfold bw at e;rw[aah,ac5] at e
   have:=e.2 n m
   rw[aah,aah,decide_eq_true_eq,decide_eq_true_eq] at this
   lia
theorem Cd (g:iA H hv){bs:List Bool}(h:bs.length=hv.length)(hb:∀ b∈bs,b=true):uP H hv bs:=⟨h.symm,λi v e=>by
 have hi:i<bs.length:=by rw[h];exact(List.getElem?_eq_some_iff.mp e).1
 refine⟨bs[i],aac hi,?_⟩;rw[hb _ (abu hi)];exact g v (aad e)⟩
theorem AZ {w:Addr}(e:H w=some (.lst hv))(g:iA H hv)(h8:hv.length<=8)(ne:hv.length≠n):xP H w n :=
 .inr ⟨hv,aaL hv.length true,e,Cd g aao λb m=>(List.mem_replicate.mp m).2,h8,by
   rw[aao,decide_eq_false (by lia),abj]⟩
theorem JC {w:Addr}{b:V}(e:H w=some (.lst (xs++[b]++ys)))(g1:iA H xs)(g2:iA H ys)(hb:hV H b false)(h8:xs.length+ys.length<=7):xP H w n:=by
 refine .inr ⟨_,aaL xs.length true++[false]++aaL ys.length true,e,⟨by simp,λi v z=>?_⟩,by rw[aab,aab,aax];lia,?_⟩
 . have k1 := (Cd g1 (bs := aaL xs.length true) aao λb m => (List.mem_replicate.mp m).2).2;have k2:=(Cd g2 (bs:=aaL ys.length true) aao λb m=>(List.mem_replicate.mp m).2).2;by_cases h1:i<xs.length
   . rw[aaD,aak h1] at z;rw[aaD,aak (by rw[aao];exact h1)];exact k1 i v z
   . by_cases h2:i=xs.length
     . subst h2;rw[aaD,aag (aai _),acQ] at z;cases z
       exact⟨false,by rw[aaD,aag (by rw[aao];exact aai _),aao,acQ];rfl,hb⟩
     . rw[aag (by rw[aab, aax]; lia), aab, aax] at z;rw[aag (by rw[aab,aao,aax];lia),aab,aao,aax];exact k2 _ v z
 . rw[List.all_append,List.all_append];show(_ && (_ && ((false:Bool) && true) && _))=false;rw[abj,acT,abj,acT]
theorem lA (e:H p=some (.tup (h.map aO)))(l:h.length<=8){b:Bool}(hb:b=bw h):hV H (.ref p) b:=.inl ⟨p,h,rfl,e,l,hb⟩
def rJ:Sx->PyData
 | .set x=>.tuple [.str "set",.int x,.int 7]
 | .give x=>.tuple [.str "give",.int x]
 | .leave=>.tuple [.str "leave",.int 7]
def nH (F:Fx):PyData:=.tuple [.int F.n,.list (F.ss.map rJ)]
def yz:Option Int->PyData
 | none=>.none
 | some n=>.int n
def ml (h:List (Option Int)):PyData:=.tuple (h.map yz)
section
variable {K:W.Frag} {H:Hp}
theorem oP {g : α->PyData}(hR:∀ p s,R p s->Dp K H (g s) (.ref p)):∀ {ps:List Addr} {ss:List α},bJ R ps ss->df K H (ss.map g) (ps.map V.ref)
 | [],[],_=>b8
 | [],s::r,h=>by have:=h.1;cases this
 | p::ps,[],h=>by have:=h.1;cases this
 | p::ps,s::r,h=>aI (hR p s h.head.1) (oP hR h.head.2)
theorem Pa {s:Sx}(h:Gw H p s):Dp K H (rJ s) (.ref p):=by
 cases s with
 | set x=>exact eh (az.of h) (aI (si _) (aI (cG _) (aI (cG _) b8)))
 | give x=>exact eh (az.of h) (aI (si _) (aI (cG _) b8))
 | leave=>exact eh (az.of h) (aI (si _) (aI (cG _) b8))
theorem NZ {F:Fx}(h:gO H f F):Dp K H (nH F) (.ref f):=by
 obtain⟨l,e,ps,e2,hp⟩:=h;exact eh (az.of e) (aI (cG _) (aI (kS (av.of e2) (oP (λp s z=>Pa z) hp)) b8))
theorem vN:∀ h:List (Option Int),df K H (h.map yz) (h.map aO)
 | []=>b8
 | none::r=>aI (by show Dp K H .none .ax;rw[Dp]) (vN r)
 | some n::r=>aI (cG n) (vN r)
theorem NP {v:V}(e:eF H v h):Dp K H (ml h) v:=by
 obtain⟨p,rfl,e⟩:=e;exact eh (az.of e) (vN h)
theorem y9:∀ {hv:List V} {hs:List (List (Option Int))},hv.length=hs.length->(∀ (i:Nat) (v:V),hv[i]? = some v->∃ h,hs[i]? = some h/\eF H v h)->df K H (hs.map ml) hv
 | [],[],_,_=>b8
 | [],_::_,l,_=>by cases l
 | _::_,[],l,_=>by cases l
 | v :: hv, h :: hs, l, k => by
   obtain⟨h',e1,e2⟩:=k 0 v rfl;cases e1
   exact aI (NP e2) (y9 (by simpa using l) λi v e=>k (i+1) v (by simpa using e))
end
theorem oR {g : α->PyData}{d:Nat}(hg:∀ s,(g s).canLay0=true/\(g s).depth<=d):∀ ss:List α,abP (ss.map g)=true/\ab8 (ss.map g)<=d
 | []=>⟨rfl,aaW _⟩
 | s :: r => by
   have h:=oR hg r;rw[aaQ,abP,ab8,(hg s).1,h.1];exact⟨rfl,Nat.max_le.mpr ⟨(hg s).2,h.2⟩⟩
theorem Pc (s:Sx):(rJ s).canLay0=true/\(rJ s).depth<=1:=by
 cases s <;> exact⟨by unfold rJ;simp only[ach,abP,adB];decide +kernel,by unfold rJ;simp only[acG,ab8];decide⟩
theorem OT (F:Fx):(nH F).canLay0=true/\(nH F).depth<=3:=by
 have h:=oR (g:=rJ) (d:=1) Pc F.ss;unfold nH;simp only[ach,abP,acG,ab8,h.1,Bool.and_self];exact⟨trivial,by have:=h.2;lia⟩
theorem QJ (o:Option Int):(yz o).canLay0=true/\(yz o).depth<=0:=by
 cases o <;> exact⟨by unfold yz;simp only[ach],by unfold yz;simp only[acG];exact aai _⟩
theorem OV (h:List (Option Int)):(ml h).canLay0=true/\(ml h).depth<=1:=by
 have k:=oR (g:=yz) (d:=0) QJ h;unfold ml;simp only[ach,acG];exact⟨k.1,by have:=k.2;lia⟩
theorem Kj (Fs:List Fx)(hs:List (List (Option Int))):shaped (.tuple [.list (Fs.map nH),.list (hs.map ml)])=true:=by
 have h1:=oR (g:=nH) (d:=3) OT Fs;have h2:=oR (g:=ml) (d:=1) OV hs;unfold shaped;simp only[ach,abP,acG,ab8,h1.1,h2.1,Bool.and_self,abi];exact decide_eq_true (by have:=h1.2;have:=h2.2;lia)
theorem zB (o:Option Int):∀ fs:List (Option Int),qh (aO o) (fs.map aO)=fs.any (λx=>decide (x=o))
 | []=>rfl
 | x :: fs => by
   have ih:=zB o fs;unfold qh at ih ⊢;rw[aaQ,abh,abh,ih]
   congr 1
   cases x with
   | none=>cases o <;> rfl
   | some x =>
     cases o with
     | none=>rfl
     | some o =>
       show(x == o)=decide (some x=some o);by_cases e:x=o
       . rw[e,decide_eq_true rfl,beq_self_eq_true]
       . rw[decide_eq_false (λz=>e (aap z)),beq_eq_false_iff_ne.mpr e]
theorem lU:∀ fs:List (Option Int),(fs.map aO).all fJ=true
 | []=>rfl
 | none::fs=>lU fs
 | some _::fs=>lU fs
def dP (fo:List (Option Int))(o:Option Int):List (Option Int):=fo++[if fo.any (λx=>decide (x=o))=true then none else o]
theorem GV:∀ a∈gY,∀ b∈gY,∀ c∈gY,bw (abn dP [] [a,b,c])=true:=by decide +kernel
theorem Bm:∀ (os fo:List (Option Int)),(abn dP fo os).length=fo.length+os.length
 | [],_=>rfl
 | o :: os, fo => by
   show(abn dP (dP fo o) os).length=_;rw[Bm os,dP,aab];show fo.length+1+os.length=fo.length+(os.length+1);lia
theorem Ja (x:Int):some (x%6)∈gY:=by
 have:x%6=0∨x%6=1∨x%6=2∨x%6=3∨x%6=4∨x%6=5:=by lia
 rcases this with e | e | e | e | e | e <;> rw[e] <;> decide
theorem NS (a b i:Int)(ha:some a∈gY)(hb:some b∈gY):∃ o∈gY,cI [V.ax,.int a,.int b,.ax] (i%4)=some (aO o):=by
 have:i%4=0∨i%4=1∨i%4=2∨i%4=3:=by lia
 rcases this with e | e | e | e <;> rw[e]
 . exact⟨none,aa_ ..,rfl⟩
 . exact⟨some a,ha,rfl⟩
 . exact⟨some b,hb,rfl⟩
 . exact⟨none,aa_ ..,rfl⟩
theorem vA {lo hi:Option Int}{v:V}(m:v∈cE xs lo hi):v∈xs:=by
 unfold cE at m;exact List.mem_of_mem_drop (List.mem_of_mem_take m)
theorem Fb (g:iA H hv){lo hi:Option Int}:iA H (cE hv lo hi):=λv m=>g v (vA m)
theorem a8 {lo hi:Option Int}(h:hv.length<=3):(cE hv lo hi).length<=3:=aaR (kf hv lo hi) h
theorem Hh (h : 0<hv.length):(cE hv none (some (c%(hv.length:Int)))++cE hv (some (c%(hv.length:Int)+1)) none).length≠hv.length:=by
 obtain⟨k,hk⟩:∃ k:Nat,c%(hv.length:Int)=(k:Int):=⟨(c%(hv.length:Int)).toNat,(abb (Int.emod_nonneg c (by lia))).symm⟩
 have hl:k<hv.length:=by have:=Int.emod_lt_of_pos c (show(0:Int)<hv.length by lia);lia
 rw[hk,Jn hv (by lia),show(k:Int)+1=((k+1:Nat):Int) from rfl,D3 hv (by lia),aab,aaC,ac3]
 lia
def jm (p q:Addr)(H:Hp):Hp:=fL p (fL q H)
theorem gG {b:Addr}(e:H b=some o)(n1:b≠p)(n2:b≠q):jm p q H b=some o:=i4 (i4 e n2) n1
theorem me:ah (jm p q H) H:=λb o e=>by
 unfold jm fL at e;by_cases h:b=p
 . rw[if_pos h] at e;cases e
 . rw[if_neg h] at e;by_cases h2:b=q
   . rw[if_pos h2] at e;cases e
   . rw[if_neg h2] at e;exact e
theorem Kq (k:∀ b o,H b=some o->b≠p->b≠q->H' b=some o):ah (jm p q H) (jm p q H'):=λb o e=>by
 have n1:b≠p:=λz=>by unfold jm fL at e;rw[if_pos z] at e;cases e
 have n2:b≠q:=λz=>by unfold jm fL at e;rw[if_neg n1,if_pos z] at e;cases e
 exact gG (k b o (me _ _ e) n1 n2) n1 n2
def k_ (x:Int)(n:Nat):Fx:=⟨(n:Int),[.set x,.give 1]⟩
structure BH (lp lh:Addr)(x:Int)(ks:List Nat)(hs:List (List (Option Int)))(fs:List Addr)(hv:List V)(H:Hp):Prop where
 k3:∀ k∈ks,k<=3
 hm:∀ h∈hs,bw h=true
 hl:hs.length=ks.length
 hp:H lp=some (.lst (fs.map V.ref))
 fx:bJ (gO (jm lp lh H)) fs (ks.map (k_ x))
 hh:H lh=some (.lst hv)
 vl:hv.length=hs.length
 vh:∀ (i:Nat) (v:V),hv[i]? = some v->∃ h,hs[i]? = some h/\eF (jm lp lh H) v h
variable {lp:Addr}
theorem BH.step {lh:Addr}{x:Int}{hs:List (List (Option Int))}{fs:List Addr}{v:V}(A:BH lp lh x ks hs fs hv H)(k:∀ b o,H b=some o->b≠lp->b≠lh->H2 b=some o)(U7:H2 lp=some (.lst (fs.map V.ref++[.ref f])))(VT:H2 lh=some (.lst (hv++[v])))(f1:gO (jm lp lh H2) f (k_ x n))(f2:eF (jm lp lh H2) v h)(n3:n<=3)(hm:bw h=true):BH lp lh x (ks++[n]) (hs++[h]) (fs++[f]) (hv++[v]) H2:=by
 have s:=Kq k;refine⟨λk' m=>?_,λh' m=>?_,?_,?_,?_,VT,?_,λi v' e=>?_⟩
 . rcases List.mem_append.mp m with z | z
   . exact A.k3 k' z
   . rw[List.mem_singleton.mp z];exact n3
 . rcases List.mem_append.mp m with z | z
   . exact A.hm h' z
   . rw[List.mem_singleton.mp z];exact hm
 . rw[aab,aab,A.hl];rfl
 . rw[U7,aal];rfl
 . rw[aal];exact(A.fx.to λ_ _ z=>z.same s).snoc f1
 . rw[aab,aab,A.vl];rfl
 . by_cases hi:i<hv.length
   . rw[aak hi] at e;obtain⟨h',a1,p,a2,a3⟩:=A.vh i v' e;exact⟨h',by rw[aak (by rw[<- A.vl];exact hi)];exact a1,p,a2,s _ _ a3⟩
   . rw [aag (by lia)] at e;have hi2:=(List.getElem?_eq_some_iff.mp e).1;rw [aax] at hi2;have vl:=A.vl;rw [show i - hv.length=0 from by lia] at e;cases e
     exact⟨h,by rw[aag (by lia),show i - hs.length=0 from by lia];rfl,f2⟩
theorem eF.gd {v:V}(e:eF H v h)(hm:bw h=true):hV H v true:=by
 obtain⟨p,rfl,e⟩:=e;have e4:h.length=3:=by
   have e3:=hm;unfold bw at e3;rw[aah,decide_eq_true_eq] at e3;exact e3.1
 exact .inl ⟨p,h,rfl,e,by lia,hm.symm⟩
theorem eF.same {v:V}(e:eF H v h)(s:ah H H'):eF H' v h:=let ⟨p,a,b⟩:=e;⟨p,a,s _ _ b⟩
theorem N0 {x:Int}(hx:By x){k:Nat}(hk:k<=3):(k_ x k).ok:=by
 refine⟨by show 0<=(k:Int);lia,by show(k:Int)<=3;lia,λs m=>?_,aai _⟩;rcases List.mem_cons.mp m with rfl | m
 . exact hx
 . rw[List.mem_singleton.mp m];exact Int.le.intro 1 rfl
theorem Ma {x:Int}:∀ ks:List Nat,x9 ((ks.map (k_ x)).map (·.ss))=true
 | []=>rfl
 | _::ks=>Ma (x:=x) ks
theorem BH.end {lh:Addr}{x:Int}{hs:List (List (Option Int))}{fs:List Addr}(A:BH lp lh x ks hs fs hv H)(h1 : 0<ks.length)(h3:ks.length<=3)(hx:By x):(c5.mk ks hs x).ok/\eW H lp (ks.map (k_ x))/\ja (ks.map (k_ x))=true/\iA H hv/\∀ (i:Nat) (v:V),hv[i]? = some v->∃ h,hs[i]? = some h/\eF H v h:=by
 have vh:∀ (i:Nat) (v:V),hv[i]? = some v->∃ h,hs[i]? = some h/\eF H v h:=λi v e=>let ⟨h,a,b⟩:=A.vh i v e;⟨h,a,b.same me⟩;refine⟨⟨h3,A.hl,A.k3,A.hm,hx⟩,⟨fs,A.hp,A.fx.to λ_ _ z=>z.same me,λF m=>?_,by rw[aaa];lia⟩,?_,λv m=>?_,vh⟩
 . obtain⟨k, hk, rfl⟩ := List.mem_map.mp m;exact N0 hx (A.k3 k hk)
 . unfold ja;rw[Ma,adB];cases ks with
   | nil=>cases h1
   | cons k ks=>rfl
 . obtain⟨i, e⟩ := List.getElem?_of_mem m;obtain⟨h,a,b⟩:=vh i v e;exact b.gd (A.hm h (aad a))
theorem Ga {x:Int}{n:Int}(h : 6<=n):ja (ks.map (k_ x)++[⟨0,[.give n]⟩])=false:=by
 unfold ja x9;rw[aal,List.all_append];show(_ && (_ && (((decide (n<=5)) && true) && true)))=false;rw[decide_eq_false (by lia),abj,abj,acT,acT]
theorem eW.more {Fs:List Fx}{F:Fx}{fs:List Addr}(hp:H lp=some (.lst (fs.map V.ref)))(h:eW H lp Fs)(s:ah H H')(e:H' l=some (.lst (fs.map V.ref++[.ref f])))(g:gO H' f F)(ok:F.ok)(h3:Fs.length<=3):eW H' l (Fs++[F]):=by
 obtain⟨gs,a,b,c,d⟩:=h;have z:=HO.lst.inj (aap (hp.symm.trans a));rw[z] at e;refine⟨gs++[f],by rw[e,aal];rfl,(b.to λ_ _ y=>y.same s).snoc g,λF' m=>?_,by rw[aab,aax];lia⟩;rcases List.mem_append.mp m with y | y
 . exact c F' y
 . rw[List.mem_singleton.mp y];exact ok
theorem eW.copy {Fs:List Fx}{fs:List Addr}(hp:H lp=some (.lst (fs.map V.ref)))(h:eW H lp Fs)(s:ah H H')(e:H' l=some (.lst (fs.map V.ref))):eW H' l Fs:=by
 obtain⟨gs,a,b,c,d⟩:=h;have z:=HO.lst.inj (aap (hp.symm.trans a));rw[z] at e;exact⟨gs,e,b.to λ_ _ y=>y.same s,c,d⟩
theorem Aq (T:TX):FE 1 "is_whole" Oe:=by
 refine aR 0 T.Al qv ?_ ?_;walk_at"in"
 . obtain⟨v, rfl, ha, q⟩ := h;walk_at"h";have nd:=qv.nd;refine' cv ?_;exact(b9 (fA (aG (cf (K:=K) rfl) rfl T.aY aZ (aa (pv 0) (aa (dh (v:=.ty "int") rfl T.Oz O0 rfl) ao))) (fA (zO (aG (cf (K:=K) rfl) rfl T.aY aZ (aa (pv 0) (aa (dh (v:=.ty "bool") rfl T.Nu Nr rfl) ao)))) (ib (gZ CD (pv 0) aH (cb _))))));walk_at"s";cases v with
   | int i =>
     symm;exact q
   | bl b =>
     symm;exact q
   | str x =>
     symm;exact q
   | _=>cases ha
theorem Cu (T:TX):FE 1 "bounded" wA:=by
 refine aR 0 T.C5 sM ?_ ?_;walk_at"in"
 . obtain⟨n, top, rfl, h0, h1, q⟩ := h;walk_at"h";have nd:=sM.nd;refine' aF ?_ ?_;walk_at"f";walk_at"tT";walk_at"m";exact GS;exact aT;walk_at"m";walk_at"tS";walk_at"s";symm;exact q
theorem oK (T:TX):FE 1 "box_place" BD:=by
 refine aR 0 T.yR oi ?_ ?_;walk_at"in"
 . obtain⟨b, rfl, h0, h1, q⟩ := h;walk_at"h";have nd:=oi.nd;walk_at"v";symm;refine Bf (v7 h0 (by lia)) ?_;rw[uT];exact q
theorem xr (T:TX):FE 1 "cell_place" yH:=by
 refine aR 0 T.xN mT ?_ ?_;walk_at"in"
 . obtain⟨c, z, rfl, h0, h1, h2, q⟩ := h;walk_at"h";have nd:=mT.nd;walk_at"v";symm;refine Bf (v7 (by lia) (by lia)) ?_;rw[uT];exact q
theorem CA (T:TX):FE 1 "without" wJ:=by
 refine aR 0 T.Dv uC ?_ ?_;walk_at"in"
 . obtain⟨s, p, rfl, q⟩ := h;walk_at"h";have nd:=uC.nd;walk_at"v";symm;refine(?_:Q (V.int _) _);rw[ie];exact q
theorem An (T:TX)(b n:Int):ME 1 a.cp "goes" (gc a (.set b n)):=by
 refine aK 0 T.k7 T.Dy bT ?_ ?_;walk_at"in"
 . obtain⟨x, z, rfl, ⟨dx, hx⟩, q⟩ := h
   change H x=some (.ins a.cp dx (aj "number" (.int n) (aj "box" (.int b) []))) at hx
   walk_at"h";have nd:=bT.nd;walk_at"v";symm;exact q _ (by assumption)
theorem AL (T:TX)(b c:Int):ME 1 a.cq "goes" (gc a (.put b c)):=by
 refine aK 0 T.kU T.C0 bT ?_ ?_;walk_at"in"
 . obtain⟨x, z, rfl, ⟨dx, hx⟩, q⟩ := h
   change H x=some (.ins a.cq dx (aj "cell" (.int c) (aj "box" (.int b) []))) at hx
   walk_at"h";have nd:=bT.nd;walk_at"v";symm;exact q _ (by assumption)
theorem xZ (T:TX)(m:Int):ME 1 a.bV "goes" (gc a (.grow m)):=by
 refine aK 0 T.iZ T.Ay bT ?_ ?_;walk_at"in"
 . obtain⟨x, z, rfl, ⟨dx, hx⟩, q⟩ := h
   change H x=some (.ins a.bV dx (aj "many" (.int m) [])) at hx
   walk_at"h";have nd:=bT.nd;walk_at"v";symm;exact q _ (by assumption)
theorem vL (T:TX)(m:Int):ME 1 a.be "goes" (gc a (.shrink m)):=by
 refine aK 0 T.fV T.xi bT ?_ ?_;walk_at"in"
 . obtain⟨x, z, rfl, ⟨dx, hx⟩, q⟩ := h
   change H x=some (.ins a.be dx (aj "many" (.int m) [])) at hx
   walk_at"h";have nd:=bT.nd;walk_at"v";symm;exact q _ (by assumption)
theorem AS (T:TX)(b c:Int):ME 1 a.cm "goes" (gc a (.get b c)):=by
 refine aK 0 T.lu T.C3 bT ?_ ?_;walk_at"in"
 . obtain⟨x, z, rfl, ⟨dx, hx⟩, q⟩ := h
   change H x=some (.ins a.cm dx (aj "cell" (.int c) (aj "box" (.int b) []))) at hx
   walk_at"h";have nd:=bT.nd;walk_at"v";symm;exact q _ (by assumption)
theorem yT (T:TX)(b o:Int):ME 1 a.bP "goes" (gc a (.copy b o)):=by
 refine aK 0 T.iX T.AB bT ?_ ?_;walk_at"in"
 . obtain⟨x, z, rfl, ⟨dx, hx⟩, q⟩ := h
   change H x=some (.ins a.bP dx (aj "one" (.int o) (aj "box" (.int b) []))) at hx
   walk_at"h";have nd:=bT.nd;walk_at"v";symm;exact q _ (by assumption)
theorem vB (T:TX)(t:Int):ME 1 a.aW "height" (eg a (.ck t)):=by
 refine aK 0 T.gJ T.xk cw ?_ ?_;walk_at"in"
 . obtain⟨x, z, rfl, ⟨dx, hx⟩, q⟩ := h
   change H x=some (.ins a.aW dx (aj "target" (.int t) [])) at hx
   walk_at"h";have nd:=cw.nd;walk_at"v";walk_at"rds";all_goals (try simp only[Rw.aC] at q);(repeat' split at q) <;> first | exact q | (exfalso;lia)
theorem xm (T:TX)(b n:Int):ME 1 a.cp "height" (eg a (.set b n)):=by
 refine aK 0 T.k7 T.z9 cw ?_ ?_;walk_at"in"
 . obtain⟨x, z, rfl, ⟨dx, hx⟩, q⟩ := h
   change H x=some (.ins a.cp dx (aj "number" (.int n) (aj "box" (.int b) []))) at hx
   walk_at"h";have nd:=cw.nd;walk_at"v";walk_at"rds";all_goals (try simp only[Rw.aC] at q);(repeat' split at q) <;> first | exact q | (exfalso;omega)
theorem vg (T:TX)(b o:Int):ME 1 a.bP "height" (eg a (.copy b o)):=by
 refine aK 0 T.iX T.xo cw ?_ ?_;walk_at"in"
 . obtain⟨x, z, rfl, ⟨dx, hx⟩, q⟩ := h
   change H x=some (.ins a.bP dx (aj "one" (.int o) (aj "box" (.int b) []))) at hx
   walk_at"h";have nd:=cw.nd;walk_at"v";walk_at"rds";all_goals (try simp only[Rw.aC] at q);(repeat' split at q) <;> first | exact q | (exfalso;omega)
theorem v8 (T:TX)(b:Int):ME 1 a.ba "height" (eg a (.back b)):=by
 refine aK 0 T.i7 T.xh cw ?_ ?_;walk_at"in"
 . obtain⟨x, z, rfl, ⟨dx, hx⟩, q⟩ := h
   change H x=some (.ins a.ba dx (aj "box" (.int b) [])) at hx
   walk_at"h";have nd:=cw.nd;walk_at"v";walk_at"rds";all_goals (try simp only[Rw.aC] at q);(repeat' split at q) <;> first | exact q | (exfalso;lia)
theorem xC (T:TX)(t:Int):ME 1 a.aW "keeps" (e_ a (.ck t)):=by
 refine aK 0 T.gJ T.yG dF ?_ ?_;walk_at"in"
 . obtain⟨x, s, z, rfl, ⟨dx, hx⟩, hk, z0, z1, hs, q⟩ := h
   change H x=some (.ins a.aW dx (aj "target" (.int t) [])) at hx
   obtain⟨k1,k2⟩:=hk;walk_at"h";have nd:=dF.nd;walk_at"v";symm;exact q
theorem xq (T:TX)(m:Int):ME 1 a.bV "keeps" (e_ a (.grow m)):=by
 refine aK 0 T.iZ T.zY dF ?_ ?_;walk_at"in"
 . obtain⟨x, s, z, rfl, ⟨dx, hx⟩, hk, z0, z1, hs, q⟩ := h
   change H x=some (.ins a.bV dx (aj "many" (.int m) [])) at hx
   obtain⟨k1,k2⟩:=hk;walk_at"h";have nd:=dF.nd;walk_at"v";symm;exact q
theorem xp (T:TX)(b:Int):ME 1 a.ba "keeps" (e_ a (.back b)):=by
 refine aK 0 T.i7 T.xY dF ?_ ?_;walk_at"in"
 . obtain⟨x, s, z, rfl, ⟨dx, hx⟩, hk, z0, z1, hs, q⟩ := h
   change H x=some (.ins a.ba dx (aj "box" (.int b) [])) at hx
   obtain⟨k1,k2⟩:=hk;walk_at"h";have nd:=dF.nd;walk_at"v";symm;exact q
theorem vx (T:TX)(m:Int):ME 1 a.bV "height" (eg a (.grow m)):=by
 refine aK 0 T.iZ T.xn kN ?_ ?_;walk_at"in"
 . obtain⟨x, z, rfl, ⟨dx, hx⟩, q⟩ := h
   change H x=some (.ins a.bV dx (aj "many" (.int m) [])) at hx
   walk_at"h";have nd:=kN.nd;walk_at"v";walk_at"rds";all_goals (try simp only[Rw.aC] at q);(repeat' split at q) <;> first | exact q | (exfalso;lia)
theorem rF (T:TX)(m:Int):ME 1 a.be "height" (eg a (.shrink m)):=by
 refine aK 0 T.fV T.sV jt ?_ ?_;walk_at"in"
 . obtain⟨x, z, rfl, ⟨dx, hx⟩, q⟩ := h
   change H x=some (.ins a.be dx (aj "many" (.int m) [])) at hx
   walk_at"h";have nd:=jt.nd;walk_at"v";walk_at"rds";all_goals (try simp only[Rw.aC] at q);(repeat' split at q) <;> first | exact q | (exfalso;lia)
theorem xG (T:TX)(b c:Int):ME 1 a.cq "height" (eg a (.put b c)):=by
 refine aK 0 T.kU T.yQ di ?_ ?_;walk_at"in"
 . obtain⟨x, z, rfl, ⟨dx, hx⟩, q⟩ := h
   change H x=some (.ins a.cq dx (aj "cell" (.int c) (aj "box" (.int b) []))) at hx
   walk_at"h";have nd:=di.nd;walk_at"v";walk_at"rds";all_goals (try simp only[Rw.aC] at q);(repeat' split at q) <;> first | exact q | (exfalso;lia)
theorem xK (T:TX)(b c:Int):ME 1 a.cm "height" (eg a (.get b c)):=by
 refine aK 0 T.lu T.yE di ?_ ?_;walk_at"in"
 . obtain⟨x, z, rfl, ⟨dx, hx⟩, q⟩ := h
   change H x=some (.ins a.cm dx (aj "cell" (.int c) (aj "box" (.int b) []))) at hx
   walk_at"h";have nd:=di.nd;walk_at"v";walk_at"rds";all_goals (try simp only[Rw.aC] at q);(repeat' split at q) <;> first | exact q | (exfalso;lia)
theorem Em (T:TX):KE 1 "Table" a.cM (xQ K a.cM)/\Pp P w K mg base eA 1 "Table" a.cM (xQ K a.cM):=by
 refine Km 0 T.Kx T.JI mQ ?_ ?_;walk_at"in"
 . obtain⟨x, dx, pe, lv, xs, kvs, rfl, hx, hS, hd, q⟩ := h;walk_at"h";have nd:=mQ.nd;refine' aF ?_ ?_;walk_at"tS";walk_at"m";exact(gM (K:=K) rfl (pv 0) (jl (cC vO (pv 2) eT (cb _)) yZ (ip BX rfl T.K1 M7 (aa (pv 2) ao))));walk_at"s";rcases hd with ⟨rfl,rfl⟩ | ⟨pd,rfl,hd⟩
   . symm;rename_i l hl d hd;have nx:=eO hd;have nl:=eO nx.1;refine q l d _ hl nl.1 nl.2.symm (λb o e ne=>?_) U ?_ ?_
     . rw[af ne,af (ae (show upd (upd H l (.lst xs)) x _ b=some o from by rw[af ne,af (ae e hl)];exact e) hd),af ne,af (ae e hl)];exact e
     . rw[af (ae hx hl).symm,af nl.2.symm,af (ae hx hl).symm,U]
     . rw[af nx.2,U]
   . have npx : pd ≠ x := ID hd hx (by intro z; cases z);symm;rename_i l hl d VW;have nx:=eO VW;have nl:=eO nx.1;refine q l d _ hl nl.1 nl.2.symm (λb o e ne=>?_) U ?_ ?_
     . rw[af ne,af (ae (show upd (upd H l (.lst xs)) x _ b=some o from by rw[af ne,af (ae e hl)];exact e) VW),af ne,af (ae e hl)];exact e
     . rw[af (ae hx hl).symm,af nl.2.symm,af (ae hx hl).symm,U]
     . rw[af nx.2,U]
theorem GJ (T:TX):KE 1 "Table" a.cM (xQ K a.cM):=(Em T).1
theorem iV (T:TX):FE 1 "sets_of" (Nt K):=by
 refine aR 0 T.Ct tZ ?_ ?_;walk_at"in"
 . obtain⟨p, e, rfl, ⟨pk, h1, h2⟩, q⟩ := h;walk_at"h";have nd:=tZ.nd;walk_at"v";symm;exact q _ (by assumption)
theorem tf (T:TX):FE 1 "lists_within" DQ:=by
 refine aR 0 T.uH jQ ?_ ?_;walk_at"in"
 . obtain⟨p, s, rfl, hp, ok, q⟩ := h;obtain⟨q0,q1,q2,q3,q4,q5,q6,q7,q8,q9,q10,VF,q12,C,t0,t1,t2,t3,t4,t5,t6,t7,t8,t9,t10,t11,t12⟩:=T.vC;walk_at"h";have nd:=jQ.nd;refine' cv ?_;exact(b9 (bB (own:=["part","kind"]) (fr:=[]) rfl ⟨rfl,(by walk_at"clok"),(by walk_at"frok"),rfl,(by decide +kernel),(by decide +kernel),rfl⟩ (nR (K:=K) rfl rfl T.mr (aa (rZ (HU (K:=K) rfl) (pv 0) (vF aH) vm) (aa (Kk (w:=w) (K:=K) rfl rfl (bI (v:=.ref a.pP) rfl T.uW rfl) (bt (b_ (K:=K) rfl) (pv 0) aH (λ_ _=>rfl)) (λ_ _=>rfl)) ao))) (λ_ _ _ _=>(fb (K:=K) (n:=2) rfl rfl (bR (aM (i:=0) (show aaN [("part" : Str),("kind" : Str)] from by decide +kernel) rfl (Or.inl rfl)) (bR (aM (i:=1) (show aaN [("part" : Str),("kind" : Str)] from by decide +kernel) rfl (Or.inl rfl)) eZ)))) (λ_ _ _ _=>(i9 (cC (jj (K:=K) rfl hr.units) (pv 1) il (cb _)))) (λ_ _ _ _=>(pv 0))));walk_at"s";cases s with
   | set x =>
     have hp:H p=some (.tup [.str "set",.int x,.int 7]):=hp;symm;refine xW (az.of hp) (λz=>adk (show(1:Nat)=0 from z.1)) λls Tu=>?_;rw[show cE [.str "set",.int x,.int 7] (some 1) none=[V.int x,V.int 7] from rfl];symm;refine⟨_,_,rfl,C,?_⟩;symm;refine⟨_,.ref q0,rfl,rfl,?_⟩;symm;refine⟨ls,q0,_,_,rfl,az.of U,t0 _,?_⟩;refine o8 (α:=Int×Str) (xs:=[(x,("name" : Str)),(7,("value" : Str))]) (e1:=λp=>.int p.1) (e2:=λp=>.str p.2) (λ_=>.ax) (λ_=>false) (λZ=>∃ u v,Z = [u,v]) (az.of U) (t0 _) (by walk_at"small") ⟨_,_,rfl⟩ ?_ ?_
     . rintro i ⟨zz,k⟩ ys Z H1 T hx cc s1 ⟨u,v',rfl⟩ nT;have au:k = "name"∨k = "value":=by
         have hm:=aad hx;simp only[aaX,aa0,or_false,adn] at hm;rcases hm with ⟨rfl,rfl⟩ | ⟨rfl,rfl⟩
         . exact .inl rfl
         . exact .inr rfl
       refine eV (az.of U) rfl ?_;rcases au with rfl | rfl
       . symm;exact cc.no hx rfl (by walk_at"same") ⟨_,_,rfl⟩
       . symm;exact cc.no hx rfl (by walk_at"same") ⟨_,_,rfl⟩
     intro H1 s1 l2 Uh;exact q l2 _ ((ag Tu).trans (s1.trans (ag Uh))) U (aB ((ag (o:=.tup [V.int x,V.int 7]) Tu).trans s1) Uh)
   | give x =>
     have hp:H p=some (.tup [.str "give",.int x]):=hp;symm;refine xW (az.of hp) (λz=>adk (show(1:Nat)=0 from z.1)) λls Tu=>?_;rw[show cE [.str "give",.int x] (some 1) none=[V.int x] from rfl];symm;refine⟨_,_,rfl,C,?_⟩;symm;refine⟨_,.ref VF,rfl,rfl,?_⟩;symm;refine⟨ls,VF,_,_,rfl,az.of U,t11 _,?_⟩;refine o8 (α:=Int×Str) (xs:=[(x,("name" : Str))]) (e1:=λp=>.int p.1) (e2:=λp=>.str p.2) (λ_=>.ax) (λ_=>false) (λZ=>∃ u v,Z = [u,v]) (az.of U) (t11 _) (by walk_at"small") ⟨_,_,rfl⟩ ?_ ?_
     . rintro i ⟨zz,k⟩ ys Z H1 T hx cc s1 ⟨u,v',rfl⟩ nT;have au:k = "name"∨k = "value":=by
         have hm:=aad hx;simp only[aaX,aa0,or_false,adn] at hm;obtain⟨rfl,rfl⟩:=hm;exact .inl rfl
       refine eV (az.of U) rfl ?_;rcases au with rfl | rfl
       . symm;exact cc.no hx rfl (by walk_at"same") ⟨_,_,rfl⟩
       . symm;exact cc.no hx rfl (by walk_at"same") ⟨_,_,rfl⟩
     intro H1 s1 l2 Uh;exact q l2 _ ((ag Tu).trans (s1.trans (ag Uh))) U (aB ((ag (o:=.tup [V.int x]) Tu).trans s1) Uh)
   | leave=>exact ok.elim
theorem Ac (T:TX)(t:Int):ME 1 a.aW "goes" (gc a (.ck t)):=by
 refine aK 0 T.gJ T.AE o7 ?_ ?_;walk_at"in"
 . obtain⟨x, z, rfl, ⟨dx, hx⟩, q⟩ := h
   change H x=some (.ins a.aW dx (aj "target" (.int t) [])) at hx
   walk_at"h";have nd:=o7.nd;walk_at"v";symm;exact q _ (by assumption)
theorem zu (T:TX)(b:Int):ME 1 a.ba "goes" (gc a (.back b)):=by
 refine aK 0 T.i7 T.Aj oy ?_ ?_;walk_at"in"
 . obtain⟨x, z, rfl, ⟨dx, hx⟩, q⟩ := h
   change H x=some (.ins a.ba dx (aj "box" (.int b) [])) at hx
   walk_at"h";have nd:=oy.nd;walk_at"v";symm;exact q _ (by assumption)
theorem GN (T:TX):KE 1 "Frame" a.aU (Jq a):=by
 refine fz 0 T.Kd T.Js mO ?_ ?_;walk_at"in"
 . obtain⟨x, dx, v, h, rfl, hx, ⟨p, rfl, hp⟩, hm, q⟩ := h;have UA:=T.dI;have U_:h.length=3:=by
     unfold bw at hm;rw[aah,decide_eq_true_eq] at hm;exact hm.1
   have h7:=pC hm;have S_:=Jr hm;have npx:p≠x:=λz=>by rw[z,hx] at hp;cases hp
   walk_at"h";have nd:=mO.nd;refine' aF ?_ ?_;walk_at"tS";walk_at"n";walk_at"g";exact(nR (K:=K) rfl rfl T.mr (aa (bI (v:=.ref a.cu) rfl T.eU rfl) (aa (pv 1) ao)));walk_at"tG";walk_at"m";walk_at"f";walk_at"tT";walk_at"m";exact(vt (eL hr) (aV (K:=K) rfl (pv 0)) (pv 3) (pv 2) rfl);exact aT;exact λ_=>rfl;walk_at"n";exact(gM (K:=K) rfl (pv 0) (dD (eR (K:=K) rfl) (gj (aa (bI (v:=.int 7) rfl T.Fo.choose_spec ⟨_,rfl⟩) ao)) (bB (own:=["box","name"]) (fr:=[]) rfl ⟨rfl,(by walk_at"clok"),(by walk_at"frok"),rfl,(by decide +kernel),(by decide +kernel),rfl⟩ (nR (K:=K) rfl rfl T.mr (aa (bI (v:=.ref a.cu) rfl T.eU rfl) (aa (pv 1) ao))) (λ_ _ _ _=>(fb (K:=K) (n:=2) rfl rfl (bR (aM (i:=0) (show aaN [("box" : Str),("name" : Str)] from by decide +kernel) rfl (Or.inl rfl)) (bR (aM (i:=1) (show aaN [("box" : Str),("name" : Str)] from by decide +kernel) rfl (Or.inl rfl)) eZ)))) (λ_ _ _ _=>(i9 (cC lW (pv 1) eT (cb _)))) (λ_ _ _ _=>(pv 0)))));walk_at"n";exact(gM (K:=K) rfl (pv 0) (bB (own:=["name"]) (fr:=[("self",0)]) rfl ⟨rfl,(by walk_at"clok"),(by walk_at"frok"),rfl,(by decide +kernel),(by decide +kernel),rfl⟩ (oo rfl T.va (aa (dD (eR (K:=K) rfl) (bI (v:=.int 5) rfl T.sW.choose_spec ⟨_,rfl⟩) aH) ao)) (λ_ _ _ _=>(aM (i:=0) (show aaN [("name" : Str),("self" : Str)] from by decide +kernel) rfl (Or.inl rfl))) (λ_ _ _ _=>(i9 (tH (wm (eL hr) (pv 0) (aV (K:=K) rfl (pv 1)))))) (λ_ _ _ _=>(pv 0))));walk_at"m";walk_at"tS";walk_at"s";symm;rename_i d Wv;have R8:(upd (upd H d (.dK [])) x (.ins a.aU dx (aj "box_of" (.ref d) []))) p=some (.tup (h.map aO)):=by rw[af npx];exact ak hp Wv
   refine⟨a.cu,p,_,_,rfl,UA _,az.of R8,?_⟩;refine GB (xs:=[.int 4,.int 5,.int 6]) (ys:=h.map aO) (by rw[aaa,U_];rfl) (λi Z H1=>(∃ u v,Z = [some (.ref x),some (.ref p),u,v])/\(∀ b o,H b=some o->b≠x->H1 b=some o)/\H1 x=some (.ins a.aU dx (aj "box_of" (.ref d) []))/\H1 d=some (.dK (aD (fR (([4,5,6]:List Int).take i) (h.take i))))) ⟨⟨_,_,rfl⟩,(λb o e ne=>by rw[af ne];exact ak e Wv),U,by rw[af (ae hx Wv).symm];exact U⟩ (λi Z H1 _ ⟨_,k1,_⟩=>⟨UA _,az.of (k1 _ _ hp npx)⟩) ?_ ?_
   . rintro i v1 v2 T' Z H1 w1 w2 ⟨⟨u1,u2,rfl⟩,k1,Sj,SW⟩ nT;obtain⟨b,hb,rfl⟩:=int_at (ns:=[4,5,6]) w1;rw[aae] at w2;obtain⟨o,ho,rfl⟩:=Option.map_eq_some_iff.mp w2;have hsn:=rj hb ho;have TF:=pF (([4,5,6]:List Int).take i) (h.take i);rw[aaC] at TF;have hi3:i<3:=(List.getElem?_eq_some_iff.mp hb).1;have Sm:=ak (o:=.tup [.int b,aO o]) Sj nT;have SI:=ak (o:=.tup [.int b,aO o]) SW nT;have U3:d≠x:=(ae hx Wv).symm;rw[hsn];refine eV (az.of U) rfl ?_;cases o with
     | none =>
       rw[show aO none=V.ax from rfl] at Sm SI ⊢;symm;exact⟨⟨_,_,rfl⟩,(λb o e ne=>ak (k1 b o e ne) nT),Sm,by rw[show jG b none=[] from rfl,aaJ];exact SI⟩
     | some n =>
       rw[show aO (some n)=V.int n from rfl] at Sm SI ⊢;have WG:=nz (Jw S_ hb ho);symm;refine kJ SI (by unfold aD;rw[aaa,aan];lia) ?_;rw[Hi WG];exact⟨⟨_,_,rfl⟩,(λb o e ne=>by rw[af (ae e Wv)];exact ak (k1 b o e ne) nT),by rw[af U3.symm];exact Sm,U⟩
   . rintro Z H1 ⟨⟨u1,u2,rfl⟩,k1,Sj,SW⟩;have e3:fR (([4,5,6]:List Int).take 3) (h.take 3)=bQ h:=by
       unfold bQ;rw[show h.take 3=h from ac7 (by lia)];rfl
     have SW:H1 d=some (.dK (aD (bQ h))):=by rw[<- e3];exact SW
     obtain⟨o1,o2,o3,e123⟩:∃ o1 o2 o3,h=[o1,o2,o3]:=by
       match h,U_ with
       | [a,b,c],_=>exact⟨a,b,c,rfl⟩
     have U7:=k1 _ _ hp npx;symm;rename_i l7 n7;refine⟨a.cu,p,_,_,rfl,UA _,az.of (ak U7 n7),?_⟩;refine o8 (α:=Int×Option Int) (xs:=[((4:Int),o1),(5,o2),(6,o3)]) (e1:=λp=>.int p.1) (e2:=λp=>aO p.2) (λp=>.int p.1) (λp=>p.2.isSome) (λZ=>∃ u v,Z = [u,v]) (UA _) (by rw[e123] at U7;exact az.of (ak U7 n7)) (by rw[aan];exact aam rfl) ⟨_,_,rfl⟩ ?_ ?_
     . rintro i ⟨b,o⟩ ys Z H2 T' hz cc ss ⟨u,v,rfl⟩ nT;refine eV (az.of U) rfl ?_;cases o with
       | none =>
         rw[show aO none=V.ax from rfl];symm;exact cc.no hz rfl (by walk_at"same") ⟨_,_,rfl⟩
       | some n =>
         rw[show aO (some n)=V.int n from rfl];symm;exact cc.yes hz rfl rfl (by walk_at"same") ⟨_,_,rfl⟩
     intro H2 s2 l8 n8;rw[show(([((4:Int),o1),(5,o2),(6,o3)].filter λp=>p.2.isSome).map λp=>V.int p.1)=((bQ h).map (·.2)).map V.int from by rw[e123];cases o1 <;> cases o2 <;> cases o3 <;> rfl];have WK:(upd H2 l8 (.lst (((bQ h).map (·.2)).map V.int))) l7=some (.lst [V.int 7]):=ak (s2 _ _ U) n8;have TF:=pF [4,5,6] h;refine bA WK U (by rw[aaa,aaa,aan];show 1+(fR [4,5,6] h).length<=_;have:([4,5,6]:List Int).length=3:=rfl;lia) λl9 n9=>?_;have s3:ah H1 (upd (upd H2 l8 (.lst (((bQ h).map (·.2)).map V.int))) l9 (.lst ((aA h).map V.int))):=(ag n7).trans (s2.trans ((ag n8).trans (ag n9)));have n9H:H l9=none:=dN k1 Sj (aB ((ag (o:=.lst [V.int 7]) n7).trans (s2.trans (ag n8))) n9);have hl9:(upd (upd H2 l8 (.lst (((bQ h).map (·.2)).map V.int))) l9 (.lst ((aA h).map V.int))) l9=some (.lst ((aA h).map V.int)):=U;rw[show([V.int 7]++((bQ h).map (·.2)).map V.int)=(aA h).map V.int from rfl];generalize (upd (upd H2 l8 (.lst (((bQ h).map (·.2)).map V.int))) l9 (.lst ((aA h).map V.int)))=H3 at s3 hl9 ⊢;clear n9 n8 s2 n7 WK;have Tw:=s3 _ _ Sj;have VU:=s3 _ _ SW;have k3:∀ b o,H b=some o->b≠x->H3 b=some o:=λb o e ne=>s3 _ _ (k1 b o e ne);clear s3 Sj SW k1 U7;have U3:d≠x:=(ae hx Wv).symm;have n9x:l9≠x:=(ae hx n9H).symm;symm;have Sz:(upd H3 x (.ins a.aU dx (aj "away" (.ref l9) (aj "box_of" (.ref d) [])))) x=some (.ins a.aU dx (aj "away" (.ref l9) (aj "box_of" (.ref d) []))):=U;have Up:(upd H3 x (.ins a.aU dx (aj "away" (.ref l9) (aj "box_of" (.ref d) [])))) d=some (.dK (aD (bQ h))):=by rw[af U3];exact VU
     have Tq:(upd H3 x (.ins a.aU dx (aj "away" (.ref l9) (aj "box_of" (.ref d) [])))) l9=some (.lst ((aA h).map V.int)):=by rw[af n9x];exact hl9
     have k4:∀ b o,H b=some o->b≠x->(upd H3 x (.ins a.aU dx (aj "away" (.ref l9) (aj "box_of" (.ref d) [])))) b=some o:=λb o e ne=>by rw[af ne];exact k3 b o e ne
     generalize (upd H3 x (.ins a.aU dx (aj "away" (.ref l9) (aj "box_of" (.ref d) []))))=H4 at Sz Up Tq k4 ⊢;clear Tw VU hl9 k3;refine FK (n:=6) (λi:Nat=>V.int (i:Int)) (λi:Nat=>(gB h (i:Int)).isNone) (λZ=>∃ u,Z = [u,some (.ref x)]) (by rw[aan];exact aam rfl) ⟨_,rfl⟩ ?_ ?_
     . rintro i ys Z H5 hi cc s5 ⟨u,rfl⟩;have Vh:=s5 _ _ Sz;have Vq:=s5 _ _ Up;rw[ab7];symm;refine B0 ?_;refine zA ?_;symm;refine uM (kvs:=aD (bQ h)) Vq ?_;rw[xV];cases hb:gB h (i:Int) with
       | none =>
         refine⟨true,rfl,?_⟩;rw[if_pos rfl];symm;exact cc.yes (x:=i) (by rw[acE hi]) (by rw[hb];rfl) rfl s5 ⟨_,rfl⟩
       | some z =>
         refine⟨false,rfl,?_⟩;rw[if_neg aaw];exact cc.no (x:=i) (by rw[acE hi]) (by rw[hb];rfl) s5 ⟨_,rfl⟩
     intro H5 s5 l5 n5;rw[F5];have s6:=s5.trans (ag (o:=.lst ((cT h).map V.int)) n5);have n5H:H l5=none:=dN k4 Sz (aB s5 n5);have Uj:=s6 _ _ Sz;have Uo:=s6 _ _ Up;have ha6:=s6 _ _ Tq;have hc6:(upd H5 l5 (.lst ((cT h).map V.int))) l5=some (.lst ((cT h).map V.int)):=U;have k6:∀ b o,H b=some o->b≠x->(upd H5 l5 (.lst ((cT h).map V.int))) b=some o:=λb o e ne=>s6 _ _ (k4 b o e ne);generalize (upd H5 l5 (.lst ((cT h).map V.int)))=H6 at Uj Uo ha6 hc6 k6 ⊢;clear s6 s5 n5 Sz Up Tq k4;have n5x:l5≠x:=(ae hx n5H).symm;symm;rw[show((aA h).length:Int)+((cT h).length:Int)=7 from by lia];refine q d l9 l5 (aj "many" (.int 7) (aj "in_cells" (.ref l5) (aj "away" (.ref l9) (aj "box_of" (.ref d) [])))) _ Wv n9H n5H (λb o e ne=>by rw[af ne,af ne];exact k6 b o e ne) ⟨U,⟨by walk_at"lk",by walk_at"lk",by walk_at"lk",by walk_at"lk",?_,λy hy=>?_⟩,by rw[af U3,af U3];exact Uo,by rw[af n9x,af n9x];exact ha6,by rw[af n5x,af n5x];exact hc6⟩
     . exact aaR (er (er (er (er (aai 0))))) (by decide)
     . simp only[aaX,aa0,or_false] at hy;rcases hy with rfl | rfl | rfl | rfl | rfl | rfl <;> walk_at"nolk"
theorem jJ (T:TX):ME 1 a.aU "cell_of" (Kc a):=by
 refine aK 0 T.fM T.uz jc ?_ ?_;walk_at"in"
 . obtain⟨x, h, n, rfl, ⟨dx, d, la, lc, fs, fr⟩, hm, h0, h5, hb, q⟩ := h;have hx:=fr.hx;have f1:=fr.F.away;have f2:=fr.F.cells;have ha:=fr.ha;have hc:=fr.hc;have h7:=pC hm;have hk:=tO hm h0 h5;walk_at"h";have nd:=jc.nd;refine' cv ?_;exact(b9 (dD (eR (K:=K) rfl) (aG (bK (K:=K) rfl) rfl T.dm du (aa (aV (K:=K) rfl (pv 0)) ao)) (ei (K:=K) rfl aaM PySem.F.slot_list_index PySem.F.type_list_index EW (aV (K:=K) rfl (pv 0)) (aa (pv 1) ao))));walk_at"s";obtain⟨_,k1,k2⟩ | ⟨b,k,_⟩:=hk
   . symm;refine Hl hc k1 k2 ?_;symm;have e:((aA h).length:Int)+((BF h n:Nat):Int)=f_ h n:=by unfold f_;lia
     rw[e];exact q
   . rw[hb] at k;cases k
theorem rf (T:TX):ME 1 a.aU "at_hand" (Ge a):=by
 refine aK 0 T.fM T.so ji ?_ ?_;walk_at"in"
 . obtain⟨x, h, n, s', rfl, ⟨dx, d, la, lc, fs, fr⟩, q⟩ := h;have hx:=fr.hx;have f1:=fr.F.box;have hd:=fr.hd;have dg:=c8.k (k:=.inl n) hd;rw[xV] at dg;walk_at"h";have nd:=ji.nd;refine' cv ?_;exact(b9 (Hs (eL hr) (aV (K:=K) rfl (pv 0)) (pv 1) (pv 2) ⟨rfl,rfl,rfl,rfl⟩));walk_at"s"
   with_reducible refine Kw ?_
   symm;refine⟨.inl ⟨_,.inl hd⟩,_,dg,?_⟩;unfold iE at q;cases hb:gB h n with
   | none=>rw[hb] at q;exact q
   | some z=>rw[hb] at q;exact q
theorem FP (T:TX):FE 1 "is_row" (JY K):=by
 refine aR 0 T.E1 wV ?_ ?_;walk_at"in"
 . obtain ⟨n, p, us, rfl, hp, q⟩ := h;walk_at "h";have nd:=wV.nd;refine' cv ?_;exact (b9 (Ae p8 BV aH (pv 0) (aG (bK (K:=K) rfl) rfl T.dm du (aa (pv 1) ao))));walk_at "s";symm;refine fH (λhh=>?_) (λhh=>?_)
   . symm;refine(?_:Q (V.bl _) _);rw[show decide (n<(us.length:Int))=decide (0<=n/\n<(us.length:Int)) from by rw[decide_eq_decide];exact⟨λz=>⟨hh,z⟩,λz=>z.2⟩];exact q
   . rw[decide_eq_false (λz : 0<=n/\n<(us.length:Int)=>hh z.1)] at q;symm;exact q
theorem z_ (T:TX):FE 1 "each_once" (M3 K):=by
 refine aR 0 T.zc ny ?_ ?_;walk_at"in"
 . obtain ⟨p, ns, rfl, hp, hn, q⟩ := h;walk_at "h";have nd:=ny.nd;walk_at "v";symm;rename_i l nl;refine eS (K:=K) (a:=p) (xs:=ns.map V.int) (λi Z H1=>(∃ u,Z = [some (.ref p),some (.ref l),u])/\ah H H1/\H1 l=some (.lst ((once (ns.take i)).map V.int))/\(once (ns.take i)).length<=i) ⟨⟨_,rfl⟩,ag nl,U,aai _⟩ (λi Z H1 _ ⟨_,s1,_⟩=>ah.seq s1 hp) ?_ ?_
   . rintro i x Z H1 hx ⟨⟨u,rfl⟩,s1,hl,Bn⟩;obtain⟨n,hn1,rfl⟩:∃ n,ns[i]? = some n/\x=.int n:=by
       rw[aae] at hx;obtain⟨p,hp,e⟩:=Option.map_eq_some_iff.mp hx;exact⟨p,hp,e.symm⟩
     have hi:i<ns.length:=(List.getElem?_eq_some_iff.mp hn1).1;have en:once (ns.take (i+1))=if n∈once (ns.take i) then once (ns.take i) else once (ns.take i)++[n]:=by
       unfold once;rw[aaI,hn1,aaE,List.foldl_append];rfl
     rw[en];generalize once (ns.take i)=os at hl Bn ⊢;symm;refine Dc (av.of hl) rfl (EG _) ?_;rw[if_pos rfl,Gz];by_cases hm:n∈os
     . rw[decide_eq_true hm,if_pos hm];symm;exact⟨⟨_,rfl⟩,s1,hl,by lia⟩
     . rw[decide_eq_false hm,if_neg hm];symm;exact⟨⟨_,rfl⟩,by walk_at"same",by rw[aal];exact U,by rw[aab];show os.length+1<=i+1;lia⟩
   . rintro Z H1 ⟨⟨u,rfl⟩,s1,hl,Bn⟩;rw[aaa,aaG] at hl;symm;exact q l H1 s1 hl
theorem rH (T:TX):iI P w K mg base (cS P w) 1 "reach" (BP a):=by
 refine sm 0 T.GZ yL ?_ ?_;walk_at"in"
 . obtain ⟨lh, lw, n, SO, hs, ws, rfl, WI, hlw, h1, h2, n1, n2, SR, qb, qs, qn⟩ := h;walk_at "h";have nd:=yL.nd;refine' aF ?_ ?_;walk_at "f";walk_at "y";walk_at "tT";walk_at "m";exact (gR T.jY rfl (aa (vH (pv 2)) ao));exact aT;walk_at "m";walk_at "f";walk_at "y";walk_at "tT";walk_at "n";walk_at "x";walk_at "tS";walk_at "m";walk_at "x";walk_at "tS";walk_at "m";walk_at "f";walk_at "y";walk_at "tT";walk_at "m";exact (gR T.jY rfl (aa (vH (pv 2)) ao));exact aT;walk_at "s";ac_rfl;refine fH (λhh=>?_) (λhh=>?_)
   . ac_rfl;refine fU ?_;ac_rfl;refine tY ?_;ac_rfl;exact⟨lM n1 n2,by show 1<=1000;decide,qb (.inl hh)⟩
   . ac_rfl;refine dH (av.of WI) ?_;rw [aaa];ac_rfl;refine fH (λVT=>?_) (λVT=>?_)
     . ac_rfl;refine fU ?_;ac_rfl;refine tY ?_;ac_rfl;exact⟨lM n1 n2,by show 1<=1000;decide,qb (.inr (.inl VT))⟩
     . obtain ⟨k, rfl⟩ : ∃ k : Nat, n = (k : Int) := ⟨n.toNat, by lia⟩
       rw[aaA] at qb qs qn;have hk:k<hs.length:=by lia
       have R9:hs[k]? = some hs[k]:=aac hk;have RW:cI (hs.map aO) (k:Int)=some (aO hs[k]):=cA (by rw[aae,R9];rfl);generalize hs[k]=o at R9 RW;rw[R9] at qb qs qn;cases o with
       | none =>
         have RW:cI (hs.map aO) (k:Int)=some .ax:=RW;ac_rfl;refine zf WI (j:=k) (by rw[aaa];exact BU hk) ?_;ac_rfl;have e1:(hs.map aO).set k (.int SO)=(hs.set k (some SO)).map aO:=pE aO hs k (some SO);have e2:ws.map nV++[V.int (k:Int)]=(ws++[k]).map nV:=by rw[aal];rfl
         rw[e1,e2];exact qn (by lia) rfl
       | some h0 =>
         have RW:cI (hs.map aO) (k:Int)=some (.int h0):=RW;ac_rfl;refine jw (λU_=>?_) (λU_=>?_)
         . ac_rfl;refine fU ?_;ac_rfl;refine tY ?_;ac_rfl;exact⟨lM n1 n2,by show 1<=1000;decide,qb (.inr (.inr ⟨h0,rfl,U_⟩))⟩
         . ac_rfl;exact qs (by lia) (by rw[show h0=SO from by simpa using U_])
theorem EB (T:TX):FE 1 "narrow" y0:=by
 refine aR 0 T.DP wd ?_ ?_;walk_at"in"
 . obtain ⟨Ww, dc, n, p, ss, ks, o, rfl, hl, hd, h1, h2, S_, ho, q1, q2⟩ := h;have RW:cI (ss.map bX) (n:Int)=some (bX o):=cA (by rw [aae,ho];rfl);have hn:n<ss.length:=(List.getElem?_eq_some_iff.mp ho).1;have Tp:Ww≠dc:=λz=>by rw [z,hd] at hl;cases hl
   walk_at"h";have nd:=wd.nd;refine' aF ?_ ?_;walk_at"tS";walk_at"m";walk_at"f";walk_at"tT";walk_at"c";walk_at"m";exact(vt (eL hr) (pv 1) (pv 2) IL rfl);exact aT;walk_at"s";have RN:∀ x:Nat,(upd (upd H Ww (.lst ((ss.map bX).set n (.int (x:Int))))) dc (.dK (putK (bo ks) (.inl (n:Int)) (.bl true))))=upd (upd H Ww (.lst ((ss.set n (some x)).map bX))) dc (.dK (bo (jb ks n))):=λx=>by
     rw[G8,<- pE bX ss n (some x)];rfl
   cases o with
   | none =>
     have RW:cI (ss.map bX) (n:Int)=some .ax:=RW;ac_rfl
     with_reducible refine(?_ : @ite Prop (_=true) (instDecidableEqBool _ _) _ _)
     rw[if_pos (by rw[decide_eq_false (λz=>by cases z)];rfl)];ac_rfl;refine zf hl (j:=n) (by rw[aaa];exact BU hn) ?_;ac_rfl;refine kJ (kvs:=bo ks) (by rw[af Tp.symm];exact hd) (by unfold bo;rw[aaa,aan];lia) ?_;rw[RN];exact q2 (λz=>by cases z)
   | some s0 =>
     have RW:cI (ss.map bX) (n:Int)=some (.int (s0:Int)):=RW;ac_rfl;rw[iU]
     with_reducible refine(?_ : @ite Prop (_=true) (instDecidableEqBool _ _) _ _)
     by_cases e:s0 &&& p=s0
     . rw[if_neg (by rw[e, decide_eq_true rfl]; decide)];ac_rfl;exact q1 (by show some s0=some (s0 &&& p);rw[e])
     . rw[if_pos (by rw[decide_eq_false (λz => e (by have := V.int.inj z; lia))]; rfl)];ac_rfl;refine zf hl (j:=n) (by rw[aaa];exact BU hn) ?_;ac_rfl;refine kJ (kvs:=bo ks) (by rw[af Tp.symm];exact hd) (by unfold bo;rw[aaa,aan];lia) ?_;rw[RN];exact q2 (λz=>e (by have:=aap z;exact this.symm))
theorem Cc (T:TX):FE 1 "add_all" MR:=by
 refine aR 0 T.Dz sO ?_ ?_;walk_at"in"
 . obtain ⟨m, l, ps, ss, rfl, hm, hl, nml, hs, ⟨au, h80⟩, q⟩ := h;have Vj:=hs.1;walk_at "h";have nd:=sO.nd;refine' cv ?_;walk_at "g";walk_at "tI";walk_at "tG";walk_at "m";walk_at "f";walk_at "tT";walk_at "m";exact bp;walk_at "m";walk_at "f";walk_at "tT";walk_at "m";exact bp;walk_at "m";walk_at "f";walk_at "tT";walk_at "m";exact bp;walk_at "m";walk_at "f";walk_at "tT";walk_at "m";exact bp;walk_at "tB";exact λ_=>rfl;walk_at "s";symm;refine eS (K:=K) (a:=l) (xs:=ps.map V.ref) (λi Z H1=>(∃ u,Z = [some (.ref m),some (.ref l),some .ax,u])/\(∀ b o,H b=some o->b≠m->H1 b=some o)/\∃ qs,H1 m=some (.lst (qs.map V.ref))/\bJ (gT H1) qs (ss.take i)) ⟨⟨_,rfl⟩,(λb o e _=>e),[],hm,bJ.nil⟩ (λi Z H1 _ ⟨_,k1,_⟩=>av.of (k1 _ _ hl nml.symm)) ?_ ?_
   . rintro i v Z H1 hv ⟨⟨u,rfl⟩,k1,qs,U8,Tn⟩;obtain ⟨p,hx,rfl⟩:=dG hv;obtain ⟨s,hsi,Uy⟩:=hs.at hx;have Uy:H p=some (.tup s.vs):=Uy;have npm:p≠m:=λz=>by rw [z,hm] at Uy;cases Uy
     have R8:=k1 _ _ Uy npm;have hql:=Tn.1;rw[aaC] at hql;have ok:=au _ (aad hsi);have RN:∀ t,H1 t=none->∃ Wj,(upd (upd H1 t (.tup [.ref p,.ax])) m (.lst (qs.map V.ref++[.ref t]))) m=some (.lst (Wj.map V.ref))/\bJ (gT (upd (upd H1 t (.tup [.ref p,.ax])) m (.lst (qs.map V.ref++[.ref t])))) Wj (ss.take (i+1)):=λt nt=>by
       refine⟨qs++[t],by rw[U,aal];rfl,?_⟩;rw[aaI,hsi,aaE];exact((Tn.to (gT.to λ_ _ z=>ak z nt)).snoc ⟨p,U,ak R8 nt⟩).to (gT.to (A_ (ak U8 nt)))
     clear hv hx Uy;have kk:∀ t,H1 t=none->∀ b o,H b=some o->b≠m->(upd (upd H1 t (.tup [.ref p,.ax])) m (.lst (qs.map V.ref++[.ref t]))) b=some o:=λt nt b o e ne=>by rw[af ne];exact ak (k1 b o e ne) nt
     cases s with
     | set x =>
       have R8:H1 p=some (.tup [.str "set",.int x,.int 7]):=R8;symm;rename_i t nt;exact⟨⟨_,rfl⟩,kk t nt,RN t nt⟩
     | give x =>
       have R8:H1 p=some (.tup [.str "give",.int x]):=R8;symm;rename_i t nt;exact⟨⟨_,rfl⟩,kk t nt,RN t nt⟩
     | leave=>exact ok.elim
   . rintro Z H1 ⟨⟨u,rfl⟩,k1,qs,U8,Tn⟩;rw[aaa,Vj,aaG] at Tn;symm;exact q qs H1 k1 U8 Tn
theorem eM (T:TX):ME 1 a.ay "label" (Ko a):=by
 refine aK 0 T.eP T.vS jR ?_ ?_;walk_at"in"
 . obtain ⟨m, f, k, E, D, rs, pl, rfl, S, hf, q⟩ := h;have hm:=S.hm;have hg:=S.hg;have f1:=S.B.F.D7;have hgl:(D.gs.length:Int)=D.ns.length:=by unfold c5.gs;rw [aaa,aa4]
   walk_at"h";have nd:=jR.nd;walk_at"v";symm;rw[Ey hf];symm;exact q
theorem dM (T:TX):ME 1 a.ay "here" (MX a):=by
 refine aK 0 T.eP T.xc kx ?_ ?_;walk_at"in"
 . obtain⟨m, l, E, D, rs, pl, rfl, S, hl, hz, q⟩ := h;have hm:=S.hm;have f1:=S.B.F.yp;have f2:=S.B.F.places;obtain⟨fI,hd,Ux⟩:=S.hd;have hp:=S.hp;walk_at"h";have nd:=kx.nd;refine' cv ?_;exact(vt (eL hr) (aV (K:=K) rfl (pv 0)) (pv 1) (aG (bK (K:=K) rfl) rfl T.dm du (aa (aV (K:=K) rfl (pv 0)) ao)) rfl);walk_at"s";symm;rw[aaa,Ux.1];refine kJ (kvs:=aD pl) hp (by unfold aD;rw[aaa,aan];lia) ?_;rw[Gp hl];exact q _ (S.place _).1 (S.place _).2
theorem vb (T:TX):FE 1 "_law_cell_at" (zd K):=by
 refine aR 0 T.vk lG ?_ ?_;walk_at"in"
 . obtain ⟨p, ns, k, rfl, hS, h0, q⟩ := h;walk_at "h";have nd:=lG.nd;walk_at "v";symm;refine fH (λhh=>?_) (λhh=>?_)
   . symm;exact q
   . symm;have e:=B8 h0 hh;rw[e] at q;exact q
theorem yg (T:TX):FE 1 "_law_homes" Ht:=by
 refine aR 0 T.zk nB ?_ ?_;walk_at"in"
 . obtain ⟨c, rfl, q⟩ := h;walk_at "h";have nd:=nB.nd;refine' aF ?_ ?_;walk_at "tS";walk_at "c";walk_at "c";walk_at "m";exact (b9 (ip (wR (K:=K) rfl) rfl T.i8 i6 (aa (pv 2) ao)));walk_at "s";symm;rename_i ln Wp lf T4;refine fS (λi Z H1=>(∃ u v,Z = [some (.int c),some (.ref ln),some (.ref lf),u,v])/\(∀ b o,(upd H ln (.lst [V.ax,.int (c%6),.int ((c+1+c/6%5)%6),.ax])) b=some o->H1 b=some o)/\∃ os:List (Option Int),os.length=i/\(∀ o∈os,o∈gY)/\H1 lf=some (.lst ((abn dP [] os).map aO))) ⟨⟨_,_,rfl⟩,λb o e=>ag T4 _ _ e,[],rfl,λo z=>(by cases z),U⟩ ?_ ?_
   . rintro i Z H1 hi ⟨⟨u,v,rfl⟩,s1,os,ho,T7,hl⟩;have hi3:i<3:=hi;rw [ab7];have hn:=s1 _ _ U;obtain ⟨o,hoA,RW⟩:=NS (c%6) ((c+1+c/6%5)%6) (c/30/((i:Int)+1)) (Ja _) (Ja _);have hol:(abn dP [] os).length=os.length:=by rw [Bm];exact abT _
     have RN:∀ H2:Hp,H2 lf=some (.lst ((abn dP [] os).map aO++[if (abn dP [] os).any (λx=>decide (x=o))=true then V.ax else aO o]))->H2 lf=some (.lst ((abn dP [] (os++[o])).map aO)):=λH2 e=>by
       rw[e,List.foldl_append];show _=some (HO.lst ((dP (abn dP [] os) o).map aO));unfold dP;rw[aal];split <;> rfl
     have Vv:∀ o'∈os++[o],o'∈gY:=λo' m=>by
       rcases List.mem_append.mp m with z | z
       . exact T7 o' z
       . rw[List.mem_singleton.mp z];exact hoA
     have keep:∀ us:List V,∀ b o',(upd H ln (.lst [V.ax,.int (c%6),.int ((c+1+c/6%5)%6),.ax])) b=some o'->(upd H1 lf (.lst us)) b=some o':=λus b o' e=>by rw[af (ae e T4)];exact s1 _ _ e
     symm;refine Bf ⟨by lia,by lia⟩ ?_;symm;cases o with
     | none =>
       refine(?_:cU 4 V.ax _ _ _);symm
       with_reducible refine Dc (x:=V.ax) (xs:=(abn dP [] os).map aO) (av.of hl) rfl (lU _) ?_
       rw[show qh V.ax ((abn dP [] os).map aO)=_ from zB none _];cases hany:(abn dP [] os).any (λx=>decide (x=none)) with
       | true =>
         rw[hany] at RN;symm;exact⟨⟨_,_,rfl⟩,keep _,os++[_],by rw[aab,ho];rfl,Vv,RN _ U⟩
       | false =>
         rw[hany] at RN;symm;exact⟨⟨_,_,rfl⟩,keep _,os++[_],by rw[aab,ho];rfl,Vv,RN _ U⟩
     | some n =>
       refine(?_:cU 4 (V.int n) _ _ _);symm
       with_reducible refine Dc (x:=V.int n) (xs:=(abn dP [] os).map aO) (av.of hl) rfl (lU _) ?_
       rw[show qh (V.int n) ((abn dP [] os).map aO)=_ from zB (some n) _];cases hany:(abn dP [] os).any (λx=>decide (x=some n)) with
       | true =>
         rw[hany] at RN;symm;exact⟨⟨_,_,rfl⟩,keep _,os++[_],by rw[aab,ho];rfl,Vv,RN _ U⟩
       | false =>
         rw[hany] at RN;symm;exact⟨⟨_,_,rfl⟩,keep _,os++[_],by rw[aab,ho];rfl,Vv,RN _ U⟩
   . rintro Z H1 ⟨⟨u,v,rfl⟩,s1,os,ho,T7,hl⟩;symm;refine zw (av.of hl) λp np=>?_;have hm:bw (abn dP [] os)=true:=by
       match os,ho with
       | [x,y,z],_=>exact GV x (T7 x (by simp)) y (T7 y (by simp)) z (T7 z (by simp))
     have sH:ah H H1:=λb o e=>s1 b o (ag Wp _ _ e);exact q p _ _ (sH.trans (ag np)) (aB sH np) U hm
theorem vM (T:TX):FE 1 "_law_spoiled" GL:=by
 refine aR 0 T.v9 gQ ?_ ?_;walk_at"in"
 . obtain ⟨l, way, c, hv, rfl, hl, h0, h3, hg, w0, w11, q⟩ := h;walk_at "h";have nd:=gQ.nd;refine' aF ?_ ?_;walk_at "tS";walk_at "n";exact (c9 (i:=4) gQ.nd rfl (Or.inl rfl) (dD ya (dD AX (pv 2) aH) (dD DV aH aH)));walk_at "c";walk_at "c";walk_at "c";walk_at "n";walk_at "f";walk_at "tT";walk_at "m";exact (b9 (ip (wR (K:=K) rfl) rfl T.i8 i6 (aa (pv 0) ao)));exact aT;walk_at "c";walk_at "m";walk_at "tS";walk_at "s";have hfar : 0<=c/7%10 ^ abk 20:=Int.emod_nonneg _ (by decide);have q2:∀ (w:Addr) (b:V) (lo hi lo' Tz:Option Int) (H':Hp),ah H H'->H' w=some (.lst (cE hv lo hi++[b]++cE hv lo' Tz))->hV H' b false->Q (.ref w) H':=λw b lo hi lo' Tz H' s e k=>q w H' s (JC e (Fb (hg.same s)) (Fb (hg.same s)) k (by have:=a8 (lo:=lo) (hi:=hi) h3;have:=a8 (lo:=lo') (hi:=Tz) h3;lia));have hw:way=0∨way=1∨way=2∨way=3∨way=4∨way=5∨way=6∨way=7∨way=8∨way=9∨way=10∨way=11:=by lia
   clear w0 w11;rcases hw with rfl | rfl | rfl | rfl | rfl | rfl | rfl | rfl | rfl | rfl | rfl | rfl
   . symm
     with_reducible refine' bA (by walk_at"hlk") (by walk_at"hlk") ?z (λp1 n1=>?_)
     case z=>have:=a8 (lo:=none) (hi:=some (c%(hv.length:Int))) h3;rw[aan];simp only[aaq,aaZ];lia
     symm
     with_reducible refine' bA (by walk_at"hlk") (by walk_at"hlk") ?z2 (λp2 n2=>?_)
     case z2=>have:=a8 (lo:=none) (hi:=some (c%(hv.length:Int))) h3;have:=a8 (lo:=some (c%(hv.length:Int)+1)) (hi:=none) h3;rw[aan,aab,aax];lia
     refine q2 p2 _ _ _ _ _ _ (by walk_at"same") U ?_
     (with_reducible refine lA (h:=[some 2,none,some 2]) (?_ : _=some (HO.tup [V.int 2,V.ax,V.int 2])) (aam rfl) (by decide));walk_at"hlk"
   . symm
     with_reducible refine' bA (by walk_at"hlk") (by walk_at"hlk") ?z (λp1 n1=>?_)
     case z=>have:=a8 (lo:=none) (hi:=some (c%(hv.length:Int))) h3;rw[aan];simp only[aaq,aaZ];lia
     symm
     with_reducible refine' bA (by walk_at"hlk") (by walk_at"hlk") ?z2 (λp2 n2=>?_)
     case z2=>have:=a8 (lo:=none) (hi:=some (c%(hv.length:Int))) h3;have:=a8 (lo:=some (c%(hv.length:Int)+1)) (hi:=none) h3;rw[aan,aab,aax];lia
     refine q2 p2 _ _ _ _ _ _ (by walk_at"same") U ?_
     (with_reducible refine lA (h:=[some 0,some (-1 - c/7%10 ^ abk 20),none]) (?_ : _=some (HO.tup [V.int 0,V.int (-1 - c/7%10 ^ abk 20),V.ax])) (aam rfl) ((Ea (n:=-1 - c/7%10 ^ abk 20) (by simp[dO]) (.inl (by generalize c/7%10 ^ abk 20=far at hfar ⊢;lia))).symm));walk_at"hlk"
   . symm
     with_reducible refine' bA (by walk_at"hlk") (by walk_at"hlk") ?z (λp1 n1=>?_)
     case z=>have:=a8 (lo:=none) (hi:=some (c%(hv.length:Int))) h3;rw[aan];simp only[aaq,aaZ];lia
     symm
     with_reducible refine' bA (by walk_at"hlk") (by walk_at"hlk") ?z2 (λp2 n2=>?_)
     case z2=>have:=a8 (lo:=none) (hi:=some (c%(hv.length:Int))) h3;have:=a8 (lo:=some (c%(hv.length:Int)+1)) (hi:=none) h3;rw[aan,aab,aax];lia
     refine q2 p2 _ _ _ _ _ _ (by walk_at"same") U ?_
     (with_reducible refine lA (h:=[some (6+c/7%10 ^ abk 20),none,some 1]) (?_ : _=some (HO.tup [V.int (6+c/7%10 ^ abk 20),V.ax,V.int 1])) (aam rfl) ((Ea (n:=6+c/7%10 ^ abk 20) (by simp[dO]) (.inr (by generalize c/7%10 ^ abk 20=far at hfar ⊢;lia))).symm));walk_at"hlk"
   . symm
     with_reducible refine' bA (by walk_at"hlk") (by walk_at"hlk") ?z (λp1 n1=>?_)
     case z=>have:=a8 (lo:=none) (hi:=some (c%(hv.length:Int))) h3;rw[aan];simp only[aaq,aaZ];lia
     symm
     with_reducible refine' bA (by walk_at"hlk") (by walk_at"hlk") ?z2 (λp2 n2=>?_)
     case z2=>have:=a8 (lo:=none) (hi:=some (c%(hv.length:Int))) h3;have:=a8 (lo:=some (c%(hv.length:Int)+1)) (hi:=none) h3;rw[aan,aab,aax];lia
     refine q2 p2 _ _ _ _ _ _ (by walk_at"same") U ?_
     (with_reducible refine lA (h:=[some 1,some 2]) (?_ : _=some (HO.tup [V.int 1,V.int 2])) (aam rfl) (by decide));walk_at"hlk"
   . symm
     with_reducible refine' bA (by walk_at"hlk") (by walk_at"hlk") ?z (λp1 n1=>?_)
     case z=>have:=a8 (lo:=none) (hi:=some (c%(hv.length:Int))) h3;rw[aan];simp only[aaq,aaZ];lia
     symm
     with_reducible refine' bA (by walk_at"hlk") (by walk_at"hlk") ?z2 (λp2 n2=>?_)
     case z2=>have:=a8 (lo:=none) (hi:=some (c%(hv.length:Int))) h3;have:=a8 (lo:=some (c%(hv.length:Int)+1)) (hi:=none) h3;rw[aan,aab,aax];lia
     refine q2 p2 _ _ _ _ _ _ (by walk_at"same") U ?_
     (with_reducible refine lA (h:=[some 1,some 2,some 3,some 4]) (?_ : _=some (HO.tup [V.int 1,V.int 2,V.int 3,V.int 4])) (aam rfl) (by decide));walk_at"hlk"
   . symm
     with_reducible refine' bA (by walk_at"hlk") (by walk_at"hlk") ?z (λp1 n1=>?_)
     case z=>have:=a8 (lo:=none) (hi:=some (c%(hv.length:Int))) h3;have:=a8 (lo:=some (c%(hv.length:Int)+1)) (hi:=none) h3;rw[aan];lia
     have sH:∀ H2,ah H H2->iA H2 (cE hv none (some (c%(hv.length:Int)))++cE hv (some (c%(hv.length:Int)+1)) none):=λH2 s2 v m=>by
       rcases List.mem_append.mp m with z | z
       . exact(hg v (vA z)).same s2
       . exact(hg v (vA z)).same s2
     refine q p1 _ (by walk_at"same") (AZ U (sH _ (by walk_at"same")) ?_ (Hh h0))
     have:=a8 (lo:=none) (hi:=some (c%(hv.length:Int))) h3;have:=a8 (lo:=some (c%(hv.length:Int)+1)) (hi:=none) h3;rw[aab];lia
   . symm;refine q _ _ (by walk_at "same") (AZ U (λv m=>?_) (by rw [aab,aax];lia) (by rw [aab,aax];lia));rcases List.mem_append.mp m with z | z
     . exact(hg v z).same (by walk_at"same")
     . rw[List.mem_singleton.mp z]
       (with_reducible refine lA (h:=[none,none,none]) (?_ : _=some (HO.tup [V.ax,V.ax,V.ax])) (by decide) (by decide));walk_at"hlk"
   . symm
     with_reducible refine' bA (by walk_at"hlk") (by walk_at"hlk") ?z (λp1 n1=>?_)
     case z=>have:=a8 (lo:=none) (hi:=some (c%(hv.length:Int))) h3;rw[aan];simp only[aaq,aaZ];lia
     symm
     with_reducible refine' bA (by walk_at"hlk") (by walk_at"hlk") ?z2 (λp2 n2=>?_)
     case z2=>have:=a8 (lo:=none) (hi:=some (c%(hv.length:Int))) h3;have:=a8 (lo:=some (c%(hv.length:Int)+1)) (hi:=none) h3;rw[aan,aab,aax];lia
     refine q2 p2 _ _ _ _ _ _ (by walk_at"same") U ?_;exact .inr ⟨rfl,.inr (.inr (.inl ⟨_,_,rfl,by walk_at"hlk"⟩))⟩
   . symm
     with_reducible refine' bA (by walk_at"hlk") (by walk_at"hlk") ?z (λp1 n1=>?_)
     case z=>have:=a8 (lo:=none) (hi:=some (c%(hv.length:Int))) h3;rw[aan];simp only[aaq,aaZ];lia
     symm
     with_reducible refine' bA (by walk_at"hlk") (by walk_at"hlk") ?z2 (λp2 n2=>?_)
     case z2=>have:=a8 (lo:=none) (hi:=some (c%(hv.length:Int))) h3;have:=a8 (lo:=some (c%(hv.length:Int)+1)) (hi:=none) h3;rw[aan,aab,aax];lia
     refine q2 p2 _ _ _ _ _ _ (by walk_at"same") U ?_;exact .inr ⟨rfl,.inr (.inr (.inr ⟨_,.bl true,_,rfl,by walk_at"hlk",rfl,.inl rfl,.inl rfl⟩))⟩
   . symm
     with_reducible refine' bA (by walk_at"hlk") (by walk_at"hlk") ?z (λp1 n1=>?_)
     case z=>have:=a8 (lo:=none) (hi:=some (c%(hv.length:Int))) h3;rw[aan];simp only[aaq,aaZ];lia
     symm
     with_reducible refine' bA (by walk_at"hlk") (by walk_at"hlk") ?z2 (λp2 n2=>?_)
     case z2=>have:=a8 (lo:=none) (hi:=some (c%(hv.length:Int))) h3;have:=a8 (lo:=some (c%(hv.length:Int)+1)) (hi:=none) h3;rw[aan,aab,aax];lia
     refine q2 p2 _ _ _ _ _ _ (by walk_at"same") U ?_;exact .inr ⟨rfl,.inl rfl⟩
   . symm;refine zw (av.of (by walk_at"hlk")) λp np=>?_;exact q p _ (by walk_at"same") (.inl ⟨_,U⟩)
   . symm
     with_reducible refine' bA (by walk_at"hlk") (by walk_at"hlk") ?z (λp1 n1=>?_)
     case z=>have:=a8 (lo:=none) (hi:=some (c%(hv.length:Int))) h3;rw[aan];simp only[aaq,aaZ];lia
     symm
     with_reducible refine' bA (by walk_at"hlk") (by walk_at"hlk") ?z2 (λp2 n2=>?_)
     case z2=>have:=a8 (lo:=none) (hi:=some (c%(hv.length:Int))) h3;have:=a8 (lo:=some (c%(hv.length:Int)+1)) (hi:=none) h3;rw[aan,aab,aax];lia
     refine q2 p2 _ _ _ _ _ _ (by walk_at"same") U ?_;exact .inr ⟨rfl,.inr (.inr (.inr ⟨_,.str "1",_,rfl,by walk_at"hlk",rfl,.inr ⟨_,rfl⟩,.inr rfl⟩))⟩
theorem qz (T:TX):FE 1 "_law_fits" (JK a):=by
 refine aR 0 T.AM qC ?_ ?_;walk_at"in"
 . obtain⟨tt, c, t, us, rfl, ht, hc, ⟨dt, l, d, ev, h1, h2, h3⟩, h0, RQ, q⟩ := h;walk_at"h";have nd:=qC.nd;refine' aF ?_ ?_;walk_at"f";exact(PW.pt (fY (dq (cJ (K:=K) rfl (aG (cf (K:=K) rfl) rfl T.aY aZ (aa (pv 0) (aa (dh (v:=.ty "tuple") rfl T.i8 i6 rfl) ao))))) (fY (cC (ou (K:=K) rfl hr.units) (aG (bK (K:=K) rfl) rfl T.dm du (aa (pv 0) ao)) aH (cb _)) (hW (dq (cJ (K:=K) rfl (aG (cf (K:=K) rfl) rfl T.aY aZ (aa (bt (b_ (K:=K) rfl) (pv 0) aH (λ_ _=>rfl)) (aa (dh (v:=.ty "list") rfl T.lL lC rfl) ao)))))))));walk_at"tB";exact aT;walk_at"m";exact(b9 (fA (gZ (jj (K:=K) rfl hr.units) (aG (bK (K:=K) rfl) rfl T.dm du (aa (aV (K:=K) rfl (bt (b_ (K:=K) rfl) (pv 0) aH (λ_ _=>rfl))) ao)) (aG (bK (K:=K) rfl) rfl T.dm du (aa (bt (b_ (K:=K) rfl) (pv 0) aH (λ_ _=>rfl)) ao)) (cb _)) (ib (Ae BV p8 aH (aG (bK (K:=K) rfl) rfl T.dm du (aa (bt (b_ (K:=K) rfl) (pv 0) aH (λ_ _=>rfl)) ao)) aH))));walk_at"s";symm;refine(?_:Q (V.bl (decide ((us.length:Int)<=2000))) H);rw[decide_eq_true (by lia)];exact q _ (ah.refl _)
theorem w9 (r:Rw):r.qZ.lookup ("goes" : Str)=none:=by
 cases r <;> (show abO _ (aj _ _ _)=none;walk_at"nolk")
theorem kl (r:Rw):r.qZ.lookup ("height" : Str)=none:=by
 cases r <;> (show abO _ (aj _ _ _)=none;walk_at"nolk")
theorem qR (T:TX)(hr:r.here):ME 1 (r.cls a) "goes" (gc a r):=by
 cases r
 . exact(An T _ _).mono (by decide)
 . exact(yT T _ _).mono (by decide)
 . exact hr.elim
 . exact hr.elim
 . exact hr.elim
 . exact hr.elim
 . exact(xZ T _).mono (by decide)
 . exact(vL T _).mono (by decide)
 . exact(AL T _ _).mono (by decide)
 . exact(AS T _ _).mono (by decide)
 . exact(Ac T _).mono (by decide)
 . exact hr.elim
 . exact hr.elim
 . exact(zu T _).mono (by decide)
 . exact hr.elim
theorem iy (T:TX)(hr:r.here):ME 1 (r.cls a) "height" (eg a r):=by
 cases r
 . exact(xm T _ _).mono (by decide)
 . exact(vg T _ _).mono (by decide)
 . exact hr.elim
 . exact hr.elim
 . exact hr.elim
 . exact hr.elim
 . exact(vx T _).mono (by decide)
 . exact(rF T _).mono (by decide)
 . exact(xG T _ _).mono (by decide)
 . exact(xK T _ _).mono (by decide)
 . exact(vB T _).mono (by decide)
 . exact hr.elim
 . exact hr.elim
 . exact(v8 T _).mono (by decide)
 . exact hr.elim
theorem lE (T:TX)(hr:r.here)(h:br a H p r):∃ t',bH K H (.ref p) t'/\aba K t' (.ref a.bL)=some r.isCall/\aba K t' (.ref a.ba)=some r.MZ:=by
 obtain⟨dx,e⟩:=h;cases r
 . exact⟨_,bH.ins e T.k7 T.tN.1 T.iG T.iL T.tN.2,T.km,T.qV⟩
 . exact⟨_,bH.ins e T.iX T.pI.1 T.iG T.iL T.pI.2,T.js,T.oF⟩
 . exact hr.elim
 . exact hr.elim
 . exact hr.elim
 . exact hr.elim
 . exact⟨_,bH.ins e T.iZ T.pX.1 T.iG T.iL T.pX.2,T.jx,T.nj⟩
 . exact⟨_,bH.ins e T.fV T.jP.1 T.iG T.iL T.jP.2,T.gK,T.kQ⟩
 . exact⟨_,bH.ins e T.kU T.uQ.1 T.iG T.iL T.uQ.2,T.j8,T.qI⟩
 . exact⟨_,bH.ins e T.lu T.uw.1 T.iG T.iL T.uw.2,T.ke,T.qD⟩
 . exact⟨_,bH.ins e T.gJ T.pQ.1 T.iG T.iL T.pQ.2,T.jv,T.oX⟩
 . exact hr.elim
 . exact hr.elim
 . exact⟨_,bH.ins e T.i7 T.pL.1 T.iG T.iL T.pL.2,T.jE,T.nv⟩
 . exact hr.elim
theorem FU (T:TX):FE 2 "filled" zl:=by
 refine aR 1 T.FG wO ?_ ?_;walk_at"in"
 . obtain⟨s, p, t, rfl, q⟩ := h;walk_at"h";have nd:=wO.nd;walk_at"v";symm;rw[iU];unfold gr at q;by_cases e:s &&& t=0
   . rw[if_pos e] at q;rw[e,show(((0:Nat):Int) != 0)=false from rfl];symm;exact q
   . rw[if_neg e] at q;rw[show(((s &&& t:Nat):Int) != 0)=true from by simp[e]];symm;refine(?_:Q (V.int _) _);rw[DY];exact q
theorem DR (T:TX):KE 2 "Set" a.cp (jH a.cp Rw.set):=by
 refine fz 1 T.OZ T.NT qT ?_ ?_;walk_at"in"
 . obtain⟨x, dx, i, j, rfl, ⟨⟨h1, h2⟩, ⟨h3, h4⟩⟩, hx, q⟩ := h;walk_at"h";have nd:=qT.nd;walk_at"v";symm;exact q _ sL U
theorem zQ (T:TX)(b n:Int):ME 2 a.cp "keeps" (e_ a (.set b n)):=by
 refine aK 1 T.k7 T.Am pq ?_ ?_;walk_at"in"
 . obtain⟨x, s, z, rfl, ⟨dx, hx⟩, hk, z0, z1, hs, q⟩ := h
   change H x=some (.ins a.cp dx (aj "number" (.int n) (aj "box" (.int b) []))) at hx
   obtain⟨⟨k1,k2⟩,⟨k3,k4⟩⟩:=hk;walk_at"h";have nd:=pq.nd;walk_at"v";symm;exact q
theorem Bs (T:TX):KE 2 "Copy" a.bP (jH a.bP Rw.copy):=by
 refine fz 1 T.Nl T.Lw oq ?_ ?_;walk_at"in"
 . obtain⟨x, dx, i, j, rfl, ⟨⟨h1, h2⟩, ⟨h3, h4⟩⟩, hx, q⟩ := h;walk_at"h";have nd:=oq.nd;walk_at"v";symm;exact q _ sL U
theorem Kh (T:TX):KE 2 "Grow" a.bV (n_ a.bV Rw.grow):=by
 refine fz 1 T.KW T.Mo oC ?_ ?_;walk_at"in"
 . obtain⟨x, dx, i, rfl, ⟨h1, h2⟩, hx, q⟩ := h;walk_at"h";have nd:=oC.nd;walk_at"v";symm;exact q _ tU U
theorem DF (T:TX):KE 2 "Shrink" a.be (n_ a.be Rw.shrink):=by
 refine fz 1 T.Hr T.GC kI ?_ ?_;walk_at"in"
 . obtain⟨x, dx, i, rfl, ⟨h1, h2⟩, hx, q⟩ := h;walk_at"h";have nd:=kI.nd;walk_at"v";symm;exact q _ tU U
theorem sY (T:TX)(m:Int):ME 2 a.be "keeps" (e_ a (.shrink m)):=by
 refine aK 1 T.fV T.vy jN ?_ ?_;walk_at"in"
 . obtain⟨x, s, z, rfl, ⟨dx, hx⟩, hk, z0, z1, hs, q⟩ := h
   change H x=some (.ins a.be dx (aj "many" (.int m) [])) at hx
   obtain⟨k1,k2⟩:=hk;have hh : ¬ z<m:=λe=>by rw[show Rw.aC (.shrink m) z=none from if_pos e] at hs;cases hs
   walk_at"h";have nd:=jN.nd;walk_at"v";symm;refine Bf (v7 (by lia) (by lia)) ?_;symm;rw[uT,show((2 ^ m.toNat:Nat):Int) - 1=((2 ^ m.toNat - 1:Nat):Int) from by have:=Nat.one_le_two_pow (n:=m.toNat);lia];refine Bf ⟨by lia,by lia,m.toNat,by lia,by rw[Int.natAbs_natCast];have:=Nat.one_le_two_pow (n:=m.toNat);lia⟩ ?_;rw[show((2 ^ m.toNat - 1:Nat):Int)*2 ^ (8+z - m).toNat=(((2 ^ m.toNat - 1)*2 ^ (8+z - m).toNat:Nat):Int) from by rw[Int.natCast_mul,Int.natCast_pow];rfl];symm;exact q
theorem DH (T:TX):KE 2 "Put" a.cq (jH a.cq Rw.put):=by
 refine fz 1 T.OO T.NU d0 ?_ ?_;walk_at"in"
 . obtain⟨x, dx, i, j, rfl, ⟨⟨h1, h2⟩, ⟨h3, h4⟩⟩, hx, q⟩ := h;walk_at"h";have nd:=d0.nd;walk_at"v";symm;exact q _ sL U
theorem EJ (T:TX):KE 2 "Get" a.cm (jH a.cm Rw.get):=by
 refine fz 1 T.OL T.O9 d0 ?_ ?_;walk_at"in"
 . obtain⟨x, dx, i, j, rfl, ⟨⟨h1, h2⟩, ⟨h3, h4⟩⟩, hx, q⟩ := h;walk_at"h";have nd:=d0.nd;walk_at"v";symm;exact q _ sL U
theorem qy (T:TX):FE 2 "is_up_to" Oc:=by
 refine aR 1 T.Au qJ ?_ ?_;walk_at"in"
 . obtain⟨v, t, rfl, ha, q⟩ := h;walk_at"h";have nd:=qJ.nd;walk_at"v";symm;refine⟨v,rfl,ha,?_⟩;cases v with
   | int i =>
     by_cases h0 : 0<=i
     . rw[show oU t (.int i) = decide (i <= t) from by show(decide (0 <= i) && decide (i <= t)) = _; rw[decide_eq_true h0, abi]] at q;rw[show Eb (.int i)=true from decide_eq_true h0];symm;exact q
     . rw[show oU t (.int i) = false from by show(decide (0 <= i) && decide (i <= t)) = _; rw[decide_eq_false h0, abj]] at q;rw[show Eb (.int i)=false from decide_eq_false h0];symm;exact q
   | bl b =>
     rw[show Eb (.bl b)=false from rfl];symm;exact q
   | str x =>
     rw[show Eb (.str x)=false from rfl];symm;exact q
   | _=>cases ha
theorem Kl (T:TX):KE 2 "Jump" a.aW (n_ a.aW Rw.ck):=by
 refine fz 1 T.DG T.Md nE ?_ ?_;walk_at"in"
 . obtain⟨x, dx, i, rfl, ⟨h1, h2⟩, hx, q⟩ := h;walk_at"h";have nd:=nE.nd;walk_at"v";symm;exact q _ tU U
theorem JT (T:TX):KE 2 "Back" a.ba (n_ a.ba Rw.back):=by
 refine fz 1 T.Eh T.Mw oG ?_ ?_;walk_at"in"
 . obtain⟨x, dx, i, rfl, ⟨h1, h2⟩, hx, q⟩ := h;walk_at"h";have nd:=oG.nd;walk_at"v";symm;exact q _ tU U
theorem nX (T:TX):FE 2 "has_wrong_place" (J6 K):=by
 refine aR 1 T.nP h_ ?_ ?_;walk_at"in"
 . obtain ⟨p, e, rfl, ⟨qe, h1, h2⟩, q⟩ := h;walk_at "h";have nd:=h_.nd;refine' aF ?_ ?_;walk_at "tS";walk_at "c";walk_at "c";walk_at "m";exact (b9 (aG (E6 (K:=K) rfl rfl) rfl T.OK NK (aa (bB (own:=["places"]) (fr:=[("beyond",2)]) rfl ⟨rfl,(by walk_at "clok"),(by walk_at "frok"),rfl,(by decide +kernel),(by decide +kernel),rfl⟩ (bj (K:=K) rfl (aQ (iV T) (hr.mono (by decide)) aX rfl (aa (pv 0) ao))) (λ_ _ _ _=>(aM (i:=0) (show aaN [("places" : Str),("beyond" : Str)] from by decide +kernel) rfl (Or.inl rfl))) (λ_ _ _ _=>bh) (λ_ _ _ _=>(IS (gZ p8 (pv 0) aH (cb _)) (ib (gZ (ou (K:=K) rfl hr.units) (dD E9 (pv 0) (pv 1)) aH (cb _)))))) ao)));walk_at "s";symm;refine fH (λhh=>?_) (λhh=>?_)
   . symm;rw[show cH e=true from by unfold cH;rw[decide_eq_true hh];rfl] at q;exact q _ (ah.refl _)
   symm;refine fH (λVT=>?_) (λVT=>?_)
   . symm;rw[show cH e=true from by unfold cH;rw[decide_eq_true VT,Bool.true_or,Bool.or_true]] at q;exact q _ (ah.refl _)
   symm;refine⟨p,e,rfl,⟨qe,h1,h2⟩,λt ht=>?_⟩;symm;refine Fv (emb:=V.int) (λs=>.bl (de e.h s)) (λZ=>∃ v,Z = [v,some (.int (8+e.h))]) (az.of U) (by show 4<=aar;decide) ⟨_,rfl⟩ ?_ ?_
   . rintro i x ys Z H1 hx cc ss ⟨v,rfl⟩;symm;refine fH (λh3=>?_) (λh3=>?_)
     . symm;exact cc.next hx (by unfold de;rw[decide_eq_true h3];rfl) (by walk_at"same") ⟨_,rfl⟩
     . symm;exact cc.next hx (by unfold de;rw[decide_eq_false h3,abC];congr 2;rw[decide_eq_decide];exact⟨λz=>by injection z,λz=>by rw[z]⟩) (by walk_at"same") ⟨_,rfl⟩
   intro H3 s3;symm;rename_i l nl;refine MH (bs:=e.cN.map (de e.h)) (by rw[abv];exact av.of U) ?_;rw[show(e.cN.map (de e.h)).any id=cH e from by
     unfold cH;rw[decide_eq_false hh,decide_eq_false VT,abC,abC,List.any_map];rfl]
   exact q _ (by walk_at"same")
theorem vY (T:TX):FE 2 "may_go_back" (Mg K a):=by
 refine aR 1 T.vI kR ?_ ?_;walk_at"in"
 . obtain⟨x, p, b, e, rfl, ⟨dx, hx⟩, b0, b7, ⟨qe, h1, h2⟩, q⟩ := h
   change H x=some (.ins a.ba dx (aj "box" (.int b) [])) at hx
   walk_at"h";have nd:=kR.nd;refine' aF ?_ ?_;walk_at"tS";walk_at"m";exact(b9 (aG (Cr (K:=K) rfl rfl) rfl T.pD pV (aa (bB (own:=["box","places"]) (fr:=[]) rfl ⟨rfl,(by walk_at"clok"),(by walk_at"frok"),rfl,(by decide +kernel),(by decide +kernel),rfl⟩ (nR (K:=K) rfl rfl T.mr (aa (bI (v:=.ref a.cu) rfl T.eU rfl) (aa (bt (b_ (K:=K) rfl) (pv 1) aH (λ_ _=>rfl)) ao))) (λ_ _ _ _=>(fb (K:=K) (n:=2) rfl rfl (bR (aM (i:=0) (show aaN [("box" : Str),("places" : Str)] from by decide +kernel) rfl (Or.inl rfl)) (bR (aM (i:=1) (show aaN [("box" : Str),("places" : Str)] from by decide +kernel) rfl (Or.inl rfl)) eZ)))) (λ_ _ _ _=>bh) (λ_ _ _ _=>(dD Ed (pv 1) (aQ (oK T) (hr.mono (by decide)) aX rfl (aa (pv 0) ao))))) ao)));walk_at"s";symm;refine jw (λhh=>?_) (λhh=>?_)
   . symm;rw[show jF b e=false from by unfold jF;rw[decide_eq_false hh];rfl] at q;exact q _ (ah.refl _)
   symm;unfold jF at q;rw[decide_eq_true hh,abi] at q;cases hb:(aaP e.b ((2 ^ b.toNat:Nat):Int) != 0) with
   | false =>
     rw[hb] at q;symm;exact q _ (ah.refl _)
   | true =>
     rw[hb,abi] at q;symm;refine⟨a.cu,qe,_,_,rfl,T.dI _,h2,?_⟩;refine oa (xs:=[((4:Int),e.v4),(5,e.v5),(6,e.v6)]) (e1:=λq=>.int q.1) (e2:=λq=>.int q.2) (λq=>.int (aaP q.2 ((2 ^ q.1.toNat:Nat):Int))) (λZ=>∃ u v,Z = [u,v]) (T.dI _) h2 (by show 3<=aar;decide) ⟨_,_,rfl⟩ ?_ ?_
     . rintro i z ys Z H1 T' hz cc ss ⟨u,v,rfl⟩ nT;have hzz : 0<=z.1/\z.1<=7:=by
         match i,hz with
         | 0,hz=>cases hz;exact⟨by show(0:Int)<=4;decide,by show(4:Int)<=7;decide⟩
         | 1,hz=>cases hz;exact⟨by show(0:Int)<=5;decide,by show(5:Int)<=7;decide⟩
         | 2,hz=>cases hz;exact⟨by show(0:Int)<=6;decide,by show(6:Int)<=7;decide⟩
         | i+3,hz=>simp at hz
       obtain⟨z0,z7⟩:=hzz;symm;exact cc.next hz rfl (by walk_at"same") ⟨_,_,rfl⟩
     intro H3 s3;symm;rename_i l nl;refine Nb (ns:=[aaP e.v4 16,aaP e.v5 32,aaP e.v6 64]) (av.of U) ?_;simp only[abB,List.all_nil,adB];exact q _ (by walk_at"same")
theorem nh (T:TX):FE 2 "target_complaint" (MO K a):=by
 refine aR 1 T.ni gA ?_ ?_;walk_at"in"
 . obtain⟨x, l, t, ev, es, rfl, ⟨dx, hx⟩, hl, Sa, q⟩ := h
   change H x=some (.ins a.bL dx (aj "target" (.int t) [])) at hx
   walk_at"h";have nd:=gA.nd;walk_at"v";symm;refine⟨t,l,ev,rfl,av.of hl,?_⟩;rw[Sa.1];by_cases hh : 0<=t/\t<(es.length:Int)
   . rw[decide_eq_true hh];obtain⟨v,oe,RW,SH,TQ,hv⟩:=Sa.at hh.1 hh.2;obtain⟨qs,t1,t2⟩:=T.lB;symm;refine Oy oe jZ hv.dp (y8 (t1 _) (t2 _)) ?_;have q:∀ H',ah H H'->Q (oV (if jz oe jZ=true then none else some .start)) H':=λH' s=>by
       have:=q H' s
       unfold dW at this;rw[if_pos hh,SH] at this;exact this
     cases hb:jz oe jZ with
     | true =>
       rw[hb] at q;symm;exact q _ (ah.refl _)
     | false =>
       rw[hb] at q;symm;exact q _ (ah.refl _)
   . rw[decide_eq_false hh];symm
     have:=q H (ah.refl _)
     unfold dW at this;rw[if_neg hh] at this;exact this
theorem Ck (T:TX):FE 2 "ways_on" (G5 K a):=by
 refine aR 1 T.Dm uf ?_ ?_;walk_at"in"
 . obtain ⟨c, d, i, fI, rs, ls, rfl, hc, Sb, au, hd, S_, hi, q⟩ := h;have RM:=Sb.1;have Ul:rs[i]? = some rs[i]:=aac hi;have hpi:fI[i]? = some fI[i]:=aac (by rw [RM];exact hi);have R3:=Sb.2 i _ _ hpi Ul;have W9:=au _ (abu hi);have hw:cj rs ls i=(rs[i]).cP i++(if (rs[i]).isCall=true/\(i:Int)∈ls.map (·.1) then [lv ls i] else []):=by unfold cj;rw [Ul]
   generalize rs[i]=r at Ul R3 W9 hw;generalize fI[i]=p0 at hpi R3;have RW:cI (fI.map V.ref) (i:Int)=some (.ref p0):=cA (by rw[aae,hpi];rfl);obtain⟨dx,TC⟩:=id R3;walk_at"h";have nd:=uf.nd;refine' aF ?_ ?_;walk_at"tS";walk_at"n";walk_at"f";exact(PW.pt (yo (cJ (K:=K) rfl (aG (cf (K:=K) rfl) rfl T.aY aZ (aa (bt (b_ (K:=K) rfl) (pv 0) (pv 2) (λ_ _=>rfl)) (aa (bI (v:=.ref a.bL) rfl T.E7 rfl) ao)))) (Bq (tH (Ei (eL hr) (pv 2) (pv 1))))));walk_at"m";exact(cL (ei (K:=K) rfl aaM PySem.F.slot_list_append PySem.F.type_list_append wX (pv 3) (aa (iW (eL hr) (pv 1) (pv 2) (λ_ _=>rfl)) ao)));exact aT;walk_at"m";walk_at"tS";walk_at"s";ac_rfl;refine aN TC (w9 _) ((qR T W9.2).mono (by decide)) ?_;ac_rfl;refine⟨p0,i,rfl,R3,λl nl=>?_⟩;ac_rfl;obtain⟨t',ht1,Uk,_⟩:=lE T W9.2 (R3.same (ag (o:=.lst ((r.cP i).map V.int)) nl));refine eY (λz=>nomatch z) ht1 Uk ?_;have hgl:=Hk r i;cases hcl:r.isCall with
   | false =>
     rw[hcl,if_neg (by intro z;cases z.1),aaJ] at hw;ac_rfl;exact q l _ (ag nl) nl (by rw[hw];exact U)
   | true =>
     ac_rfl;refine B0 ?_;refine IP ?_;ac_rfl;refine uM (kvs:=aD ls) (ak hd nl) ?_;by_cases hm:(i:Int)∈ls.map (·.1)
     . obtain⟨kv, Uu, hke⟩ := List.mem_map.mp hm;obtain⟨VL,hv2⟩:=rY S_ kv Uu;rw[hke] at VL hv2;rw[<- hv2] at VL;rw[VL];rw[hcl,if_pos ⟨rfl,hm⟩] at hw;refine⟨true,rfl,?_⟩;rw[if_pos rfl];ac_rfl;refine kB ?_;ac_rfl;refine⟨d,_,rfl,VL ▸ c8.k (k:=.inl (i:Int)) (ak hd nl),?_⟩;ac_rfl;refine q l _ (λb o e=>by rw[af (ae e nl),af (ae e nl)];exact e) nl ?_;rw[U,hw,aal];rfl
     . rw[nz hm];rw[if_neg (λz=>hm z.2),aaJ] at hw;refine⟨false,rfl,?_⟩;rw[if_neg aaw];ac_rfl;exact q l _ (ag nl) nl (by rw[hw];exact U)
theorem xa (T:TX):iI P w K mg base (cS P w) 2 "heights_of" (NN K a):=by
 refine sm 1 T.xH ez ?_ ?_;walk_at"in"
 . obtain ⟨c, ly, fI, rs, ls, rfl, hc, Sb, au, h0, RQ, SN, VH, qe, q⟩ := h;have RM:=Sb.1;walk_at "h";have nd:=ez.nd;refine' aF ?_ ?_;walk_at "x";exact (gU (i:=2) ez.nd rfl rfl (own:=["row"]) (fr:=[]) rfl ⟨rfl,(by walk_at "clok"),(by walk_at "frok"),rfl,(by decide +kernel),(by decide +kernel),rfl⟩ (bj (K:=K) rfl (pv 0)) (λ_ _ _ _=>(aM (i:=0) (show aaN [("row" : Str)] from by decide +kernel) rfl (Or.inl rfl))) (λ_ _ _ _=>bh) (λ_ _ _ _=>eT));walk_at "n";walk_at "x";walk_at "tS";walk_at "n";exact (cL (aQ (rH T) (hr.mono (by decide)) fP rfl (aa (pv 2) (aa (pv 3) (aa aH (aa (bt (b_ (K:=K) rfl) (bI (v:=.ref a.iY) rfl T.kz rfl) aH (λ_ _=>rfl)) ao))))));walk_at "n"
   (with_reducible refine' ma ?_ ?_ ?_)
   exact PassesOwn.leaving;walk_at"y";walk_at"tT";walk_at"n";walk_at"x";exact(c9 (i:=4) ez.nd rfl (Or.inl rfl) (Bd (K:=K) rfl aaM PySem.F.slot_list_pop PySem.F.type_list_pop DU (pv 3)));walk_at"n";walk_at"x";walk_at"tS";walk_at"n";walk_at"f";walk_at"y";walk_at"tT";walk_at"m";exact(gR T.jY rfl (aa (vH (pv 4)) ao));exact aT;walk_at"n";exact(uG PassesOwn.leaving rfl (bj (K:=K) rfl (bt (b_ (K:=K) rfl) (pv 1) (pv 4) (λ_ _=>rfl))) (aM (i:=6) ez.nd rfl (Or.inl rfl)) (cv (cL (aQ (rH T) (hr.mono (by decide)) fP rfl (aa (pv 2) (aa (pv 3) (aa (pv 6) (aa (pv 5) ao))))))));walk_at"m";walk_at"f";walk_at"y";walk_at"tT";walk_at"m";exact(cL (aQ (rH T) (hr.mono (by decide)) fP rfl (aa (pv 2) (aa (pv 3) (aa (aV (K:=K) rfl (bt (b_ (K:=K) rfl) (pv 0) (pv 4) (λ_ _=>rfl))) (aa (bt (b_ (K:=K) rfl) (bI (v:=.ref a.iY) rfl T.kz rfl) aH (λ_ _=>rfl)) ao))))));exact aT;walk_at"m";walk_at"x";walk_at"tS";walk_at"s";ac_rfl;refine bz (K:=K) (a:=c) (xs:=fI.map V.ref) (λi ys Z H1=>(∃ v,Z = [v])/\ah H H1/\ys=(aaL i (none:Option Int)).map aO) ⟨⟨_,rfl⟩,ah.refl _,rfl⟩ (λi ys Z H1 hi ⟨_,s1,e⟩=>⟨av.of (s1 _ _ hc),by rw[e,aaa,aao,aan];rw[aaa] at hi;lia⟩) ?_ ?_
   . rintro i v ys Z H1 hv ⟨⟨u,rfl⟩,s1,rfl⟩;ac_rfl;exact⟨⟨_,rfl⟩,s1,by rw[List.replicate_succ',aal];rfl⟩
   rintro ys Z H1 ⟨_,s1,rfl⟩ lh T3;rw[aaa,RM];obtain⟨Wj,RU,_⟩:=T.lB;ac_rfl;rename_i lw SR;refine CV (RU _) (v:=.int 0) rfl ?_;ac_rfl;have nhw:lh≠lw:=λz=>by rw[<- z,U] at SR;cases SR
   have Vr:H lh=none:=aB s1 T3;have Tc:H lw=none:=aB s1 (gL SR).1;have SD:(aaL rs.length (none:Option Int))[0]? = some none:=by rw[abe,if_pos h0]
   refine⟨lh,lw,0,0,aaL rs.length none,[],rfl,ak U SR,U,by rw[aao];exact RQ,by decide,by decide,by decide,nhw,λhb=>?PV,λ_ e0=>?P_,λ_ _=>?RG⟩
   case PV =>
     exfalso
     rcases hb with hb | hb | ⟨h2,e2,_⟩
     . lia
     . rw[aao] at hb;lia
     . rw[show((0:Int).toNat)=0 from rfl,SD] at e2;cases e2
   case P_=>rw[show((0:Int).toNat)=0 from rfl,SD] at e0;cases e0
   have I0:HI rs ls ((aaL rs.length (none:Option Int)).set 0 (some 0)) ([]++[0]) none:=by
     refine HI.new (n:=0) ⟨aao,λi h hi=>?_,(λk hk=>by cases hk),λi _ _ h r hi=>?_,by rw[Mq,aao];exact acu (abT _)⟩ SD RH.start
     . rw[abe] at hi;split at hi <;> cases hi
     . rw[abe] at hi;split at hi <;> cases hi
   have W4:((aaL rs.length (none:Option Int)).set 0 (some 0))[0]? = some (some 0):=aaS (by rw[aao];exact h0);rw[show((0:Int).toNat)=0 from rfl];generalize (aaL rs.length (none:Option Int)).set 0 (some 0)=VM at I0 W4 ⊢;have sB:ah H (upd (upd (upd (upd H1 lh (.lst ((aaL rs.length (none:Option Int)).map aO))) lw (.lst [])) lh (.lst (VM.map aO))) lw (.lst (([]++[0]:List Nat).map nV))):=λb o e=>by
     rw[af (ae e Tc),af (ae e Vr),af (ae e Tc),af (ae e Vr)];exact s1 _ _ e
   have hlhB:(upd (upd (upd (upd H1 lh (.lst ((aaL rs.length (none:Option Int)).map aO))) lw (.lst [])) lh (.lst (VM.map aO))) lw (.lst (([]++[0]:List Nat).map nV))) lh=some (.lst (VM.map aO)):=by rw[af nhw];exact U
   have hlwB:(upd (upd (upd (upd H1 lh (.lst ((aaL rs.length (none:Option Int)).map aO))) lw (.lst [])) lh (.lst (VM.map aO))) lw (.lst (([]++[0]:List Nat).map nV))) lw=some (.lst (([]++[0]:List Nat).map nV)):=U;generalize (upd (upd (upd (upd H1 lh (.lst ((aaL rs.length (none:Option Int)).map aO))) lw (.lst [])) lh (.lst (VM.map aO))) lw (.lst (([]++[0]:List Nat).map nV)))=HB at sB hlhB hlwB ⊢;clear s1 T3 SR SD;ac_rfl;refine⟨λj Z HQ=>∃ (SU:List (Option Int)) (ws2:List Nat) (u v x:Option V),ah H HQ/\Z = [some (.ref c),some (.ref ly),some (.ref lh),some (.ref lw),u,v,x]/\HQ lh=some (.lst (SU.map aO))/\HQ lw=some (.lst (ws2.map nV))/\HI rs ls SU ws2 none/\SU[0]? = some (some 0)/\j=ws2.length+2*nN SU,⟨_,VM,[]++[0],_,_,_,sB,rfl,hlhB,hlwB,I0,W4,rfl⟩,?_⟩;clear sB hlhB hlwB I0 W4;rintro j Z HQ ⟨SU,ws2,u1,u2,u3,s2,rfl,hlh2,Vw,I2,hz2,rfl⟩;have hf2:=I2.wK;have Sk:=I2.len;ac_rfl;refine dH (av.of Vw) ?_;rw[aaa];rcases List.eq_nil_or_concat ws2 with rfl | ⟨ws3,k,rfl⟩
   . ac_rfl;refine q lh SU HQ s2 Vr hlh2 ⟨Sk,I2.rh,hz2,λi h r e1 e2=>(I2.cl i (by simp) (by simp) h r e1 e2).1,λi h t e1 e2=>(I2.cl i (by simp) (by simp) h (.call t) e1 e2).2 t rfl⟩
   . rw [List.concat_eq_append] at Vw I2 hf2 ⊢;have hwl:(ws3++[k]).length=ws3.length+1:=by rw [aab];rfl
     rw[hwl] at hf2 ⊢;ac_rfl;refine⟨_,λZ' H' h=>h,?_⟩;ac_rfl;refine IB (xs:=ws3.map nV) (y:=.int (k:Int)) (by rw[Vw,aal];rfl) ?_;obtain⟨h,hk⟩:=I2.IH k (aaz _ (List.mem_singleton.mpr rfl));have U9:k<rs.length:=by rw[<- Sk];exact(List.getElem?_eq_some_iff.mp hk).1
     have Tx:rs[k]? = some rs[k]:=aac U9;have WE:fI[k]? = some fI[k]:=aac (by rw[RM];exact U9);have R3:=Sb.2 k _ _ WE Tx;have SE:=au _ (abu U9);generalize rs[k]=r at Tx R3 SE;generalize fI[k]=p0 at WE R3;have W6:=I2.rh k h hk;have I3:HI rs ls SU ws3 (some k):=⟨Sk,I2.rh,λm hm=>I2.IH m (aa5 _ hm),λi hi hx=>I2.cl i (λhm=>by
         rcases List.mem_append.mp hm with hm | hm
         . exact hi hm
         . exact hx (by rw[List.mem_singleton.mp hm])) (by simp),by lia⟩
     have s3:ah H (upd HQ lw (.lst (ws3.map nV))):=λb o e=>by rw[af (ae e Tc)];exact s2 _ _ e
     have hlh3:(upd HQ lw (.lst (ws3.map nV))) lh=some (.lst (SU.map aO)):=by rw[af nhw];exact hlh2
     have hlw3:(upd HQ lw (.lst (ws3.map nV))) lw=some (.lst (ws3.map nV)):=U;generalize (upd HQ lw (.lst (ws3.map nV)))=HC at s3 hlh3 hlw3 ⊢;clear s2 hlh2 Vw I2;have RW:cI (fI.map V.ref) (k:Int)=some (.ref p0):=cA (by rw[aae,WE];rfl);have hat2:cI (SU.map aO) (k:Int)=some (.int h):=cA (by rw[aae,hk];rfl);have hc3:=s3 _ _ hc;have UT:=R3.same s3;obtain⟨dx,TC⟩:=id UT;obtain⟨Sh,W2,W1,W0⟩:=id VH;have hwl1:=s3 _ _ W2;have WB:Sh[k]? = some Sh[k]:=aac (by rw[W1];exact U9);have Su:=W0 k _ WB;generalize Sh[k]=pw at WB Su;have hway:=s3 _ _ Su;have hat3:cI (Sh.map V.ref) (k:Int)=some (.ref pw):=cA (by rw[aae,WB];rfl);have hwb:=Ci (i:=k) au SN RQ;ac_rfl;refine aN TC (kl _) ((iy T SE.2).mono (by decide)) ?_;ac_rfl;refine⟨p0,h,rfl,UT,?_⟩;cases hh:r.aC h with
     | none =>
       show cU 5 V.ax _ _ _;ac_rfl;refine fU ?_;ac_rfl;refine tY ?_;ac_rfl;exact⟨lM (by lia) (by lia),by show 1<=1000;decide,qe ⟨k,h,W6,.inr (.inr (.inl ⟨r,by rw[aaA];exact Tx,hh⟩))⟩ _ s3⟩
     | some h' =>
       show cU 5 (V.int h') _ _ _;ac_rfl
       have Sw : ∀ {SS : List (Option Int)} {TV : List Nat} {HD : Hp} {n x : Int} {R : Hp -> Prop}, HI rs ls SS TV (some k) -> ah H HD -> HD lh = some (.lst (SS.map aO)) -> HD lw = some (.lst (TV.map nV)) -> RH rs ls n x -> -10000 <= n -> n <= 10000 ->
           (∀ Vk Wc HE,HI rs ls Vk Wc (some k)->ah H HE->HE lh=some (.lst (Vk.map aO))->HE lw=some (.lst (Wc.map nV))->(∀ (i:Nat) (y:Int),SS[i]? = some (some y)->Vk[i]? = some (some y))->0<=n->Vk[n.toNat]? = some (some x)->Wc.length+2*nN Vk<=TV.length+2*nN SS->R HE) ->
           BP a [.ref lh,.ref lw,.int n,.int x] HD (λ_ HE=>R HE) E:=by
         intro SS TV HD n x R I4 s4 Sf TR rh b1 b2 qq;refine⟨lh,lw,n,x,SS,TV,rfl,Sf,TR,by rw[I4.len];exact RQ,by have:=I4.wK;have:=I4.len;lia,b1,b2,nhw,λhb=>qe (I4.reach rh hb) _ s4,λWk e0=>qq SS TV HD I4 s4 Sf TR (λ_ _ e=>e) Wk e0 (aai _),λWk e0=>?_⟩;have hn:=(List.getElem?_eq_some_iff.mp e0).1;have hI5:=I4.new e0 (show RH rs ls ((n.toNat:Nat):Int) x by rw[show((n.toNat:Nat):Int)=n by lia];exact rh);have hcnt:=zo (x:=x) e0;refine qq (SS.set n.toNat (some x)) (TV++[n.toNat]) _ hI5 (λb o e=>by rw[af (ae e Tc),af (ae e Vr)];exact s4 _ _ e) (by rw[af nhw];exact U) U (λi y e=>gq e0 e) Wk (aaS hn) ?_;rw[aab];show _+1+_<=_;lia
       refine eS (K:=K) (a:=pw) (xs:=(cj rs ls k).map V.int) (λi Z HD=>∃ (SS:List (Option Int)) (TV:List Nat) (x:Option V),ah H HD/\Z = [some (.ref c),some (.ref ly),some (.ref lh),some (.ref lw),some (.int (k:Int)),some (.int h'),x]/\HD lh=some (.lst (SS.map aO))/\HD lw=some (.lst (TV.map nV))/\HI rs ls SS TV (some k)/\SS[0]? = some (some 0)/\SS[k]? = some (some h)/\(∀ w∈(cj rs ls k).take i,0<=w/\SS[w.toNat]? = some (some h'))/\TV.length+2*nN SS<=ws3.length+2*nN SU) ⟨SU,ws3,_,s3,rfl,hlh3,hlw3,I3,hz2,hk,(λw hw=>by rw[acS] at hw;cases hw),aai _⟩ (λi Z HD _ ⟨_,_,_,s4,_⟩=>av.of (s4 _ _ Su)) ?_ ?_
       . rintro i v Z HD hv ⟨SS,TV,x,s4,rfl,Sf,TR,I4,Wy,hk4,hcl4,hm4⟩;obtain⟨w,hx,rfl⟩:∃ w,(cj rs ls k)[i]? = some w/\v=.int w:=by
           rw[aae] at hv;obtain⟨p,hp,e⟩:=Option.map_eq_some_iff.mp hv;exact⟨p,hp,e.symm⟩
         have hwm:=aad hx;ac_rfl;refine Sw I4 s4 Sf TR (RH.way W6 Tx hh hwm) (hwb w hwm).1 (hwb w hwm).2 λVk Wc HE I5 s5 hlh5 hlw5 mono Wk e5 Ta=>?_;refine⟨Vk,Wc,_,s5,rfl,hlh5,hlw5,I5,mono 0 0 Wy,mono k h hk4,λw' hw'=>?_,by lia⟩;rw[aaI,hx,aaE] at hw';rcases List.mem_append.mp hw' with hw' | hw'
         . exact⟨(hcl4 w' hw').1,mono _ _ (hcl4 w' hw').2⟩
         . rw[List.mem_singleton.mp hw'];exact⟨Wk,e5⟩
       . rintro Z HD ⟨SS,TV,x,s4,rfl,Sf,TR,I4,Wy,hk4,hcl4,hm4⟩;rw[aaa,aaG] at hcl4;have hcD:=s4 _ _ hc;have V6:=R3.same s4;clear hlh3 hlw3 hc3 UT TC hway hwl1 s3 I3;obtain⟨t',ty1,ty2,_⟩:=lE T SE.2 V6;ac_rfl;refine eY (λz=>nomatch z) ty1 ty2 ?_;cases hcall:r.isCall with
         | false =>
           ac_rfl;refine⟨_,?_,SS,TV,_,_,_,s4,rfl,Sf,TR,I4.close λh1 r1 e1 e2=>?_,Wy,rfl⟩
           . lia
           . rw[hk4] at e1;cases e1;rw[Tx] at e2;cases e2;exact⟨⟨h',hh,hcl4⟩,λt ht=>by rw[ht] at hcall;cases hcall⟩
         | true =>
           obtain⟨t,rfl⟩:∃ t,r=.call t:=by
             cases r <;> first | exact⟨_,rfl⟩ | (cases hcall)
           obtain⟨dxD,UQ⟩:=V6;have UQ:HD p0=some (.ins a.bL dxD (aj "target" (.int t) [])):=UQ;have htb : 0<=t/\t<=2000:=SE.1;ac_rfl;refine CV (RU _) (v:=.int 0) rfl ?_;ac_rfl;refine Sw I4 s4 Sf TR (RH.call W6 Tx) (by lia) (by lia) λVk Wc HE I5 s5 hlh5 hlw5 mono Wk e5 Ta=>?_;refine⟨_,?_,Vk,Wc,_,_,_,s5,rfl,hlh5,hlw5,I5.close λh1 r1 e1 e2=>?_,mono 0 0 Wy,rfl⟩
           . lia
           . rw[mono k h hk4] at e1;cases e1;rw[Tx] at e2;cases e2;exact⟨⟨h',hh,λw hw=>⟨(hcl4 w hw).1,mono _ _ (hcl4 w hw).2⟩⟩,λt2 Uk=>by cases Uk;exact⟨Wk,e5⟩⟩
theorem AF (T:TX):FE 2 "moves_of" K0:=by
 refine aR 1 T.AQ qu ?_ ?_;walk_at"in"
 . obtain⟨l, ss, rfl, ⟨ps, hl, hs⟩, au, q⟩ := h;walk_at"h";have nd:=qu.nd;walk_at"v";symm;rename_i m nm;refine⟨m,l,ps,ss,rfl,U,ak hl nm,(ae hl nm).symm,hs.to (λ_ _ z=>ak z nm),au,λqs H1 k1 U8 Tn=>?_⟩;have s1:ah H H1:=λb o e=>k1 b o (ak e nm) (ae e nm);have hql:=Tn.1;have h80:=au.2;clear k1;symm;rename_i t1 U1 t2 Wo;refine q m _ (λb o e=>by rw[af (ae e nm)];exact(s1.trans ((ag U1).trans (ag Wo))) b o e) nm ⟨qs++[t2],by rw[U,aal];rfl,?_⟩;exact((Tn.to (gT.to λ_ _ z=>ak (ak z U1) Wo)).snoc ⟨t1,U,ak U Wo⟩).to (gT.to (A_ (ak (ak U8 U1) Wo)))
theorem gD (T:TX):ME 2 a.ay "end_label" (Ni a):=by
 refine aK 1 T.eP T.oz gy ?_ ?_;walk_at"in"
 . obtain ⟨m, f, E, D, rs, pl, rfl, S, hf, q⟩ := h;have hm:=S.hm;have f1:=S.B.F.zU;have hb:=S.st _ _ S.B.hb;obtain ⟨b,Vc⟩:∃ b,E.bs[f]? = some b:=⟨_,aac (by rw [S.B.bs.1];exact hf)⟩
   have RW:=i3 Vc;obtain⟨qs,hq,aq⟩:=S.B.bs.2 b (aad Vc);have hq:=S.st _ _ hq;have ql:qs.length=3:=aq.1;walk_at"h";have nd:=gy.nd;walk_at"v";symm
   with_reducible refine aN hm (S.B.F.no "label" (by decide +kernel)) ((eM T).mono (by decide)) ?_
   symm;rw[aaa,ql];refine⟨m,f,3,E,D,rs,pl,rfl,S,hf,?_⟩;rw[show 5*(f:Int)+1+((3:Nat):Int)=5*(f:Int)+4 from by lia];exact q
theorem xw (T:TX)(b o:Int):ME 3 a.bP "keeps" (e_ a (.copy b o)):=by
 refine aK 2 T.iX T.Aa mZ ?_ ?_;walk_at"in"
 . obtain⟨x, s, z, rfl, ⟨dx, hx⟩, hk, z0, z1, hs, q⟩ := h
   change H x=some (.ins a.bP dx (aj "one" (.int o) (aj "box" (.int b) []))) at hx
   obtain⟨⟨k1,k2⟩,⟨k3,k4⟩⟩:=hk;walk_at"h";have nd:=mZ.nd;walk_at"v";symm;exact q
theorem za (T:TX)(b c:Int):ME 3 a.cq "keeps" (e_ a (.put b c)):=by
 refine aK 2 T.kU T.Av oH ?_ ?_;walk_at"in"
 . obtain⟨x, s, z, rfl, ⟨dx, hx⟩, hk, z0, z1, hs, q⟩ := h
   change H x=some (.ins a.cq dx (aj "cell" (.int c) (aj "box" (.int b) []))) at hx
   obtain⟨⟨k1,k2⟩,⟨k3,k4⟩⟩:=hk;have hh : ¬ z<=c:=λe=>by rw[show Rw.aC (.put b c) z=none from if_pos e] at hs;cases hs
   walk_at"h";have nd:=oH.nd;walk_at"v";symm;exact q
theorem zx (T:TX)(b c:Int):ME 3 a.cm "keeps" (e_ a (.get b c)):=by
 refine aK 2 T.lu T.AG o_ ?_ ?_;walk_at"in"
 . obtain⟨x, s, z, rfl, ⟨dx, hx⟩, hk, z0, z1, hs, q⟩ := h
   change H x=some (.ins a.cm dx (aj "cell" (.int c) (aj "box" (.int b) []))) at hx
   obtain⟨⟨k1,k2⟩,⟨k3,k4⟩⟩:=hk;have hh : ¬ z<=c:=λe=>by rw[show Rw.aC (.get b c) z=none from if_pos e] at hs;cases hs
   walk_at"h";have nd:=o_.nd;walk_at"v";symm;exact q
theorem ue (T:TX):FE 3 "is_name" OI:=by
 refine aR 2 T.Dx tX ?_ ?_;walk_at"in"
 . obtain⟨v, rfl, ha, q⟩ := h;walk_at"h";have nd:=tX.nd;walk_at"v";symm;refine⟨v,5,rfl,ha,?_⟩;symm;exact q
theorem vc (T:TX):FE 3 "is_function" N4:=by
 refine aR 2 T.vw kM ?_ ?_;walk_at"in"
 . obtain⟨f', l, n, us, rfl, hf, h0, h3, hl, q⟩ := h;walk_at"h";have nd:=kM.nd;refine' aF ?_ ?_;walk_at"f";exact(PW.pt (fY (dq (cJ (K:=K) rfl (aG (cf (K:=K) rfl) rfl T.aY aZ (aa (pv 0) (aa (dh (v:=.ty "tuple") rfl T.i8 i6 rfl) ao))))) (hW (cC (ou (K:=K) rfl hr.units) (aG (bK (K:=K) rfl) rfl T.dm du (aa (pv 0) ao)) aH (cb _)))));walk_at"tB";exact aT;walk_at"m";exact(b9 (fA (aQ (qy T) (hr.mono (by decide)) aX rfl (aa (bt (b_ (K:=K) rfl) (pv 0) aH (λ_ _=>rfl)) (aa (bI (v:=.int 3) rfl T.yn.choose_spec ⟨_,rfl⟩) ao))) (ib (aG (cf (K:=K) rfl) rfl T.aY aZ (aa (bt (b_ (K:=K) rfl) (pv 0) aH (λ_ _=>rfl)) (aa (dh (v:=.ty "list") rfl T.lL lC rfl) ao))))));walk_at"s";symm;refine⟨.int n,_,rfl,rfl,?_⟩;rw[show oU 3 (.int n)=true from by show(decide (0<=n) && decide (n<=3))=_;rw[decide_eq_true h0,decide_eq_true h3];rfl];symm;exact q
theorem rp (T:TX):FE 3 "own_complaint" (Mb K a):=by
 refine aR 2 T.rm jK ?_ ?_;walk_at"in"
 . obtain⟨x, p, r, e, rfl, ⟨dx, hx⟩, ok, hh, he, q⟩ := h;obtain⟨qe,h1,h2⟩:=id he;walk_at"h";have nd:=jK.nd;walk_at"v";symm;refine⟨p,e,rfl,he,λH1 s1=>?_⟩;have Sj:=s1 _ _ hx;have h11:=bf s1 h1;have he1:=he.same s1;unfold cX at q;cases hw:cH e with
   | true =>
     rw[hw,if_pos rfl] at q;symm;exact q _ s1
   | false =>
     rw[hw,if_neg (by decide)] at q;symm;refine aN Sj (kl _) ((iy T hh).mono (by decide)) ?_;symm;refine⟨x,e.h,rfl,⟨dx,Sj⟩,?_⟩;symm;cases hg:r.aC e.h with
     | none =>
       rw[hg,if_pos rfl] at q;show uX V.ax V.ax _ _;symm;exact q _ s1
     | some z =>
       rw[hg,if_neg (λz=>by cases z)] at q;show uX (V.int z) V.ax _ _;symm;obtain⟨t',ty,kc,kb⟩:=lE T hh ⟨dx,Sj⟩;cases r with
       | back b =>
         with_reducible refine(?_:nZ _ _ _ _)
         refine eY (b:=true) (λz=>by cases z) ty kb ?_;symm;refine⟨x,p,b,e,rfl,⟨dx,Sj⟩,ok.1,ok.2,he1,λH2 s2=>?_⟩;have q:∀ H',ah H H'->Q (oV (if jF b e=true then none else some .back)) H':=q;cases hm:jF b e with
         | true =>
           rw[hm] at q;symm;exact q _ (s1.trans s2)
         | false =>
           rw[hm] at q;symm;exact q _ (s1.trans s2)
       | _ =>
         with_reducible refine(?_:nZ _ _ _ _)
         refine eY (b:=false) (λz=>by cases z) ty kb ?_;symm;exact q _ s1
theorem Ee (T:TX):KE 3 "Making" a.ay (E_ a):=by
 refine fz 2 T.HS T.Ha kr ?_ ?_;walk_at"in"
 . obtain ⟨x, dx, pr, w', fs, hv, D, rfl, hx, To, V0, hw, Ut, Tj, ok, q⟩ := h;have Vp:=V0.1;rw [aaa] at Vp;have o3:=ok.n;have npx:pr≠x:=λz=>by rw [z,hx] at To;cases To
   have nwx:w'≠x:=λz=>by rw[z,hx] at hw;cases hw
   walk_at"h";have nd:=kr.nd;refine' aF ?_ ?_;exact(gM (K:=K) rfl (pv 0) (bB (own:=["function"]) (fr:=[]) rfl ⟨rfl,(by walk_at"clok"),(by walk_at"frok"),rfl,(by decide +kernel),(by decide +kernel),rfl⟩ (bj (K:=K) rfl (pv 1)) (λ_ _ _ _=>(aM (i:=0) (show aaN [("function" : Str)] from by decide +kernel) rfl (Or.inl rfl))) (λ_ _ _ _=>bh) (λ_ _ _ _=>(bt (b_ (K:=K) rfl) (pv 0) aH (λ_ _=>rfl)))));walk_at"n";exact(gM (K:=K) rfl (pv 0) (bB (own:=["function"]) (fr:=[]) rfl ⟨rfl,(by walk_at"clok"),(by walk_at"frok"),rfl,(by decide +kernel),(by decide +kernel),rfl⟩ (bj (K:=K) rfl (pv 1)) (λ_ _ _ _=>(aM (i:=0) (show aaN [("function" : Str)] from by decide +kernel) rfl (Or.inl rfl))) (λ_ _ _ _=>bh) (λ_ _ _ _=>(aQ (AF T) (hr.mono (by decide)) aX rfl (aa (bt (b_ (K:=K) rfl) (pv 0) aH (λ_ _=>rfl)) ao)))));walk_at"n";exact(gM (K:=K) rfl (pv 0) (bB (own:=["home"]) (fr:=[]) rfl ⟨rfl,(by walk_at"clok"),(by walk_at"frok"),rfl,(by decide +kernel),(by decide +kernel),rfl⟩ (bj (K:=K) rfl (pv 2)) (λ_ _ _ _=>(aM (i:=0) (show aaN [("home" : Str)] from by decide +kernel) rfl (Or.inl rfl))) (λ_ _ _ _=>bh) (λ_ _ _ _=>(dA (GN T) (hr.mono (by decide)) aX rfl (aa (pv 0) ao)))));walk_at"c";walk_at"c";walk_at"c";walk_at"c";walk_at"c";walk_at"m";walk_at"tS";walk_at"s";symm;refine bz (K:=K) (a:=pr) (xs:=fs.map V.ref) (λi ys Z H1=>(∃ v,Z = [v])/\ah H H1/\ys=(D.ns.take i).map λk:Nat=>V.int (k:Int)) ⟨⟨_,rfl⟩,ah.refl _,rfl⟩ ?_ ?_ ?_
   . rintro i ys Z H1 hi ⟨_,s1,rfl⟩;exact⟨av.of (s1 _ _ To),by rw[aaa,aaC,aan];lia⟩
   . rintro i v ys Z H1 SG ⟨⟨v1,rfl⟩,s1,rfl⟩;obtain⟨f',hf,rfl⟩:=dG SG;obtain⟨F,hF,l,e1,hb⟩:=V0.at hf;rw[aae] at hF;obtain⟨n,hn,rfl⟩:=Option.map_eq_some_iff.mp hF;have e1:=s1 _ _ e1;symm;exact⟨⟨_,rfl⟩,s1,by rw[aaI,hn,aaE,aal];rfl⟩
   rintro ys Z H1 ⟨_,s1,rfl⟩ lh T3;rw[aaa,Vp,aaG];have Sj:=ak (o:=.lst (D.ns.map λk:Nat=>V.int (k:Int))) (s1 _ _ hx) T3;have nhH:H lh=none:=aB s1 T3;have Tr:(upd H1 lh (.lst (D.ns.map λk:Nat=>V.int (k:Int)))) lh=some (.lst (D.ns.map λk:Nat=>V.int (k:Int))):=U;have s2:=s1.trans (ag (o:=.lst (D.ns.map λk:Nat=>V.int (k:Int))) T3);generalize (upd H1 lh (.lst (D.ns.map λk:Nat=>V.int (k:Int))))=H2 at Sj Tr s2 ⊢;clear s1 T3;have nhx:lh≠x:=(ae hx nhH).symm;symm;have Tw:(upd H2 x (.ins a.ay dx (aj "handed" (.ref lh) []))) x=some (.ins a.ay dx (aj "handed" (.ref lh) [])):=U;have k3:∀ b o,H b=some o->b≠x->(upd H2 x (.ins a.ay dx (aj "handed" (.ref lh) []))) b=some o:=λb o e ne=>by rw[af ne];exact s2 _ _ e
   have U_:(upd H2 x (.ins a.ay dx (aj "handed" (.ref lh) []))) lh=some (.lst (D.ns.map λk:Nat=>V.int (k:Int))):=by rw[af nhx];exact Tr
   generalize (upd H2 x (.ins a.ay dx (aj "handed" (.ref lh) [])))=H3 at Tw k3 U_ ⊢;clear Sj Tr s2;have Te:=k3 _ _ To npx;symm;refine bz (K:=K) (a:=pr) (xs:=fs.map V.ref) (λi ys Z H4=>(∃ v,Z = [v])/\ah H3 H4/\∃ bs:List Addr,ys=bs.map V.ref/\bs.length=i/\∀ b∈bs,ix H4 b D.ss) ⟨⟨_,rfl⟩,ah.refl _,[],rfl,rfl,λb z=>by cases z⟩ ?_ ?_ ?_
   . rintro i ys Z H4 hi ⟨_,s4,bs,rfl,TF,_⟩;rw[aaa] at hi;exact⟨av.of (s4 _ _ Te),by rw[aaa,TF,aan];lia⟩
   . rintro i v ys Z H4 SG ⟨⟨v1,rfl⟩,s4,bs,rfl,TF,hms⟩;obtain ⟨f',hf,rfl⟩:=dG SG;obtain ⟨F,hF,l,e1,hb⟩:=V0.at hf;rw [aae] at hF;obtain ⟨n,hn,rfl⟩:=Option.map_eq_some_iff.mp hF;have e14:=s4 _ _ (k3 _ _ e1 (λz=>by rw [z,hx] at e1;cases e1));have hb4:=(hb.off hx k3).same s4;symm;refine ⟨l,_,rfl,hb4,⟨λs z=>?_,acu rfl⟩,λm H5 s5 nm ms=>?_⟩
     . rcases List.mem_cons.mp z with rfl | z
       . exact ok.x
       . rw[List.mem_singleton.mp z];exact(by decide:(0:Int)<=1)
     . refine ⟨⟨_, rfl⟩, s4.trans s5, bs ++ [m], by rw [aal]; rfl, by rw [aab, TF]; rfl, λb z => ?_⟩;rcases List.mem_append.mp z with z | z
       . exact(hms b z).same s5
       . rw[List.mem_singleton.mp z];exact ms
   rintro ys Z H4 ⟨_,s4,bs,rfl,TF,hms⟩ lb Ug;rw[aaa,Vp] at TF;have sB:=s4.trans (ag (o:=.lst (bs.map V.ref)) Ug);have nbH:H lb=none:=dN k3 Tw (aB s4 Ug);have Vh:=sB _ _ Tw;have hh5:=sB _ _ U_;have hb5:(upd H4 lb (.lst (bs.map V.ref))) lb=some (.lst (bs.map V.ref)):=U;have k5:∀ b o,H b=some o->b≠x->(upd H4 lb (.lst (bs.map V.ref))) b=some o:=λb o e ne=>sB _ _ (k3 b o e ne);have ms5:∀ b∈bs,ix (upd H4 lb (.lst (bs.map V.ref))) b D.ss:=λb z=>(hms b z).same (ag Ug);generalize (upd H4 lb (.lst (bs.map V.ref)))=H5 at Vh hh5 hb5 k5 ms5 ⊢;clear sB hms s4 Ug Tw k3 U_ Te;have nbx:lb≠x:=(ae hx nbH).symm;symm;have Uj:(upd H5 x (.ins a.ay dx (aj "bodies" (.ref lb) (aj "handed" (.ref lh) [])))) x=some (.ins a.ay dx (aj "bodies" (.ref lb) (aj "handed" (.ref lh) []))):=U;have k6:∀ b o,H5 b=some o->b≠x->(upd H5 x (.ins a.ay dx (aj "bodies" (.ref lb) (aj "handed" (.ref lh) [])))) b=some o:=λb o e ne=>by rw[af ne];exact e
   generalize (upd H5 x (.ins a.ay dx (aj "bodies" (.ref lb) (aj "handed" (.ref lh) []))))=H6 at Uj k6 ⊢;have VS:=k6 _ _ hh5 nhx;have hb6:=k6 _ _ hb5 nbx;have ms6:∀ b∈bs,ix H6 b D.ss:=λb z=>(ms5 b z).off Vh k6;have kk6:∀ b o,H b=some o->b≠x->H6 b=some o:=λb o e ne=>k6 b o (k5 b o e ne) ne;clear ms5 hh5 hb5 k5 k6 Vh;have VI:=kk6 _ _ hw nwx;symm;refine bz (K:=K) (a:=w') (xs:=hv) (λi ys Z H7=>(∃ v,Z = [v])/\ah H6 H7/\∃ bE:List Addr,ys=bE.map V.ref/\bE.length=i/\∀ (j:Nat) (f:Addr),bE[j]? = some f->∃ h,D.hs[j]? = some h/\fq a H7 f h/\f≠x) ⟨⟨_,rfl⟩,ah.refl _,[],rfl,rfl,λj f e=>by simp at e⟩ ?_ ?_ ?_
   . rintro i ys Z H7 hi ⟨_,s7,bE,rfl,hfl',_⟩
     have:=ok.h
     exact⟨av.of (s7 _ _ VI),by rw[aaa,hfl',aan];lia⟩
   . rintro i v ys Z H7 SG ⟨⟨v1,rfl⟩,s7,bE,rfl,hfl',Um⟩;obtain ⟨h,hh,p,rfl,hp⟩:=Tj i v SG;have VN:=s7 _ _ (kk6 _ _ hp (λz=>by rw [z,hx] at hp;cases hp));have hx7:=s7 _ _ Uj;symm;intro fx dxx m0 g0 _;refine ⟨fx,dxx,.ref p,h,rfl,U,⟨p,rfl,by rw [af (ae VN m0),af (ae VN g0)];exact VN⟩,ok.hs h (aad hh),λd la lc fs2 H8 _ _ _ kp fi=>⟨rfl,?_⟩⟩;have s8:ah H7 H8:=λb o e=>kp b o (by rw [af (ae e m0),af (ae e g0)];exact e) (ae e m0);refine ⟨⟨_,rfl⟩,s7.trans s8,bE++[fx],by rw [aal];rfl,by rw [aab,hfl'];rfl,λj f e=>?_⟩;by_cases hj:j<bE.length
     . rw[aak hj] at e;obtain⟨h',a1,a2,a3⟩:=Um j f e;exact⟨h',a1,a2.same s8,a3⟩
     . rw[aag (by lia)] at e;have VQ:j=bE.length:=by
         have:=(List.getElem?_eq_some_iff.mp e).1
         rw[aax] at this
         lia
       subst VQ;rw[acQ] at e;cases e
       exact⟨h,by rw[hfl'];exact hh,⟨dxx,d,la,lc,fs2,fi⟩,(ae hx7 m0).symm⟩
   rintro ys Z H7 ⟨_,s7,bE,rfl,hfl',Um⟩ lf T4;symm
   have:=ok.h
   rw[Ut] at hfl';rename_i lg Wq ld Ue lp iK ll Vf;have hx7:=s7 _ _ Uj;have nfH:H lf=none:=dN kk6 Uj (aB s7 T4);have nfx:lf≠x:=(ae hx nfH).symm;have k0:∀ b o,H7 b=some o->b≠x->(upd (upd H7 lf (.lst (bE.map V.ref))) x (.ins a.ay dx (aj "frames" (.ref lf) (aj "bodies" (.ref lb) (aj "handed" (.ref lh) []))))) b=some o:=λb o e ne=>by rw[af ne];exact ak e T4
   have WA:(upd (upd H7 lf (.lst (bE.map V.ref))) x (.ins a.ay dx (aj "frames" (.ref lf) (aj "bodies" (.ref lb) (aj "handed" (.ref lh) []))))) x=some (.ins a.ay dx (aj "frames" (.ref lf) (aj "bodies" (.ref lb) (aj "handed" (.ref lh) [])))):=U;have hlf0:(upd (upd H7 lf (.lst (bE.map V.ref))) x (.ins a.ay dx (aj "frames" (.ref lf) (aj "bodies" (.ref lb) (aj "handed" (.ref lh) []))))) lf=some (.lst (bE.map V.ref)):=by rw[af nfx];exact U
   generalize (upd (upd H7 lf (.lst (bE.map V.ref))) x (.ins a.ay dx (aj "frames" (.ref lf) (aj "bodies" (.ref lb) (aj "handed" (.ref lh) [])))))=A0 at k0 WA hlf0 Wq Ue iK Vf ⊢;have ngx:lg≠x:=(ae WA Wq).symm;have k1:∀ b o,A0 b=some o->b≠x->(upd (upd A0 lg (.lst [])) x (.ins a.ay dx (aj "begins" (.ref lg) (aj "frames" (.ref lf) (aj "bodies" (.ref lb) (aj "handed" (.ref lh) [])))))) b=some o:=λb o e ne=>by rw[af ne];exact ak e Wq
   have Sj:(upd (upd A0 lg (.lst [])) x (.ins a.ay dx (aj "begins" (.ref lg) (aj "frames" (.ref lf) (aj "bodies" (.ref lb) (aj "handed" (.ref lh) [])))))) x=some (.ins a.ay dx (aj "begins" (.ref lg) (aj "frames" (.ref lf) (aj "bodies" (.ref lb) (aj "handed" (.ref lh) []))))):=U;have SF:(upd (upd A0 lg (.lst [])) x (.ins a.ay dx (aj "begins" (.ref lg) (aj "frames" (.ref lf) (aj "bodies" (.ref lb) (aj "handed" (.ref lh) [])))))) lg=some (.lst []):=by rw[af ngx];exact U
   generalize (upd (upd A0 lg (.lst [])) x (.ins a.ay dx (aj "begins" (.ref lg) (aj "frames" (.ref lf) (aj "bodies" (.ref lb) (aj "handed" (.ref lh) []))))))=A1 at k1 Sj SF Ue iK Vf ⊢;have U3:ld≠x:=(ae Sj Ue).symm;have ndg:ld≠lg:=(ae SF Ue).symm;have k2:∀ b o,A1 b=some o->b≠x->(upd (upd A1 ld (.lst [])) x (.ins a.ay dx (aj "drafts" (.ref ld) (aj "begins" (.ref lg) (aj "frames" (.ref lf) (aj "bodies" (.ref lb) (aj "handed" (.ref lh) []))))))) b=some o:=λb o e ne=>by rw[af ne];exact ak e Ue
   have Sm:(upd (upd A1 ld (.lst [])) x (.ins a.ay dx (aj "drafts" (.ref ld) (aj "begins" (.ref lg) (aj "frames" (.ref lf) (aj "bodies" (.ref lb) (aj "handed" (.ref lh) []))))))) x=some (.ins a.ay dx (aj "drafts" (.ref ld) (aj "begins" (.ref lg) (aj "frames" (.ref lf) (aj "bodies" (.ref lb) (aj "handed" (.ref lh) [])))))):=U;have Vy:(upd (upd A1 ld (.lst [])) x (.ins a.ay dx (aj "drafts" (.ref ld) (aj "begins" (.ref lg) (aj "frames" (.ref lf) (aj "bodies" (.ref lb) (aj "handed" (.ref lh) []))))))) ld=some (.lst []):=by rw[af U3];exact U
   generalize (upd (upd A1 ld (.lst [])) x (.ins a.ay dx (aj "drafts" (.ref ld) (aj "begins" (.ref lg) (aj "frames" (.ref lf) (aj "bodies" (.ref lb) (aj "handed" (.ref lh) [])))))))=A2 at k2 Sm Vy iK Vf ⊢;have npx2:lp≠x:=(ae Sm iK).symm;have npd:lp≠ld:=(ae Vy iK).symm;have k3:∀ b o,A2 b=some o->b≠x->(upd (upd A2 lp (.dK [])) x (.ins a.ay dx (aj "places" (.ref lp) (aj "drafts" (.ref ld) (aj "begins" (.ref lg) (aj "frames" (.ref lf) (aj "bodies" (.ref lb) (aj "handed" (.ref lh) [])))))))) b=some o:=λb o e ne=>by rw[af ne];exact ak e iK
   have Tw:(upd (upd A2 lp (.dK [])) x (.ins a.ay dx (aj "places" (.ref lp) (aj "drafts" (.ref ld) (aj "begins" (.ref lg) (aj "frames" (.ref lf) (aj "bodies" (.ref lb) (aj "handed" (.ref lh) [])))))))) x=some (.ins a.ay dx (aj "places" (.ref lp) (aj "drafts" (.ref ld) (aj "begins" (.ref lg) (aj "frames" (.ref lf) (aj "bodies" (.ref lb) (aj "handed" (.ref lh) []))))))):=U;have Vx:(upd (upd A2 lp (.dK [])) x (.ins a.ay dx (aj "places" (.ref lp) (aj "drafts" (.ref ld) (aj "begins" (.ref lg) (aj "frames" (.ref lf) (aj "bodies" (.ref lb) (aj "handed" (.ref lh) [])))))))) lp=some (.dK []):=by rw[af npx2];exact U
   generalize (upd (upd A2 lp (.dK [])) x (.ins a.ay dx (aj "places" (.ref lp) (aj "drafts" (.ref ld) (aj "begins" (.ref lg) (aj "frames" (.ref lf) (aj "bodies" (.ref lb) (aj "handed" (.ref lh) []))))))))=A3 at k3 Tw Vx Vf ⊢;have S7:ll≠x:=(ae Tw Vf).symm;have nlp3:ll≠lp:=(ae Vx Vf).symm;have k4:∀ b o,A3 b=some o->b≠x->(upd (upd A3 ll (.dK [])) x (.ins a.ay dx (aj "landing_labels" (.ref ll) (aj "places" (.ref lp) (aj "drafts" (.ref ld) (aj "begins" (.ref lg) (aj "frames" (.ref lf) (aj "bodies" (.ref lb) (aj "handed" (.ref lh) []))))))))) b=some o:=λb o e ne=>by rw[af ne];exact ak e Vf
   have Sz:(upd (upd A3 ll (.dK [])) x (.ins a.ay dx (aj "landing_labels" (.ref ll) (aj "places" (.ref lp) (aj "drafts" (.ref ld) (aj "begins" (.ref lg) (aj "frames" (.ref lf) (aj "bodies" (.ref lb) (aj "handed" (.ref lh) []))))))))) x=some (.ins a.ay dx (aj "landing_labels" (.ref ll) (aj "places" (.ref lp) (aj "drafts" (.ref ld) (aj "begins" (.ref lg) (aj "frames" (.ref lf) (aj "bodies" (.ref lb) (aj "handed" (.ref lh) [])))))))):=U;have hll4:(upd (upd A3 ll (.dK [])) x (.ins a.ay dx (aj "landing_labels" (.ref ll) (aj "places" (.ref lp) (aj "drafts" (.ref ld) (aj "begins" (.ref lg) (aj "frames" (.ref lf) (aj "bodies" (.ref lb) (aj "handed" (.ref lh) []))))))))) ll=some (.dK []):=by rw[af S7];exact U
   generalize (upd (upd A3 ll (.dK [])) x (.ins a.ay dx (aj "landing_labels" (.ref ll) (aj "places" (.ref lp) (aj "drafts" (.ref ld) (aj "begins" (.ref lg) (aj "frames" (.ref lf) (aj "bodies" (.ref lb) (aj "handed" (.ref lh) [])))))))))=A4 at k4 Sz hll4  ⊢;have k14:∀ b o,A1 b=some o->b≠x->A4 b=some o:=λb o e ne=>k4 b o (k3 b o (k2 b o e ne) ne) ne;have k04:∀ b o,A0 b=some o->b≠x->A4 b=some o:=λb o e ne=>k14 b o (k1 b o e ne) ne;have hlg4:=k14 _ _ SF ngx;have hld4:=k4 _ _ (k3 _ _ Vy U3) U3;have hlp4:=k4 _ _ Vx npx2;have nd0:A0 ld=none:=dN k1 Sj Ue;have np0:A0 lp=none:=dN k1 Sj (dN k2 Sm iK);have kH0:∀ b o,H b=some o->b≠x->A0 b=some o:=λb o e ne=>k0 b o (s7 b o (kk6 b o e ne)) ne;have ndH:H ld=none:=dN kH0 WA nd0;have npH:H lp=none:=dN kH0 WA np0;have kO:∀ b o,A0 b=some o->b≠x->fL x A0 b=some o:=λb o e ne=>i4 e ne;have ms0:∀ b∈bs,ix (fL x A0) b D.ss:=λb z=>(((ms6 b z).same s7).off hx7 k0).off WA kO;have fr0:∀ (i:Nat) (f:Addr),bE[i]? = some f->∃ h,D.hs[i]? = some h/\fq a (fL x A0) f h:=λi f e=>by
     obtain⟨h,a1,a2,a3⟩:=Um i f e;exact⟨h,a1,(a2.off hx7 a3 k0).off WA a3 kO⟩
   have hlb0:=k0 _ _ (s7 _ _ hb6) nbx;have UJ:=k0 _ _ (s7 _ _ VS) nhx;have hlb4:=k04 _ _ hlb0 nbx;have ngb:lg≠lb:=(ae hlb0 Wq).symm;have ngp:lg≠lp:=λz=>by rw[z] at SF;rw[dN k2 Sm iK] at SF;cases SF
   have ngl:lg≠ll:=λz=>by rw[z] at SF;rw[dN k2 Sm (dN k3 Tw Vf)] at SF;cases SF
   have ngH:H lg=none:=dN kH0 WA Wq;have ng0:A0 lg=none:=Wq;clear Wq Ue iK Vf Sj Sm Tw SF Vy Vx T4 s7 ms6 Um hb6 VS VI Uj hx7 kk6
   with_reducible refine(?_:rK _ _ _ _ _ _)
   refine eS (K:=K) (a:=lb) (xs:=bs.map V.ref) (λi Z HL=>(∃ u,Z = [some (.ref x),some (.ref pr),some (.ref w'),some (.int (5*(i:Int))),u])/\(∀ b o,A4 b=some o->b≠lg->HL b=some o)/\HL lg=some (.lst (((aaU i).map λj:Nat=>5*(j:Int)).map V.int))) ⟨⟨_,rfl⟩,λb o e _=>e,hlg4⟩ ?_ ?_ ?_
   . rintro i Z HL hi ⟨_,kL,_⟩;exact av.of (kL _ _ hlb4 ngb.symm)
   . rintro i v Z HL SG ⟨⟨u,rfl⟩,kL,hgL⟩;obtain⟨b,hbi,rfl⟩:=dG SG;have hi:i<bs.length:=(List.getElem?_eq_some_iff.mp hbi).1;obtain⟨qs,hq,aq⟩:=ms0 b (aad hbi);have ql:qs.length=3:=aq.1;have hq4:=yX k04 _ _ hq;have hxL:=kL _ _ Sz ngx.symm;have nbg:b≠lg:=λz=>by
       rw[z,hlg4] at hq4;have h1:=congrArg adq (HO.lst.inj (aap hq4));rw[aaa,ql] at h1;cases h1
     have hbL:=kL _ _ hq4 nbg;have hbU:(upd HL lg (.lst (((aaU i).map λj:Nat=>5*(j:Int)).map V.int++[V.int (5*(i:Int))]))) b=some (.lst (qs.map V.ref)):=by rw[af nbg];exact hbL
     symm;refine⟨⟨_,by rw[show(5*(i:Int)+((qs.map V.ref).length:Int)+2)=5*((i+1:Nat):Int) from by rw[aaa,ql];lia]⟩,λb' o e ne=>by rw[af ne];exact kL b' o e ne,?_⟩;rw[U,ab_,aal,aal];rfl
   . rintro Z HL ⟨⟨u,rfl⟩,kL,hgL⟩;rw[aaa,TF] at hgL;have mf:Pn ⟨fL x A0,dx,(aj "landing_labels" (.ref ll) (aj "places" (.ref lp) (aj "drafts" (.ref ld) (aj "begins" (.ref lg) (aj "frames" (.ref lf) (aj "bodies" (.ref lb) (aj "handed" (.ref lh) []))))))),lh,lb,lf,lg,ld,lp,ll,bs,bE⟩:=by
       refine⟨by walk_at"lk",by walk_at"lk",by walk_at"lk",by walk_at"lk",by walk_at"lk",by walk_at"lk",by walk_at"lk",?_,λy hy=>?_⟩
       . exact aaR (er (er (er (er (er (er (er (aai 0)))))))) (by decide)
       . simp only[aaX,aa0,or_false] at hy;rcases hy with rfl | rfl | rfl | rfl | rfl | rfl <;> walk_at"nolk"
     exact q _ HL (λb o e ne=>kL _ _ (k04 _ _ (kH0 b o e ne) ne) (ae e ngH)) ndH npH ⟨⟨mf,zP nd0,zP np0,npd.symm,ok,i4 UJ nhx,i4 hlb0 nbx,⟨TF,ms0⟩,i4 hlf0 nfx,by rw[hfl',ok.h],fr0⟩,yX λb o e ne=>kL _ _ (k04 b o e ne) (ae e ng0),kL _ _ Sz ngx.symm,hgL,kL _ _ hll4 ngl.symm,⟨[],kL _ _ hld4 ndg,aJ.nil⟩,kL _ _ hlp4 ngp.symm,ndg.symm,nlp3⟩
theorem fX (r:Rw):r.qZ.lookup ("keeps" : Str)=none:=by
 cases r <;> (show abO _ (aj _ _ _)=none;walk_at"nolk")
theorem eQ (T:TX)(hr:r.here):ME 3 (r.cls a) "keeps" (e_ a r):=by
 cases r
 . exact(zQ T _ _).mono (by decide)
 . exact(xw T _ _).mono (by decide)
 . exact hr.elim
 . exact hr.elim
 . exact hr.elim
 . exact hr.elim
 . exact(xq T _).mono (by decide)
 . exact(sY T _).mono (by decide)
 . exact(za T _ _).mono (by decide)
 . exact(zx T _ _).mono (by decide)
 . exact(xC T _).mono (by decide)
 . exact hr.elim
 . exact hr.elim
 . exact(xp T _).mono (by decide)
 . exact hr.elim
theorem Cg (T:TX):FE 4 "is_part" Jv:=by
 refine aR 3 T.CQ tK ?_ ?_;walk_at"in"
 . obtain⟨i, n, k, rfl, h⟩ := h;walk_at"h";have nd:=tK.nd;refine' aF ?_ ?_;walk_at"tS";walk_at"c";walk_at"n";walk_at"f";walk_at"tT";walk_at"m";exact bp;exact aT;walk_at"n";walk_at"f";walk_at"tT";walk_at"m";exact bp;exact aT;walk_at"m";exact bp;walk_at"s";rcases h with ⟨rfl,q⟩ | ⟨rfl,rfl,q⟩
   . symm;refine⟨.int i,rfl,rfl,?_⟩;symm;exact q
   . symm;refine⟨.int 7,_,rfl,rfl,?_⟩;symm;exact q
theorem zJ (T:TX)(t:Int):ME 4 a.aW "laid" (Kb a t):=by
 refine aK 3 T.gJ T.AA oT ?_ ?_;walk_at"in"
 . obtain⟨x, d, rfl, ⟨dx, hx⟩, h0, h2, q⟩ := h
   change H x=some (.ins a.aW dx (aj "target" (.int t) [])) at hx
   walk_at"h";have nd:=oT.nd;walk_at"v";symm;exact Mc (mk:=Rw.ck) (a:=a) ⟨h0,h2⟩ rfl (λp H' s n z=>q p H' s z)
theorem Cy (T:TX):FE 4 "is_home" F_:=by
 refine aR 3 T.BQ my ?_ ?_;walk_at"in"
 . obtain ⟨v, b, rfl, hv, q⟩ := h;walk_at "h";have nd:=my.nd;refine' aF ?_ ?_;walk_at "f";exact (PW.pt (fY (dq (cJ (K:=K) rfl (aG (cf (K:=K) rfl) rfl T.aY aZ (aa (pv 0) (aa (dh (v:=.ty "tuple") rfl T.i8 i6 rfl) ao))))) (hW (cC (ou (K:=K) rfl hr.units) (aG (bK (K:=K) rfl) rfl T.dm du (aa (pv 0) ao)) (aG (bK (K:=K) rfl) rfl T.dm du (aa (bI (v:=.ref a.cu) rfl T.eU rfl) ao)) (cb _)))));walk_at "tB";exact aT;walk_at "n";exact (c9 (i:=1) my.nd rfl (Or.inr rfl) (bB (own:=["name"]) (fr:=[]) rfl ⟨rfl,(by walk_at "clok"),(by walk_at "frok"),rfl,(by decide +kernel),(by decide +kernel),rfl⟩ (bj (K:=K) rfl (pv 0)) (λ_ _ _ _=>(aM (i:=0) (show aaN [("name" : Str)] from by decide +kernel) rfl (Or.inl rfl))) (λ_ _ _ _=>(i9 (cC lW (pv 0) eT (cb _)))) (λ_ _ _ _=>(pv 0))));walk_at "m";exact (b9 (aG (ic (K:=K) rfl rfl) rfl T.pD pV (aa (bB (own:=["name"]) (fr:=[("names",1)]) rfl ⟨rfl,(by walk_at "clok"),(by walk_at "frok"),rfl,(by decide +kernel),(by decide +kernel),rfl⟩ (bj (K:=K) rfl (pv 1)) (λ_ _ _ _=>(aM (i:=0) (show aaN [("name" : Str),("names" : Str)] from by decide +kernel) rfl (Or.inl rfl))) (λ_ _ _ _=>bh) (λ_ _ _ _=>(fA (aQ (ue T) (hr.mono (by decide)) aX rfl (aa (pv 0) ao)) (ib (gZ (jj (K:=K) rfl hr.units) (ei (K:=K) rfl aaM PySem.F.slot_list_count PySem.F.type_list_count E5 (pv 1) (aa (pv 0) ao)) aH (cb _)))))) ao)));walk_at "s";rcases hv with ⟨p,h,rfl,hp,h8,rfl⟩ | ⟨rfl,hv⟩
   . have UA := T.dI;symm;refine pf (UA _) ?_;rw[aaa];symm;by_cases h3:h.length=3
     . rw [show (V.bl !decide (V.int (h.length : Int) = V.int ([V.int 4, V.int 5, V.int 6] : List V).length)) = V.bl false from by rw [h3]; decide];symm;refine mx (K:=K) (a:=p) (xs:=h.map aO) (λi ys Z H1=>(∃ v,Z = [v])/\ah H H1/\ys=(dO (h.take i)).map V.int) ⟨⟨_,rfl⟩,ah.refl _,rfl⟩ ?_ ?_ ?_
       . rintro i ys Z H1 hi ⟨_,s1,rfl⟩;exact⟨az.of (s1 _ _ hp),by rw[aaa,aan];have:=BA (h.take i);rw[aaC] at this;lia⟩
       . rintro i x ys Z H1 hx ⟨⟨v1,rfl⟩,s1,rfl⟩;rw[aae] at hx;obtain⟨o,ho,rfl⟩:=Option.map_eq_some_iff.mp hx;have hn:=HW ho;cases o with
         | none =>
           refine(?_:cU 0 V.ax _ _ _);symm;exact⟨⟨_,rfl⟩,s1,by rw[hn,Option.toList_none,aaJ]⟩
         | some n =>
           refine(?_:cU 0 (V.int n) _ _ _);symm;exact⟨⟨_,rfl⟩,s1,by rw[hn,aaE,aal];rfl⟩
       rintro ys Z H1 ⟨_,s1,rfl⟩ ln Wp;rw[aaa,aaG];symm;have s2:=s1.trans (ag (o:=.lst ((dO h).map V.int)) Wp);have Sk:(upd H1 ln (.lst ((dO h).map V.int))) ln=some (.lst ((dO h).map V.int)):=U;generalize (upd H1 ln (.lst ((dO h).map V.int)))=H2 at s2 Sk ⊢;clear s1 Wp;refine wj (α:=Int) (xs:=dO h) (emb:=V.int) (λn=>.bl ((decide (0<=n) && decide (n<=5)) && decide ((dO h).countP (· == n)=1))) (λZ=>∃ v,Z = [v,some (.ref ln)]) (av.of Sk) (by rw[aan];have:=BA h;lia) ⟨_,rfl⟩ ?_ ?_
       . rintro i x ys Z H3 hx cc s3 ⟨v,rfl⟩;have WL:=s3 _ _ Sk;symm;refine⟨.int x,rfl,rfl,?_⟩;cases hb:oU 5 (.int x) with
         | true =>
           symm;refine Gb WL ?_;symm;exact cc.next hx (Rv _ hb) s3 ⟨_,rfl⟩
         | false =>
           symm;exact cc.next hx (Rp _ hb) s3 ⟨_,rfl⟩
       intro H3 s3 l3 nl3;symm;refine l0 (bs:=(dO h).map λn=>((decide (0<=n) && decide (n<=5)) && decide ((dO h).countP (· == n)=1))) (by rw[abv];exact av.of U) ?_;rw[show((dO h).map λn=>((decide (0<=n) && decide (n<=5)) && decide ((dO h).countP (· == n)=1))).all id=bw h from by unfold bw;rw[decide_eq_true h3,abi,ab5];rfl];exact q _ (s2.trans (s3.trans (ag nl3)))
     . rw[show(V.bl !decide (V.int (h.length : Int) = V.int ([V.int 4, V.int 5, V.int 6] : List V).length)) = V.bl true from by rw[decide_eq_false (λz => h3 (by have := V.int.inj z; simp at this; lia))]; rfl];symm;rw[show bw h=false from by unfold bw;rw[decide_eq_false h3];rfl] at q;exact q _ (ah.refl _)
   . rcases hv with rfl | ⟨x,rfl⟩ | ⟨p,us,rfl,hp⟩ | ⟨p,u,us,rfl,hp,h3,hu,hus⟩
     . symm;exact q _ (ah.refl _)
     . symm;exact q _ (ah.refl _)
     . symm;exact q _ (ah.refl _)
     . have UA := T.dI;symm;refine pf (UA _) ?_;rw [h3];symm;refine mx (K:=K) (a:=p) (xs:=us) (λi ys Z H1=>(∃ v,Z = [v])/\ah H H1/\ys=(us.take i).filter λv=>match v with | .ax=>false | _=>true) ⟨⟨_,rfl⟩,ah.refl _,rfl⟩ ?_ ?_ ?_
       . rintro i ys Z H1 hi ⟨_,s1,rfl⟩;refine ⟨az.of (s1 _ _ hp),?_⟩;have h1:=acs (λv=>match v with | .ax=>false | _=>true) (us.take i);rw [aaC] at h1;rw [aan]
         lia
       . rintro i x ys Z H1 hx ⟨⟨v1,rfl⟩,s1,rfl⟩;have hxu:x=.ax∨x=u:=by
           rcases hus with rfl | rfl
           . match i, hx with
             | 0,hx=>cases hx;exact .inr rfl
             | 1,hx=>cases hx;exact .inl rfl
             | 2,hx=>cases hx;exact .inl rfl
           . match i, hx with
             | 0,hx=>cases hx;exact .inl rfl
             | 1,hx=>cases hx;exact .inr rfl
             | 2,hx=>cases hx;exact .inl rfl
         have hsn:∀ f:V->Bool,(us.take (i+1)).filter f=(us.take i).filter f++(if f x=true then [x] else []):=λf=>by
           rw[aaI,hx,aaE,acN];cases hf:f x <;> simp[List.filter,hf]
         rw[hsn];rcases hxu with rfl | rfl
         . symm;exact⟨⟨_,rfl⟩,s1,by simp⟩
         . rcases hu with rfl | ⟨x,rfl⟩
           . symm;refine⟨rfl,?_⟩;rw[decide_eq_false (λz=>by cases z)];symm;exact⟨⟨_,rfl⟩,s1,by simp⟩
           . symm;refine⟨rfl,?_⟩;rw[decide_eq_false (λz=>by cases z)];symm;exact⟨⟨_,rfl⟩,s1,by simp⟩
       rintro ys Z H1 ⟨_,s1,rfl⟩ ln Wp;rw[aaG];have hf:us.filter (λv=>match v with | .ax=>false | _=>true)=[u]:=by
         rcases hus with rfl | rfl <;> rcases hu with rfl | ⟨x,rfl⟩ <;> rfl
       rw[hf];symm;have s2:=s1.trans (ag (o:=.lst [u]) Wp);have Sk:(upd H1 ln (.lst [u])) ln=some (.lst [u]):=U;generalize (upd H1 ln (.lst [u]))=H2 at s2 Sk ⊢;clear s1 Wp hf;have hau:IW u=true/\oU 5 u=false:=by rcases hu with rfl | ⟨x,rfl⟩ <;> exact⟨rfl,rfl⟩
       refine wj (α:=V) (xs:=[u]) (emb:=id) (λ_=>.bl false) (λZ=>∃ v,Z = [v,some (.ref ln)]) (av.of Sk) (by rw[aan];exact aam rfl) ⟨_,rfl⟩ ?_ ?_
       . rintro i x ys Z H3 hx cc s3 ⟨v,rfl⟩;have hxu:x=u:=by
           match i,hx with
           | 0,hx=>cases hx;rfl
         subst hxu;symm;refine⟨x,rfl,hau.1,?_⟩;rw[hau.2];symm;exact cc.next hx rfl s3 ⟨_,rfl⟩
       intro H3 s3 l3 nl3;symm;refine l0 (bs:=[false]) (av.of U) ?_;exact q _ (s2.trans (s3.trans (ag nl3)))
theorem xv (T:TX):ME 4 a.aU "left" (Nq a):=by
 refine aK 3 T.fM T.zj iz ?_ ?_;walk_at"in"
 . obtain ⟨x, h, rfl, ⟨dx, d, la, lc, fs, fr⟩, hm, q⟩ := h;have hx:=fr.hx;have f1:=fr.F.away;have f2:=fr.F.many;have ha:=fr.ha;obtain ⟨hab,hal,_⟩:=uI hm;walk_at "h";have nd:=iz.nd;refine' aF ?_ ?_;exact (gU (i:=1) iz.nd rfl rfl (own:=["cell","box"]) (fr:=[]) rfl ⟨rfl,(by walk_at "clok"),(by walk_at "frok"),rfl,(by decide +kernel),(by decide +kernel),rfl⟩ (rC (K:=K) rfl rfl T.kg (aa (aV (K:=K) rfl (pv 0)) ao)) (λ_ _ _ _=>(fb (K:=K) (n:=2) rfl rfl (bR (aM (i:=0) (show aaN [("cell" : Str),("box" : Str)] from by decide +kernel) rfl (Or.inl rfl)) (bR (aM (i:=1) (show aaN [("cell" : Str),("box" : Str)] from by decide +kernel) rfl (Or.inl rfl)) eZ)))) (λ_ _ _ _=>bh) (λ_ _ _ _=>(dA (EJ T) (hr.mono (by decide)) aX rfl (aa (pv 1) (aa (pv 0) ao)))));walk_at "c";walk_at "m";walk_at "tS";walk_at "s";symm
   with_reducible refine vP ?_
   symm;refine⟨la,_,rfl,av.of ha,?_⟩;refine tP (xs:=(aA h).map V.int) (λi ys Z H1=>(∃ u v,Z = [u,v])/\ah H H1/\∃ fI:List Addr,ys=fI.map V.ref/\aJ a H1 fI (cy .get 0 ((aA h).take i))) ⟨⟨_,_,rfl⟩,ah.refl _,[],rfl,aJ.nil⟩ ?_ ?_ ?_
   . rintro i ys Z H1 hi ⟨_,s1,fI,rfl,hr⟩;have R8:=hr.1;rw[cO,aaC] at R8;exact⟨av.of (s1 _ _ ha),by rw[aaa,R8,aan];lia⟩
   . rintro i v ys T' Z H1 hx ⟨⟨u,v',rfl⟩,s1,fI,rfl,hr⟩ nT;obtain ⟨b,hb,rfl⟩:=int_at hx;obtain ⟨b4,b7⟩:=hab b (aad hb);have hi:i<(aA h).length:=(List.getElem?_eq_some_iff.mp hb).1;rw [oY _ hb];have au:(Rw.get b (i:Int)).ok:=⟨⟨by lia,by lia⟩,by lia,by lia⟩
     refine eV (az.of U) rfl ?_;symm;exact vp (a:=a) au rfl (λp H' s np z=>⟨⟨_,_,rfl⟩,s1.trans ((ag nT).trans s),fI++[p],by rw[aal];rfl,by rw[abT];exact(hr.same ((ag nT).trans s)).snoc z⟩)
   rintro ys Z H1 ⟨_,s1,fI,rfl,hr⟩ l nl;rw[aaa,aaG] at hr;have hlp:fI.length<=4:=by rw[hr.1,cO];exact hal
   symm;intro r1 dr1 m1 g1 _;refine⟨r1,dr1,_,rfl,⟨by decide,by decide⟩,U,λH2 kp hH2=>⟨rfl,?_⟩⟩;have s2:ah (upd H1 l (.lst (fI.map V.ref))) H2:=λb o e=>kp b o (by rw[af (ae e m1),af (ae e g1)];exact e) (ae e m1);have w1:br a H2 r1 (.shrink 7):=⟨dr1,hH2⟩
   have Sk:H2 l=some (.lst (fI.map V.ref)):=s2 _ _ U;have s3:=s1.trans ((ag nl).trans s2);have hr2:=hr.same ((ag nl).trans s2);have nlH:=aB s1 nl;clear kp hH2 s2 s1 hr nl m1 g1;symm;refine q l _ (λb o e=>by rw[af (ae e nlH)];exact s3 b o e) ⟨nlH,fI++[r1],by rw[U,aal];rfl,?_⟩;exact(hr2.snoc w1).MM Sk
theorem sZ (T:TX):ME 4 a.aU "loaded" (Hd a):=by
 refine aK 3 T.fM T.vW j5 ?_ ?_;walk_at"in"
 . obtain⟨x, h, n, b, rfl, ⟨dx, d, la, lc, fs, fr⟩, hm, h0, h5, b0, b7, q⟩ := h;have hx:=fr.hx;have f1:=fr.F.box;have hd:=fr.hd;have hv:=xV h n;have hk:=tO hm h0 h5;have hcb:gB h n=none->0<=f_ h n/\f_ h n<=4000:=λz=>by
     rcases hk with ⟨_,k1,_⟩ | ⟨b,k,_⟩
     . have h1 := (List.getElem?_eq_some_iff.mp k1).1;have h2:=pC hm;unfold f_
       lia
     . rw[z] at k;cases k
   have dg:=c8.k (k:=.inl n) hd;rw[hv] at dg;walk_at"h";have nd:=j5.nd;refine' cv ?_;exact(b9 (jl (tH (Ei (eL hr) (pv 1) (aV (K:=K) rfl (pv 0)))) (gj (aa (dA (Bs T) (hr.mono (by decide)) aX rfl (aa (pv 2) (aa (iW (eL hr) (aV (K:=K) rfl (pv 0)) (pv 1) (λ_ _=>rfl)) ao))) ao)) (gj (aa (dA (EJ T) (hr.mono (by decide)) aX rfl (aa (pv 2) (aa (fK (P:=P) (w:=w) (K:=K) (mg:=mg) (base:=base) (k:=1) ⟨rfl,rfl,rfl,rfl,rfl⟩ (pv 0) (hr.mono (by decide)) aX (aa (pv 1) ao)) ao))) ao))));walk_at"s";symm;refine B0 ?_;refine IP ?_;symm;refine uM (kvs:=aD (bQ h)) hd ?_;rw[hv];unfold wC at q;rcases hk with ⟨hb,k1,k2⟩ | ⟨z,hb,z4,z6⟩
   . rw[hb] at q ⊢;refine⟨false,rfl,?_⟩;rw[if_neg aaw];symm
     with_reducible refine aN hx (fr.F.no "cell_of" (by decide +kernel)) ((jJ T).mono (by decide)) ?_
     symm;refine⟨x,h,n,rfl,⟨dx,d,la,lc,fs,fr⟩,hm,h0,h5,hb,?_⟩;symm;exact pT (mk:=Rw.get) (a:=a) ⟨⟨b0,b7⟩,hcb hb⟩ rfl q
   . rw[hb] at q dg ⊢;refine⟨true,rfl,?_⟩;rw[if_pos rfl];symm
     with_reducible refine kB ?_
     symm;refine⟨d,_,rfl,dg,?_⟩;symm;exact pT (mk:=Rw.copy) (a:=a) ⟨⟨b0,b7⟩,by lia,by lia⟩ rfl q
theorem jS (T:TX):ME 4 a.aU "stored" (HJ a):=by
 refine aK 3 T.fM T.vV jM ?_ ?_;walk_at"in"
 . obtain⟨x, h, n, b, rfl, ⟨dx, d, la, lc, fs, fr⟩, hm, h0, h5, b0, b7, q⟩ := h;have hx:=fr.hx;have f1:=fr.F.box;have hd:=fr.hd;have hv:=xV h n;have hk:=tO hm h0 h5;have hcb:gB h n=none->0<=f_ h n/\f_ h n<=4000:=λz=>by
     rcases hk with ⟨_,k1,_⟩ | ⟨b,k,_⟩
     . have h1 := (List.getElem?_eq_some_iff.mp k1).1;have h2:=pC hm;unfold f_
       lia
     . rw[z] at k;cases k
   have dg:=c8.k (k:=.inl n) hd;rw[hv] at dg;walk_at"h";have nd:=jM.nd;refine' aF ?_ ?_;walk_at"f";exact(tH (wm (eL hr) (pv 1) (aV (K:=K) rfl (pv 0))));walk_at"tB";exact aT;walk_at"m";exact(b9 (jl (cC (jj (K:=K) rfl hr.units) (iW (eL hr) (aV (K:=K) rfl (pv 0)) (pv 1) (λ_ _=>rfl)) (pv 2) (cb _)) (gj ao) (gj (aa (dA (Bs T) (hr.mono (by decide)) aX rfl (aa (iW (eL hr) (aV (K:=K) rfl (pv 0)) (pv 1) (λ_ _=>rfl)) (aa (pv 2) ao))) ao))));walk_at"s";symm;refine B0 ?_;refine zA ?_;symm;refine uM (kvs:=aD (bQ h)) hd ?_;rw[hv];unfold wN at q;rcases hk with ⟨hb,k1,k2⟩ | ⟨z,hb,z4,z6⟩
   . rw[hb] at q ⊢;refine⟨true,rfl,?_⟩;rw[if_pos rfl];symm
     with_reducible refine aN hx (fr.F.no "cell_of" (by decide +kernel)) ((jJ T).mono (by decide)) ?_
     symm;refine⟨x,h,n,rfl,⟨dx,d,la,lc,fs,fr⟩,hm,h0,h5,hb,?_⟩;symm;exact pT (mk:=Rw.put) (a:=a) ⟨⟨b0,b7⟩,hcb hb⟩ rfl q
   . rw[hb] at q dg ⊢;have q:∀ l H',ah H H'->cB a H H' l (if z=b then [] else [Rw.copy z b])->Q (.ref l) H':=q;refine⟨false,rfl,?_⟩;rw[if_neg aaw];symm
     with_reducible refine kB ?_
     symm;refine⟨d,_,rfl,dg,?_⟩;symm;by_cases e:z=b
     . rw[show(V.bl (decide (V.int z = V.int b))) = V.bl true from by rw[decide_eq_true (by rw[e])]];rw[if_pos e] at q;symm;rename_i l nl;exact q l _ (ag nl) ⟨nl,[],U,aJ.nil⟩
     . rw [show (V.bl (decide (V.int z = V.int b))) = V.bl false from by rw [decide_eq_false (λy => e (V.int.inj y))]];rw [if_neg e] at q;symm
       with_reducible refine kB ?_
       symm;refine⟨d,_,rfl,dg,?_⟩;symm;exact pT (mk:=Rw.copy) (a:=a) ⟨⟨by lia,by lia⟩,b0,b7⟩ rfl q
theorem jk (T:TX):FE 4 "way_complaint" (Mi K a):=by
 refine aR 3 T.rE jd ?_ ?_;walk_at"in"
 . obtain ⟨x, p, l, c, r, e, ev, es, rfl, ⟨dx, hx⟩, ok, hh, he, nn, e0, e4, hs, hl, Sa, hnn, q⟩ := h;obtain ⟨qe,h1,h2⟩:=id he;unfold eG at q;walk_at "h";have nd:=jd.nd;refine' aF ?_ ?_;walk_at "tS";walk_at "c";walk_at "c";walk_at "c";walk_at "n";walk_at "g";exact (Na (K:=K) rfl rfl T.mr (aa (bI (v:=.ref a.g6) rfl T.qM rfl) (aa (aQ (iV T) (hr.mono (by decide)) aX rfl (aa (pv 1) ao)) (aa (aQ (iV T) (hr.mono (by decide)) aX rfl (aa (pv 4) ao)) ao))));walk_at "tG";walk_at "tB";exact λ_=>rfl;walk_at "m";walk_at "tS";walk_at "s";symm;refine ⟨c,l,ev,rfl,av.of hl,?_⟩;rw [Sa.1];by_cases hc : 0<=c/\c<(es.length:Int)
   . rw[decide_eq_true hc];rw[if_pos hc] at q;obtain⟨v,oe,RW,SH,TQ,hv⟩:=Sa.at hc.1 hc.2;rw[SH,Option.join_some] at q;symm;cases oe with
     | none =>
       cases hv
       symm;exact q _ (ah.refl _)
     | some t =>
       obtain⟨pt,rfl,qt,t1,t2⟩:=id hv;have tn:=hnn t TQ;symm;refine aN hx (kl _) ((iy T hh).mono (by decide)) ?_;symm;refine⟨x,e.h,rfl,⟨dx,hx⟩,?_⟩;obtain⟨z,hg⟩:=Option.isSome_iff_exists.mp hs;have q:∀ H',ah H H'->Q (oV (if r.aC e.h=some t.h then cz r e t else some .aC)) H':=q;rw[hg] at q ⊢;show uY K (V.int t.h) (V.int z) _ _;symm;refine jw (λhz=>?_) (λhz=>?_)
       . rw[if_neg (λy=>hz (aap y).symm)] at q;symm;exact q _ (ah.refl _)
       rw[if_pos (by rw[hz])] at q;symm;refine⟨p,e,rfl,he,λta nta=>?_⟩;symm;refine⟨pt,t,rfl,g9.same ⟨qt,t1,t2⟩ (ag nta),λtb ntb=>?_⟩;symm;have sX:ah H (upd (upd H ta (.tup (e.cN.map V.int))) tb (.tup (t.cN.map V.int))):=(ag nta).trans (ag ntb);have ha:az K (upd (upd H ta (.tup (e.cN.map V.int))) tb (.tup (t.cN.map V.int))) ta (e.cN.map V.int):=az.of (ak U ntb);have hb:az K (upd (upd H ta (.tup (e.cN.map V.int))) tb (.tup (t.cN.map V.int))) tb (t.cN.map V.int):=az.of U;clear nta ntb;generalize (upd (upd H ta (.tup (e.cN.map V.int))) tb (.tup (t.cN.map V.int)))=HX at sX ha hb ⊢;refine⟨a.g6,ta,tb,_,_,_,rfl,T.j_ _,ha,hb,?_⟩;unfold cz at q;refine Ho (xs:=[.str "back",.int 4,.int 5,.int 6]) (ys:=e.cN.map V.int) (zs:=t.cN.map V.int) rfl rfl (λi Z H2=>(∃ u1 u2 u3,Z = [some (.ref x),some (.ref p),some (.int c),some (.ref l),some (.ref pt),u1,u2,u3])/\ah HX H2/\(0<i->Bt.wo t.b.toNat (r.keep e.b.toNat e.h)=0)/\(1<i->Bt.wo t.v4.toNat (r.keep e.v4.toNat e.h)=0)/\(2<i->Bt.wo t.v5.toNat (r.keep e.v5.toNat e.h)=0)/\(3<i->Bt.wo t.v6.toNat (r.keep e.v6.toNat e.h)=0)) ⟨⟨_,_,_,rfl⟩,ah.refl _,(λz=>absurd z (by decide)),(λz=>absurd z (by decide)),(λz=>absurd z (by decide)),(λz=>absurd z (by decide))⟩ (λi Z H2 _ ⟨_,s2,_⟩=>⟨T.j_ _,bf s2 ha,bf s2 hb⟩) ?_ ?_
       . rintro i v1 v2 v3 T' Z H2 w1 w2 w3 ⟨⟨u1,u2,u3,rfl⟩,s2,z0,z1,z2,z3⟩ nT;have Sm:=(sX.trans s2) _ _ hx;have h12:=bf (sX.trans s2) h1;have s0:=sX.trans s2;clear sX ha hb t1 t2 h1 h2 hl Sa hv he
         match i,w1,w2,w3 with
         | 0,w1,w2,w3 =>
           cases w1;cases w2;cases w3
           have eb:aaP t.b (aaF ((r.keep e.b.toNat e.h:Nat):Int))=((Bt.wo t.b.toNat (r.keep e.b.toNat e.h):Nat):Int):=by rw[<- ie,abb tn.1]
           symm;refine aN (ak Sm nT) (fX _) ((eQ T hh).mono (by decide)) ?_;symm;refine⟨x,e.b.toNat,e.h,by rw[abb nn.1],⟨dx,ak Sm nT⟩,ok,e0,e4,hs,?_⟩;symm;rw[eb];by_cases hw:Bt.wo t.b.toNat (r.keep e.b.toNat e.h)=0
           . rw[hw, show(((0 : Nat) : Int) != 0) = false from rfl];symm;exact⟨⟨_,_,_,rfl⟩,s2.trans (ag nT),(λ_=>rfl),(λz=>absurd z (by decide)),(λz=>absurd z (by decide)),(λz=>absurd z (by decide))⟩
           . rw[show((((Bt.wo t.b.toNat (r.keep e.b.toNat e.h) : Nat) : Int)) != 0) = true from by simp[hw]];symm;rw[if_pos hw] at q;exact q _ (s0.trans (ag nT))
         | 1,w1,w2,w3 =>
           cases w1;cases w2;cases w3
           have eb:aaP t.v4 (aaF ((r.keep e.v4.toNat e.h:Nat):Int))=((Bt.wo t.v4.toNat (r.keep e.v4.toNat e.h):Nat):Int):=by rw[<- ie,abb tn.2.1]
           symm;refine aN (ak Sm nT) (fX _) ((eQ T hh).mono (by decide)) ?_;symm;refine⟨x,e.v4.toNat,e.h,by rw[abb nn.2.1],⟨dx,ak Sm nT⟩,ok,e0,e4,hs,?_⟩;symm;rw[eb];by_cases hw:Bt.wo t.v4.toNat (r.keep e.v4.toNat e.h)=0
           . rw[hw, show(((0 : Nat) : Int) != 0) = false from rfl];symm;exact⟨⟨_,_,_,rfl⟩,s2.trans (ag nT),(λ_=>z0 (by decide)),(λ_=>rfl),(λz=>absurd z (by decide)),(λz=>absurd z (by decide))⟩
           . rw[show((((Bt.wo t.v4.toNat (r.keep e.v4.toNat e.h) : Nat) : Int)) != 0) = true from by simp[hw]];symm;rw[if_neg (λz=>z (z0 (by decide))),if_pos hw] at q;exact q _ (s0.trans (ag nT))
         | 2,w1,w2,w3 =>
           cases w1;cases w2;cases w3
           have eb:aaP t.v5 (aaF ((r.keep e.v5.toNat e.h:Nat):Int))=((Bt.wo t.v5.toNat (r.keep e.v5.toNat e.h):Nat):Int):=by rw[<- ie,abb tn.2.2.1]
           symm;refine aN (ak Sm nT) (fX _) ((eQ T hh).mono (by decide)) ?_;symm;refine⟨x,e.v5.toNat,e.h,by rw[abb nn.2.2.1],⟨dx,ak Sm nT⟩,ok,e0,e4,hs,?_⟩;symm;rw[eb];by_cases hw:Bt.wo t.v5.toNat (r.keep e.v5.toNat e.h)=0
           . rw[hw, show(((0 : Nat) : Int) != 0) = false from rfl];symm;exact⟨⟨_,_,_,rfl⟩,s2.trans (ag nT),(λ_=>z0 (by decide)),(λ_=>z1 (by decide)),(λ_=>rfl),(λz=>absurd z (by decide))⟩
           . rw[show((((Bt.wo t.v5.toNat (r.keep e.v5.toNat e.h) : Nat) : Int)) != 0) = true from by simp[hw]];symm;rw[if_neg (λz=>z (z0 (by decide))),if_neg (λz=>z (z1 (by decide))),if_pos hw] at q;exact q _ (s0.trans (ag nT))
         | 3,w1,w2,w3 =>
           cases w1;cases w2;cases w3
           have eb:aaP t.v6 (aaF ((r.keep e.v6.toNat e.h:Nat):Int))=((Bt.wo t.v6.toNat (r.keep e.v6.toNat e.h):Nat):Int):=by rw[<- ie,abb tn.2.2.2]
           symm;refine aN (ak Sm nT) (fX _) ((eQ T hh).mono (by decide)) ?_;symm;refine⟨x,e.v6.toNat,e.h,by rw[abb nn.2.2.2],⟨dx,ak Sm nT⟩,ok,e0,e4,hs,?_⟩;symm;rw[eb];by_cases hw:Bt.wo t.v6.toNat (r.keep e.v6.toNat e.h)=0
           . rw[hw, show(((0 : Nat) : Int) != 0) = false from rfl];symm;exact⟨⟨_,_,_,rfl⟩,s2.trans (ag nT),(λ_=>z0 (by decide)),(λ_=>z1 (by decide)),(λ_=>z2 (by decide)),(λ_=>rfl)⟩
           . rw[show((((Bt.wo t.v6.toNat (r.keep e.v6.toNat e.h) : Nat) : Int)) != 0) = true from by simp[hw]];symm;rw[if_neg (λz=>z (z0 (by decide))),if_neg (λz=>z (z1 (by decide))),if_neg (λz=>z (z2 (by decide))),if_pos hw] at q;exact q _ (s0.trans (ag nT))
         | i+4,w1,w2,w3=>simp at w1
       . rintro Z H2 ⟨⟨u1,u2,u3,rfl⟩,s2,z0,z1,z2,z3⟩;have z0:=z0 (by decide);have z1:=z1 (by decide);have z2:=z2 (by decide);have z3:=z3 (by decide);rw[if_neg (λz=>z z0),if_neg (λz=>z z1),if_neg (λz=>z z2),if_neg (λz=>z z3)] at q;symm;exact q _ (sX.trans s2)
   . rw[decide_eq_false hc];rw[if_neg hc] at q;symm;exact q _ (ah.refl _)
theorem Ag (T:TX):FE 4 "places_of" (O1 K a):=by
 refine aR 3 T.yb gn ?_ ?_;walk_at"in"
 . obtain ⟨c, ly, lh, fI, rs, ls, hs, first, rfl, hc, Sb, au, h0, RQ, SN, VH, WI, HO', hf, q⟩ := h;have RM:=Sb.1;have hhl:=HO'.len;walk_at "h";have nd:=gn.nd;refine' aF ?_ ?_;exact (gU (i:=4) gn.nd rfl rfl (own:=["row"]) (fr:=[]) rfl ⟨rfl,(by walk_at "clok"),(by walk_at "frok"),rfl,(by decide +kernel),(by decide +kernel),rfl⟩ (bj (K:=K) rfl (pv 0)) (λ_ _ _ _=>(aM (i:=0) (show aaN [("row" : Str)] from by decide +kernel) rfl (Or.inl rfl))) (λ_ _ _ _=>bh) (λ_ _ _ _=>eT));walk_at "c";walk_at "c";walk_at "n"
   (with_reducible refine' ma ?_ ?_ ?_)
   exact ab0;exact(cC CC (aG D9 rfl T.dm du (aa (pv 5) ao)) aH (cb _));walk_at"n";exact(c9 (i:=6) gn.nd rfl (Or.inl rfl) (ip (CP rfl) rfl T.lL lC (aa (pv 5) ao)));walk_at"c";walk_at"m";walk_at"tS";walk_at"m";walk_at"tS";walk_at"s";ac_rfl;refine bz (K:=K) (a:=c) (xs:=fI.map V.ref) (λi ys Z H1=>(∃ v,Z = [v])/\ah H H1/\ys=(aaL i (none:Option Nat)).map bX) ⟨⟨_,rfl⟩,ah.refl _,rfl⟩ (λi ys Z H1 hi ⟨_,s1,e⟩=>⟨av.of (s1 _ _ hc),by rw[e,aaa,aao,aan];rw[aaa] at hi;lia⟩) ?_ ?_
   . rintro i v ys Z H1 hv ⟨⟨u,rfl⟩,s1,rfl⟩;ac_rfl;exact⟨⟨_,rfl⟩,s1,by rw[List.replicate_succ',aal];rfl⟩
   rintro ys Z H1 ⟨_,s1,rfl⟩ lx S7;rw[aaa,RM];have nlxH:H lx=none:=aB s1 S7
   have R7 : ∀ {ss : List (Option Nat)} {ks : List Nat} {HD : Hp} {dc : Addr} {n p : Nat} {Sq : Nat -> Prop} {R : Hp -> Prop}, PI rs ls hs first ss Sq -> ah H HD -> HD lx = some (.lst (ss.map bX)) -> HD dc = some (.dK (bo ks)) -> ks.Nodup -> H dc = none -> (∀ k ∈ ks, ∃ s, ss[k]? = some (some s)) -> (∃ h, hs[n]? = some (some h)) -> p < 2 ^ 4100 -> (∀ g, Cons rs ls hs first g -> Sub (g n) p) ->
       (∀ R1 Sl HE,PI rs ls hs first R1 (λi=>Sq i∨i∈Sl)->fk ss R1->(∀ (i s:Nat),ss[i]? = some (some s)->R1[i]? = some (some s)∨i∈Sl)->ah H HE->(∀ b o,HD b=some o->b≠lx->b≠dc->HE b=some o)->HE lx=some (.lst (R1.map bX))->HE dc=some (.dK (bo Sl))->Sl.Nodup->(∀ k∈ks,k∈Sl)->(∀ k∈Sl,∃ s,R1[k]? = some (some s))->(∃ s,R1[n]? = some (some s)/\Sub s p)->bN R1<=bN ss->(Sl=ks∨bN R1<bN ss)->R HE) ->
       y0 [.ref lx,.ref dc,.int (n:Int),.int (p:Int)] HD (λ_ HE=>R HE) E0:=by
     intro ss ks HD dc n p Sq R I s2 hx hd S_ Ws hkk hh hp hg qq;have hn:n<ss.length:=by
       obtain⟨h,e⟩:=hh;rw[I.len,<- hhl];exact(List.getElem?_eq_some_iff.mp e).1
     have ho:ss[n]? = some ss[n]:=aac hn;have U9:ks.length<=2000:=by
       have h1:=sr rs.length ks S_ λk hk=>by
         obtain⟨s,e⟩:=hkk k hk;rw[<- I.len];exact(List.getElem?_eq_some_iff.mp e).1
       lia
     refine⟨lx,dc,n,p,ss,ks,ss[n],rfl,hx,hd,by rw[I.len];exact RQ,U9,S_,ho,λe=>?_,λe=>?_⟩
     . refine qq ss ks HD (I.weak λi k => .inl k) (fk.refl _) (λi s e => .inl e) s2 (λb o e _ _ => e) hx hd S_ (λk hk => hk) hkk ⟨iP ss[n] p, by rw[ho, <- e], ?_⟩ (aai _) (.inl rfl);cases ss[n] with
       | none=>exact Sub.refl p
       | some s=>exact Sub.right s p
     . have Wn : lx ≠ dc := λz => by rw [z, hd] at hx; cases hx
       refine qq _ (jb ks n) _ ((I.narrow ho hh hp hg).weak λi k=>?_) (zr ho) (λi s e1=>?_) (λb o e1=>?_) (λb o e1 n1 n2=>by rw[af n2,af n1];exact e1) (by rw[af Wn];exact U) U (JJ S_ n) (λk hk=>by unfold jb;split;exact hk;exact aa5 _ hk) (λk hk=>?_) ⟨_,aaS hn,?_⟩ (adi (Bh ho e hp)) (.inr (Bh ho e hp))
       . rcases k with k | k
         . exact .inl k
         . refine .inr ?_;unfold jb;split
           . rename_i z;rw[k];exact z
           . rw[k];exact aaz _ (List.mem_singleton.mpr rfl)
       . by_cases z:n=i
         . refine .inr ?_;unfold jb;split
           . rename_i z2;rw[<- z];exact z2
           . rw[<- z];exact aaz _ (List.mem_singleton.mpr rfl)
         . exact .inl (by rw[aaT z];exact e1)
       . rw[af (ae e1 Ws),af (ae e1 nlxH)];exact s2 _ _ e1
       . by_cases z:n=k
         . rw[<- z];exact⟨_,aaS hn⟩
         . rw[aaT z];refine hkk k ?_;unfold jb at hk;split at hk
           . exact hk
           . rcases List.mem_append.mp hk with hk | hk
             . exact hk
             . exact absurd (List.mem_singleton.mp hk).symm z
       . cases ss[n] with
         | none=>exact Sub.refl p
         | some s=>exact Sub.right s p
   ac_rfl;rename_i dc Ws;have SD:∀ (i s:Nat),(aaL rs.length (none:Option Nat))[i]? ≠ some (some s):=λi s e=>by rw[abe] at e;split at e <;> cases e
   have I0:PI rs ls hs first (aaL rs.length (none:Option Nat)) (λ_=>False):=⟨aao,λi s e=>absurd e (SD i s),λi s e=>absurd e (SD i s),λi _ s h r e=>absurd e (SD i s),λg _ i s e=>absurd e (SD i s)⟩
   refine R7 (ks:=[]) (n:=0) (p:=first) I0 (s1.trans ((ag S7).trans (ag Ws))) (ak U Ws) U List.nodup_nil (aB s1 (gL Ws).1) (λk hk=>by cases hk) ⟨0,HO'.start⟩ hf (λg cg=>cg.1) λR1 Sl HE I2 _ _ s2 _ Sm SI nd2 _ hkk2 Ve _ _=>?_;have ndcH:H dc=none:=aB s1 (gL Ws).1;clear I0 s1 S7 Ws SD;ac_rfl;refine⟨λj Z HQ=>∃ (ss:List (Option Nat)) (ks:List Nat) (dc:Addr) (u6 u7 u8 u9:Option V),ah H HQ/\Z = [some (.ref c),some (.ref ly),some (.ref lh),some (.int (first:Int)),some (.ref lx),some (.ref dc),u6,u7,u8,u9]/\HQ lx=some (.lst (ss.map bX))/\HQ dc=some (.dK (bo ks))/\ks.Nodup/\H dc=none/\(∀ k∈ks,∃ s,ss[k]? = some (some s))/\PI rs ls hs first ss (λi=>i∈ks)/\(∃ s0,ss[0]? = some (some s0)/\Sub s0 first)/\j=2*bN ss+(if ks=[] then 0 else 1),⟨_,R1,Sl,dc,_,_,_,_,s2,rfl,Sm,SI,nd2,ndcH,hkk2,I2.weak (λi k=>k.resolve_left (λz=>z)),Ve,rfl⟩,?_⟩;clear s2 Sm SI nd2 hkk2 I2 Ve;rintro j Z HQ ⟨ss,ks,dc,u6,u7,u8,u9,s2,rfl,hx,hd,S_,ndc',hkk,I,st,rfl⟩;ac_rfl;refine⟨dc,bo ks,rfl,hd,?_⟩;have U9:=sr rs.length ks S_ λk hk=>by
     obtain⟨s,e⟩:=hkk k hk;rw[<- I.len];exact(List.getElem?_eq_some_iff.mp e).1
   have htl:(bo ks).length=ks.length:=by unfold bo;rw[aaa]
   rw[htl];by_cases hz:ks=[]
   . subst hz;ac_rfl;exact q lx ss HQ s2 nlxH hx ⟨I.weak (λi k=>by cases k),st⟩
   . have Us : 0 < ks.length := List.length_pos_iff.mpr hz;rw [if_neg hz];ac_rfl;refine ⟨_,λZ' H' h=>h,?_⟩;ac_rfl;refine JH hd (DO ks) λlw SR=>?_;ac_rfl;rename_i dn Wr;have Tc:H lw=none:=aB s2 SR;have WT:H dn=none:=aB s2 (gL Wr).1;have nwd:lw≠dn:=λz=>(gL Wr).2 z.symm;have nwx:lw≠lx:=λz=>by rw [z,hx] at SR;cases SR
     have U3:dn≠lx:=λz=>by have:=(gL Wr).1;rw[z,hx] at this;cases this
     have s3:=s2.trans ((ag (o:=.lst ((ks.map λk:Nat=>(k:Int)).map V.int)) SR).trans (ag (o:=.dK []) Wr));have Tw:=ak (o:=.dK []) (ak (o:=.lst ((ks.map λk:Nat=>(k:Int)).map V.int)) hx SR) Wr;have T5:=ak (o:=.dK []) (U (H:=HQ) (a:=lw) (o:=.lst ((ks.map λk:Nat=>(k:Int)).map V.int))) Wr;have VU:(upd (upd HQ lw (.lst ((ks.map λk:Nat=>(k:Int)).map V.int))) dn (.dK [])) dn=some (.dK (bo [])):=U;generalize (upd (upd HQ lw (.lst ((ks.map λk:Nat=>(k:Int)).map V.int))) dn (.dK []))=HF at s3 Tw T5 VU ⊢;clear s2 hx hd Wr SR;refine eS (K:=K) (a:=lw) (xs:=(ks.map λk:Nat=>(k:Int)).map V.int) (λi Z HD=>∃ (R1:List (Option Nat)) (Sl:List Nat) (u7 u8 u9:Option V),ah H HD/\HD lw=some (.lst ((ks.map λk:Nat=>(k:Int)).map V.int))/\Z = [some (.ref c),some (.ref ly),some (.ref lh),some (.int (first:Int)),some (.ref lx),some (.ref dn),some (.ref lw),u7,u8,u9]/\HD lx=some (.lst (R1.map bX))/\HD dn=some (.dK (bo Sl))/\Sl.Nodup/\(∀ k∈Sl,∃ s,R1[k]? = some (some s))/\PI rs ls hs first R1 (λi'=>i'∈Sl∨i'∈ks.drop i)/\fk ss R1/\(∃ s0,R1[0]? = some (some s0)/\Sub s0 first)/\bN R1<=bN ss/\(Sl=[]∨bN R1<bN ss)) ⟨ss,[],_,_,_,s3,T5,rfl,Tw,VU,List.nodup_nil,(λk hk=>by cases hk),I.weak (λi k=>.inr k),fk.refl _,st,aai _,.inl rfl⟩ (λi Z HD _ ⟨_,_,_,_,_,_,e,_⟩=>av.of e) ?_ ?_
     . rintro i v Z HD hv ⟨R1,Sl,u7,u8,u9,s4,hw4,rfl,Sz,Up,Wu,hkk4,I4,le4,st4,tt4,hor4⟩;obtain⟨k,hki,rfl⟩:∃ k:Nat,ks[i]? = some k/\v=.int (k:Int):=by
         rw[aae,aae] at hv;obtain⟨p,hp,e⟩:=Option.map_eq_some_iff.mp hv;obtain⟨k,hk,e2⟩:=Option.map_eq_some_iff.mp hp;exact⟨k,hk,by rw[<- e,<- e2]⟩
       have hil:=(List.getElem?_eq_some_iff.mp hki).1;have hdrop:ks.drop i=k::ks.drop (i+1):=by
         rw[<- (List.getElem?_eq_some_iff.mp hki).2,List.getElem_cons_drop]
       obtain⟨s0',e0'⟩:=hkk k (aad hki);obtain⟨s,hsk,_⟩:=le4 k s0' e0';obtain⟨h,VR⟩:=I4.rd k s hsk;have VA:k<rs.length:=by rw[<- hhl];exact(List.getElem?_eq_some_iff.mp VR).1
       have Tx:rs[k]? = some rs[k]:=aac VA;have WE:fI[k]? = some fI[k]:=aac (by rw[RM];exact VA);have R3:=Sb.2 k _ _ WE Tx;have SE:=au _ (abu VA);generalize rs[k]=r at Tx R3 SE;generalize fI[k]=p0 at WE R3;obtain⟨h',WM,hcl'⟩:=HO'.cl k h r VR Tx;have Vd:=C9 au (HO'.rh k h VR);have UA:=JA (r:=r) SE.1 Vd.1 Vd.2 (I4.bd k s hsk);obtain⟨Sh,W2,W1,W0⟩:=id VH;have WB:Sh[k]? = some Sh[k]:=aac (by rw[W1];exact VA);have Su:=W0 k _ WB;generalize Sh[k]=pw at WB Su;have RW:cI (fI.map V.ref) (k:Int)=some (.ref p0):=cA (by rw[aae,WE];rfl);have hat2:cI (hs.map aO) (k:Int)=some (.int h):=cA (by rw[aae,VR];rfl);have hat3:cI (Sh.map V.ref) (k:Int)=some (.ref pw):=cA (by rw[aae,WB];rfl);have hat4:cI (R1.map bX) (k:Int)=some (.int (s:Int)):=cA (by rw[aae,hsk];rfl);have hc4:=s4 _ _ hc;have Sf:=s4 _ _ WI;have hwl4:=s4 _ _ W2;have hway4:=s4 _ _ Su;have US:=R3.same s4;obtain⟨dx,TC⟩:=id US;ac_rfl;refine aN TC (fX _) ((eQ T SE.2).mono (by decide)) ?_;ac_rfl;refine⟨p0,s,h,rfl,US,SE.1,Vd.1,Vd.2,by rw[WM];rfl,?_⟩;have hcg:∀ g,Cons rs ls hs first g->∀ w∈cj rs ls k,Sub (g w.toNat) (r.keep s h):=λg cg w hw=>((cg.2 k h r VR Tx).1 w hw).trans (HM r h (I4.up g cg k s hsk))
       generalize hkept:r.keep s h=kept at UA hcg ⊢;clear hv Tw T5 VU s3;ac_rfl;refine eS (K:=K) (a:=pw) (xs:=(cj rs ls k).map V.int) (λm Z HE=>∃ (T2:List (Option Nat)) (U4:List Nat) (u9:Option V),ah H HE/\HE lw=some (.lst ((ks.map λk:Nat=>(k:Int)).map V.int))/\Z = [some (.ref c),some (.ref ly),some (.ref lh),some (.int (first:Int)),some (.ref lx),some (.ref dn),some (.ref lw),some (.int (k:Int)),some (.int (kept:Int)),u9]/\HE lx=some (.lst (T2.map bX))/\HE dn=some (.dK (bo U4))/\U4.Nodup/\(∀ k∈U4,∃ s,T2[k]? = some (some s))/\PI rs ls hs first T2 (λi'=>i'∈U4∨i'∈ks.drop i)/\fk R1 T2/\(∀ (i' s':Nat),R1[i']? = some (some s')->T2[i']? = some (some s')∨i'∈U4)/\(∀ w∈(cj rs ls k).take m,∃ s',T2[w.toNat]? = some (some s')/\Sub s' kept)/\bN T2<=bN R1/\(U4=Sl∨bN T2<bN R1)) ⟨R1,Sl,_,s4,hw4,rfl,Sz,Up,Wu,hkk4,I4,fk.refl _,λi' s' e=>.inl e,(λw hw=>by rw[acS] at hw;cases hw),aai _,.inl rfl⟩ (λm Z HE _ ⟨_,_,_,s5,_⟩=>av.of (s5 _ _ Su)) ?_ ?_
       . rintro m v Z HE hv ⟨T2,U4,u9,s5,hw5,rfl,Vh,Vq,nd5,hkk5,I5,le5,un5,cl5,tt5,hor5⟩;obtain⟨w,hxw,rfl⟩:∃ w,(cj rs ls k)[m]? = some w/\v=.int w:=by
           rw[aae] at hv;obtain⟨p,hp,e⟩:=Option.map_eq_some_iff.mp hv;exact⟨p,hp,e.symm⟩
         have hwm:=aad hxw;obtain⟨hw0,hwh⟩:=hcl' w hwm;ac_rfl;rw[show w=((w.toNat:Nat):Int) by lia];refine R7 I5 s5 Vh Vq nd5 WT hkk5 ⟨_,hwh⟩ UA (λg cg=>hcg g cg w hwm) λT1 ks6 HG I6 VG un6 s6 kp6 Uj Uo nd6 TK UM cl6 tt6 UI=>?_;refine⟨T1,ks6,_,s6,kp6 _ _ hw5 nwx nwd,by rw[show((w.toNat:Nat):Int)=w by lia],Uj,Uo,nd6,UM,I6.weak (λi' k'=>?_),le5.trans VG,λi' s' e=>?_,λw' hw'=>?_,aaR tt6 tt5,?_⟩
         . rcases k' with (k' | k') | k'
           . exact .inl (TK _ k')
           . exact .inr k'
           . exact .inl k'
         . rcases un5 i' s' e with e | e
           . exact un6 i' s' e
           . exact .inr (TK _ e)
         . rw[aaI,hxw,aaE] at hw';rcases List.mem_append.mp hw' with hw' | hw'
           . obtain⟨s', e1, e2⟩ := cl5 w' hw';obtain⟨Wi,f1,f2⟩:=VG _ _ e1;exact⟨Wi,f1,f2.trans e2⟩
           . rw[List.mem_singleton.mp hw'];exact cl6
         . rcases UI with e | e
           . rcases hor5 with e2 | e2
             . exact .inl (e.trans e2)
             . exact .inr (by lia)
           . exact .inr (by lia)
       . rintro Z HE ⟨T2,U4,u9,s5,hw5,rfl,Vh,Vq,nd5,hkk5,I5,le5,un5,cl5,tt5,hor5⟩;rw[aaa,aaG] at cl5;have hc5:=s5 _ _ hc;have V7:=R3.same s5;clear hc4 Sf hwl4 hway4 US TC;obtain⟨t',ty1,ty2,_⟩:=lE T SE.2 V7
         have RN : ∀ {T1 : List (Option Nat)} {ks6 : List Nat} {HG : Hp} {u8 u9 : Option V}, PI rs ls hs first T1 (λi' => i' ∈ ks6 ∨ i' ∈ ks.drop i) -> fk T2 T1 -> (∀ (i' s' : Nat), T2[i']? = some (some s') -> T1[i']? = some (some s') ∨ i' ∈ ks6) -> (∀ k' ∈ U4, k' ∈ ks6) -> ah H HG -> HG lw = some (.lst ((ks.map λk : Nat => (k : Int)).map V.int)) -> HG lx = some (.lst (T1.map bX)) -> HG dn = some (.dK (bo ks6)) -> ks6.Nodup -> (∀ k ∈ ks6, ∃ s, T1[k]? = some (some s)) -> bN T1 <= bN T2 -> (ks6 = U4 ∨ bN T1 < bN T2) -> (∀ t, r = .call t -> ∃ s', T1[t.toNat]? = some (some s') /\ Sub s' first) ->
             ∃ (R1:List (Option Nat)) (Sl:List Nat) (u7' u8' u9':Option V),ah H HG/\HG lw=some (.lst ((ks.map λk:Nat=>(k:Int)).map V.int))/\[some (V.ref c),some (.ref ly),some (.ref lh),some (.int (first:Int)),some (.ref lx),some (.ref dn),some (.ref lw),some (.int (k:Int)),u8,u9]=[some (.ref c),some (.ref ly),some (.ref lh),some (.int (first:Int)),some (.ref lx),some (.ref dn),some (.ref lw),u7',u8',u9']/\HG lx=some (.lst (R1.map bX))/\HG dn=some (.dK (bo Sl))/\Sl.Nodup/\(∀ k∈Sl,∃ s,R1[k]? = some (some s))/\PI rs ls hs first R1 (λi'=>i'∈Sl∨i'∈ks.drop (i+1))/\fk ss R1/\(∃ s0,R1[0]? = some (some s0)/\Sub s0 first)/\bN R1<=bN ss/\(Sl=[]∨bN R1<bN ss):=by
           intro T1 ks6 HG u8 u9 I6 VG un6 TK s6 VI Uj Uo nd6 UM tt6 UI tg6;refine⟨T1,ks6,_,_,_,s6,VI,rfl,Uj,Uo,nd6,UM,I6.done (λi' Tz=>?_),(le4.trans le5).trans VG,?_,by lia,?_⟩
           . by_cases z:i'=k
             . subst z;refine .inr λs1 h1 r1 e1 e2 e3=>?_;rw[VR] at e2;cases e2;rw[Tx] at e3;cases e3;have Tp:i' ∉ ks6:=λz=>Tz (.inl z);have e4:T1[i']? = some (some s):=by
                 rcases un5 i' s hsk with e | e
                 . exact(un6 i' s e).resolve_right Tp
                 . exact absurd (TK _ e) Tp
               rw[e4] at e1;cases e1;refine⟨λw hw=>?_,tg6⟩;obtain⟨s',f1,f2⟩:=cl5 w hw;obtain⟨Wi,g1,g2⟩:=VG _ _ f1;exact⟨Wi,g1,by rw[hkept];exact g2.trans f2⟩
             . refine .inl λhp=>Tz ?_;rcases hp with hp | hp
               . exact .inl hp
               . rw[hdrop] at hp;exact .inr ((List.mem_cons.mp hp).resolve_left z)
           . obtain⟨a0, b0, c0⟩ := st4;obtain⟨a1,b1,c1⟩:=(le5.trans VG) _ _ b0;exact⟨a1,b1,c1.trans c0⟩
           . rcases UI with e | e
             . rcases hor5 with e2 | e2
               . rcases hor4 with e3 | e3
                 . exact .inl (by rw[e,e2,e3])
                 . exact .inr (by lia)
               . exact .inr (by lia)
             . exact .inr (by lia)
         ac_rfl;refine eY (λz=>nomatch z) ty1 ty2 ?_;cases hcall:r.isCall with
         | false =>
           ac_rfl;exact RN I5 (fk.refl _) (λi' s' e=>.inl e) (λk' h=>h) s5 hw5 Vh Vq nd5 hkk5 (aai _) (.inl rfl) (λt ht=>by rw[ht] at hcall;cases hcall)
         | true =>
           obtain⟨t,rfl⟩:∃ t,r=.call t:=by
             cases r <;> first | exact⟨_,rfl⟩ | (cases hcall)
           obtain⟨dxD,UQ⟩:=V7;have UQ:HE p0=some (.ins a.bL dxD (aj "target" (.int t) [])):=UQ;obtain⟨ht0,hth⟩:=HO'.tg k h t VR Tx;ac_rfl;rw[show t=((t.toNat:Nat):Int) by lia];refine R7 I5 s5 Vh Vq nd5 WT hkk5 ⟨_,hth⟩ hf (λg cg=>(cg.2 k h (.call t) VR Tx).2 t rfl) λT1 ks6 HG I6 VG un6 s6 kp6 Uj Uo nd6 TK UM cl6 tt6 UI=>?_;refine RN (I6.weak (λi' k'=>?_)) VG un6 TK s6 (kp6 _ _ hw5 nwx nwd) Uj Uo nd6 UM tt6 UI (λt2 Uk=>by cases Uk;exact cl6);rcases k' with (k' | k') | k'
           . exact .inl (TK _ k')
           . exact .inr k'
           . exact .inl k'
     . rintro Z HD ⟨R1,Sl,u7,u8,u9,s4,hw4,rfl,Sz,Up,Wu,hkk4,I4,le4,st4,tt4,hor4⟩;rw [aaa,aaa,List.drop_length] at I4;refine ⟨2*bN R1+(if Sl=[] then 0 else 1),?_,R1,Sl,dn,_,_,_,_,s4,rfl,Sz,Up,Wu,WT,hkk4,I4.weak (λi k=>k.resolve_right (by simp)),st4,rfl⟩;split
       . lia
       . rename_i Tp
         have:=hor4.resolve_left Tp
         lia
theorem sk (T:TX):FE 5 "is_statement" Lj:=by
 refine aR 4 T.um f6 ?_ ?_;walk_at"in"
 . obtain⟨p, h, s, us, rfl, hp, ok, hh, h8, q⟩ := h;obtain⟨q0,q1,q2,q3,q4,q5,q6,q7,q8,q9,q10,VF,q12,C,t0,t1,t2,t3,t4,t5,t6,t7,t8,t9,t10,t11,t12⟩:=T.vC;walk_at"h";have nd:=f6.nd;refine' aF ?_ ?_;walk_at"f";exact(PW.pt (fY (dq (cJ (K:=K) rfl (aG (cf (K:=K) rfl) rfl T.aY aZ (aa (pv 0) (aa (dh (v:=.ty "tuple") rfl T.i8 i6 rfl) ao))))) (fY (cC (jj (K:=K) rfl hr.units) (aG (bK (K:=K) rfl) rfl T.dm du (aa (pv 0) ao)) aH (cb _)) (hW (dq (cJ (K:=K) rfl (aG (cf (K:=K) rfl) rfl T.aY aZ (aa (bt (b_ (K:=K) rfl) (pv 0) aH (λ_ _=>rfl)) (aa (dh (v:=.ty "str") rfl T.OP Om rfl) ao)))))))));walk_at"tB";exact aT;walk_at"n";exact(c9 (i:=2) f6.nd rfl (Or.inl rfl) (Hz (w:=w) (K:=K) rfl rfl (bI (v:=.ref a.pP) rfl T.uW rfl) (bt (b_ (K:=K) rfl) (pv 0) aH (λ_ _=>rfl)) ⟨rfl,rfl,rfl,rfl⟩));walk_at"c";walk_at"n";walk_at"f";exact(dq (cJ (K:=K) rfl (aG (ic (K:=K) rfl rfl) rfl T.pD pV (aa (bB (own:=["part","kind"]) (fr:=[("handed",1)]) rfl ⟨rfl,(by walk_at"clok"),(by walk_at"frok"),rfl,(by decide +kernel),(by decide +kernel),rfl⟩ (nR (K:=K) rfl rfl T.mr (aa (rZ (HU (K:=K) rfl) (pv 0) (vF aH) vm) (aa (pv 2) ao))) (λ_ _ _ _=>(fb (K:=K) (n:=2) rfl rfl (bR (aM (i:=0) (show aaN [("part" : Str),("kind" : Str),("handed" : Str)] from by decide +kernel) rfl (Or.inl rfl)) (bR (aM (i:=1) (show aaN [("part" : Str),("kind" : Str),("handed" : Str)] from by decide +kernel) rfl (Or.inl rfl)) eZ)))) (λ_ _ _ _=>bh) (λ_ _ _ _=>(aQ (Cg T) (hr.mono (by decide)) aX rfl (aa (pv 0) (aa (pv 1) (aa (aG (bK (K:=K) rfl) rfl T.dm du (aa (pv 2) ao)) ao)))))) ao))));walk_at"tB";exact aT;walk_at"n";walk_at"f";walk_at"tT";walk_at"m";exact bp;exact aT;walk_at"m";walk_at"tS";walk_at"s";cases s with
   | set x =>
     have hp:H p=some (.tup [.str "set",.int x,.int 7]):=hp;symm;refine⟨_,_,rfl,C,?_⟩;symm;refine⟨_,.ref q0,rfl,rfl,?_⟩;symm;refine pf (t0 _) ?_;symm;refine xW (az.of hp) (λz=>adk (show(1:Nat)=0 from z.1)) λls Tu=>?_;rw[show cE [.str "set",.int x,.int 7] (some 1) none=[V.int x,V.int 7] from rfl];symm;refine⟨ls,q0,_,_,rfl,az.of U,t0 _,?_⟩;refine oa (α:=Int×Str) (xs:=[(x,("name" : Str)),(7,("value" : Str))]) (e1:=λp=>.int p.1) (e2:=λp=>.str p.2) (λp=>.bl (nU p)) (λZ=>∃ u v,Z = [u,v,some (.ref h)]) (az.of U) (t0 _) (by walk_at"small") ⟨_,_,rfl⟩ ?_ ?_
     . rintro i ⟨zz,k⟩ ys Z H1 T hx cc s1 ⟨u,v',rfl⟩ nT;have au:k = "name"∨(k = "value"/\zz=7):=by
         have hm:=aad hx;simp only[aaX,aa0,or_false,adn] at hm;rcases hm with ⟨rfl,rfl⟩ | ⟨rfl,rfl⟩
         . exact .inl rfl
         . exact .inr ⟨rfl,rfl⟩
       refine eV (az.of U) rfl ?_;have Tr:=s1 _ _ (ak (o:=.tup [V.int x,V.int 7]) hh Tu);symm;rcases au with rfl | ⟨rfl,rfl⟩
       . refine⟨zz,_,_,rfl,.inl ⟨rfl,?_⟩⟩;symm;exact cc.next hx rfl (by walk_at"same") ⟨_,_,rfl⟩
       . refine⟨_,_,_,rfl,.inr ⟨rfl,rfl,?_⟩⟩;symm;exact cc.next hx rfl (by walk_at"same") ⟨_,_,rfl⟩
     intro H1 s1 l2 Uh;have R8:=ak (o:=.lst ([(x,("name" : Str)),(7,("value" : Str))].map λp=>V.bl (nU p))) (s1 _ _ (ak (o:=.tup [V.int x,V.int 7]) hp Tu)) Uh;have s2:ah H (upd H1 l2 (.lst ([(x,("name" : Str)),(7,("value" : Str))].map λp=>V.bl (nU p)))):=(ag Tu).trans (s1.trans (ag Uh));symm;refine l0 (bs:=[(x,("name" : Str)),(7,("value" : Str))].map nU) (av.of U) ?_;rw[show([(x,("name" : Str)),(7,("value" : Str))].map nU).all id=true from by
       show((("name" : Str) == "value" || (decide (0<=x) && decide (x<=5))) && (nU (7,"value") && true))=true;rw[decide_eq_true ok.1,decide_eq_true ok.2];decide +kernel]
     clear Tu Uh s1;symm;exact q _ s2
   | give x =>
     have hp:H p=some (.tup [.str "give",.int x]):=hp;symm;refine⟨_,_,rfl,C,?_⟩;symm;refine⟨_,.ref VF,rfl,rfl,?_⟩;symm;refine pf (t11 _) ?_;symm;refine xW (az.of hp) (λz=>adk (show(1:Nat)=0 from z.1)) λls Tu=>?_;rw[show cE [.str "give",.int x] (some 1) none=[V.int x] from rfl];symm;refine⟨ls,VF,_,_,rfl,az.of U,t11 _,?_⟩;refine oa (α:=Int×Str) (xs:=[(x,("name" : Str))]) (e1:=λp=>.int p.1) (e2:=λp=>.str p.2) (λp=>.bl (nU p)) (λZ=>∃ u v,Z = [u,v,some (.ref h)]) (az.of U) (t11 _) (by walk_at"small") ⟨_,_,rfl⟩ ?_ ?_
     . rintro i ⟨zz,k⟩ ys Z H1 T hx cc s1 ⟨u,v',rfl⟩ nT;have au:k = "name"∨(k = "value"/\zz=7):=by
         have hm:=aad hx;simp only[aaX,aa0,or_false,adn] at hm;obtain⟨rfl,rfl⟩:=hm;exact .inl rfl
       refine eV (az.of U) rfl ?_;have Tr:=s1 _ _ (ak (o:=.tup [V.int x]) hh Tu);symm;rcases au with rfl | ⟨rfl,rfl⟩
       . refine⟨zz,_,_,rfl,.inl ⟨rfl,?_⟩⟩;symm;exact cc.next hx rfl (by walk_at"same") ⟨_,_,rfl⟩
       . refine⟨_,_,_,rfl,.inr ⟨rfl,rfl,?_⟩⟩;symm;exact cc.next hx rfl (by walk_at"same") ⟨_,_,rfl⟩
     intro H1 s1 l2 Uh;have R8:=ak (o:=.lst ([(x,("name" : Str))].map λp=>V.bl (nU p))) (s1 _ _ (ak (o:=.tup [V.int x]) hp Tu)) Uh;have s2:ah H (upd H1 l2 (.lst ([(x,("name" : Str))].map λp=>V.bl (nU p)))):=(ag Tu).trans (s1.trans (ag Uh));symm;refine l0 (bs:=[(x,("name" : Str))].map nU) (av.of U) ?_;rw[show([(x,("name" : Str))].map nU).all id=decide (x<=5) from by
       show((("name" : Str) == "value" || (decide (0<=x) && decide (x<=5))) && true)=_;rw[decide_eq_true (show 0<=x from ok),abi,adB,show((("name" : Str) == "value")=false) from by decide +kernel,abC]]
     clear Tu Uh s1;have q:∀ H2,ah H H2->Q (.bl (decide (x<=5))) H2:=q;cases hb:decide (x<=5) with
     | true =>
       rw[hb] at q;symm;exact q _ s2
     | false =>
       rw[hb] at q;symm;exact q _ s2
   | leave=>exact ok.elim
theorem yq (T:TX):FE 5 "are_homes" Dr:=by
 refine aR 4 T.yY og ?_ ?_;walk_at"in"
 . obtain ⟨w', n, rfl, h⟩ := h;walk_at "h";have nd:=og.nd;refine' cv ?_;exact (b9 (fA (aG (cf (K:=K) rfl) rfl T.aY aZ (aa (pv 0) (aa (dh (v:=.ty "list") rfl T.lL lC rfl) ao))) (fA (gZ (jj (K:=K) rfl hr.units) (aG (bK (K:=K) rfl) rfl T.dm du (aa (pv 0) ao)) (pv 1) (cb _)) (ib (aG (ic (K:=K) rfl rfl) rfl T.pD pV (aa (bB (own:=["home"]) (fr:=[]) rfl ⟨rfl,(by walk_at "clok"),(by walk_at "frok"),rfl,(by decide +kernel),(by decide +kernel),rfl⟩ (bj (K:=K) rfl (pv 0)) (λ_ _ _ _=>(aM (i:=0) (show aaN [("home" : Str)] from by decide +kernel) rfl (Or.inl rfl))) (λ_ _ _ _=>bh) (λ_ _ _ _=>(aQ (Cy T) (hr.mono (by decide)) aX rfl (aa (pv 0) ao)))) ao))))));walk_at "s";rcases h with ⟨us,hw,q⟩ | ⟨hv,bs,hw,hb,h8,q⟩
   . symm;exact q
   . have hlb := hb.1;symm;rw[hlb];by_cases e:(bs.length:Int)=n
     . rw [show (V.bl (decide (V.int (bs.length : Int) = V.int n))) = V.bl true from by rw [decide_eq_true (by rw [e])]];rw [decide_eq_true e,abi] at q;symm;refine bz (xs:=hv) (λi ys Z H1=>(∃ v,Z = [v])/\ah H H1/\ys=(bs.take i).map V.bl) ⟨⟨_,rfl⟩,ah.refl _,rfl⟩ ?_ ?_ ?_
       . rintro i ys Z H1 hi ⟨_,s1,rfl⟩;exact⟨av.of (s1 _ _ hw),by rw[aaa,aaC,aan];lia⟩
       . rintro i v ys Z H1 hx ⟨⟨v1,rfl⟩,s1,rfl⟩;obtain⟨b,hbi,hh⟩:=hb.2 i v hx;symm;refine⟨v,b,rfl,hh.same s1,λH2 s2=>?_⟩;refine⟨⟨_,rfl⟩,s1.trans s2,?_⟩;rw[aaI,hbi,aaE,aal];rfl
       rintro ys Z H1 ⟨_,s1,rfl⟩ l1 Vg;rw[hlb,aaG];symm;refine l0 (bs:=bs) (av.of U) ?_;exact q _ (s1.trans (ag Vg))
     . rw[show(V.bl (decide (V.int (bs.length : Int) = V.int n))) = V.bl false from by rw[decide_eq_false (λz => e (V.int.inj z))]];rw[decide_eq_false e,abj] at q;symm;exact q _ (ah.refl _)
theorem vD (T:TX):ME 5 a.aU "begun" (Kg a):=by
 refine aK 4 T.fM T.xB ku ?_ ?_;walk_at"in"
 . obtain ⟨x, h, k, rfl, ⟨dx, d, la, lc, fs, fr⟩, hm, k3, q⟩ := h;have hx:=fr.hx;have f1:=fr.F.away;have f2:=fr.F.many;have f3:=fr.F.box;have ha:=fr.ha;have hd:=fr.hd;obtain ⟨hab,hal,hbb⟩:=uI hm;walk_at "h";have nd:=ku.nd;refine' aF ?_ ?_;walk_at "tS";walk_at "n";exact (cL (ei (K:=K) rfl aaM aa7 aa6 dZ (pv 2) (aa (bB (own:=["cell","box"]) (fr:=[]) rfl ⟨rfl,(by walk_at "clok"),(by walk_at "frok"),rfl,(by decide +kernel),(by decide +kernel),rfl⟩ (rC (K:=K) rfl rfl T.kg (aa (aV (K:=K) rfl (pv 0)) ao)) (λ_ _ _ _=>(fb (K:=K) (n:=2) rfl rfl (bR (aM (i:=0) (show aaN [("cell" : Str),("box" : Str)] from by decide +kernel) rfl (Or.inl rfl)) (bR (aM (i:=1) (show aaN [("cell" : Str),("box" : Str)] from by decide +kernel) rfl (Or.inl rfl)) eZ)))) (λ_ _ _ _=>bh) (λ_ _ _ _=>(dA (DH T) (hr.mono (by decide)) aX rfl (aa (pv 1) (aa (pv 0) ao))))) ao)));walk_at "n";walk_at "g";walk_at "tI";walk_at "tG";walk_at "m";exact (cL (ei (K:=K) rfl aaM aa7 aa6 dZ (pv 2) (aa (fK (P:=P) (w:=w) (K:=K) (mg:=mg) (base:=base) (k:=4) ⟨rfl,rfl,rfl,rfl,rfl⟩ (pv 0) (hr.mono (by decide)) aX (aa (pv 3) (aa (pv 3) ao))) ao)));exact λ_=>rfl;walk_at "n";exact (BL (cL (ei (K:=K) rfl aaM aa7 aa6 dZ (pv 2) (aa (bB (own:=["name","box"]) (fr:=[("handed",1)]) rfl ⟨rfl,(by walk_at "clok"),(by walk_at "frok"),rfl,(by decide +kernel),(by decide +kernel),rfl⟩ (zh (aV (K:=K) rfl (pv 0))) (λ_ _ _ _=>(fb (K:=K) (n:=2) rfl rfl (bR (aM (i:=0) (show aaN [("name" : Str),("box" : Str),("handed" : Str)] from by decide +kernel) rfl (Or.inl rfl)) (bR (aM (i:=1) (show aaN [("name" : Str),("box" : Str),("handed" : Str)] from by decide +kernel) rfl (Or.inl rfl)) eZ)))) (λ_ _ _ _=>(i9 (cC CD (pv 0) (pv 2) (cb _)))) (λ_ _ _ _=>(dA (DR T) (hr.mono (by decide)) aX rfl (aa (pv 1) (aa aH ao))))) ao))));walk_at "m";walk_at "tS";walk_at "s";symm;intro r0 T9 m0 g0 _;refine ⟨r0,T9,_,rfl,⟨by decide,by decide⟩,U,λH0 kp T8=>⟨rfl,?_⟩⟩;have s0:ah H H0:=λb o e=>kp b o (by rw [af (ae e m0),af (ae e g0)];exact e) (ae e m0);have w0:br a H0 r0 (.grow 7):=⟨T9,T8⟩
   clear kp T8 m0 g0;symm;rename_i l nl;have B1:BG a H (upd H0 l (.lst [.ref r0])) l [.grow 7]:=⟨aB s0 nl,s0.trans (ag nl),[r0],U,aJ.nil.snoc (w0.same (ag nl))⟩
   generalize (upd H0 l (.lst [.ref r0]))=H1 at B1 ⊢;clear s0 w0 nl;have Sj:=B1.2.1 _ _ hx;have ha1:=B1.2.1 _ _ ha
   with_reducible refine vP ?_
   symm;refine⟨la,_,rfl,av.of ha1,?_⟩;refine tP (xs:=(aA h).map V.int) (λi ys Z H2=>(∃ u v,Z = [u,v])/\ah H1 H2/\∃ fI:List Addr,ys=fI.map V.ref/\aJ a H2 fI (cy .put 0 ((aA h).take i))) ⟨⟨_,_,rfl⟩,ah.refl _,[],rfl,aJ.nil⟩ ?_ ?_ ?_
   . rintro i ys Z H2 hi ⟨_,s2,fI,rfl,hr⟩;have R8:=hr.1;rw[cO,aaC] at R8;exact⟨av.of (s2 _ _ ha1),by rw[aaa,R8,aan];lia⟩
   . rintro i v ys T' Z H2 SG ⟨⟨u,v',rfl⟩,s2,fI,rfl,hr⟩ nT;obtain ⟨b,hb,rfl⟩:=int_at SG;obtain ⟨b4,b7⟩:=hab b (aad hb);have hi:i<(aA h).length:=(List.getElem?_eq_some_iff.mp hb).1;rw [oY _ hb];have au:(Rw.put b (i:Int)).ok:=⟨⟨by lia,by lia⟩,by lia,by lia⟩
     refine eV (az.of U) rfl ?_;symm;exact vp (a:=a) au rfl (λp H' s np z=>⟨⟨_,_,rfl⟩,s2.trans ((ag nT).trans s),fI++[p],by rw[aal];rfl,by rw[abT];exact(hr.same ((ag nT).trans s)).snoc z⟩)
   rintro ys Z H2 ⟨_,s2,fI,rfl,hr⟩ le SM;rw[aaa,aaG] at hr;have N2:cB a H1 (upd H2 le (.lst (fI.map V.ref))) le (cy .put 0 (aA h)):=⟨aB s2 SM,fI,U,hr.same (ag SM)⟩
   symm;refine Ia B1 (s2.trans (ag SM)) N2 (by rw[cO];show 1+_<=_;lia) λH3 B3=>?_;clear N2 hr s2 SM B1 Sj ha1;have RM:=cO .put 0 (aA h);symm;rw[aaA];refine fS (λi Z H4=>(∃ u,Z = [some (.ref x),some (.int (k:Int)),some (.ref l),u])/\BG a H H4 l ([Rw.grow 7]++cy .put 0 (aA h)++d7 h i)) ⟨⟨_,rfl⟩,by rw[show d7 h 0=[] from rfl,aaJ];exact B3⟩ ?_ ?_
   . clear B3;rintro i Z H4 hi ⟨⟨u,rfl⟩,B4⟩;have Sz:=B4.2.1 _ _ hx;obtain⟨UE,Tq,_⟩:=B4.2.2;have Vj:=mh h i;have R9:=uL h (i:Int) (i:Int);rw[ab7];symm
     with_reducible refine aN Sz (fr.F.no "stored" (by decide +kernel)) ((jS T).mono (by decide)) ?_
     symm;refine⟨x,h,(i:Int),(i:Int),rfl,⟨dx,d,la,lc,fs,fr.same B4.2.1⟩,hm,by lia,by lia,by lia,by lia,λle H5 s5 N5=>?_⟩;symm;refine Ia B4 s5 N5 (by rw[aab,aab,RM];show 1+_+_+_<=_;lia) λH6 B6=>?_;exact⟨⟨_,rfl⟩,by rw[strs_snoc,<- aaD];exact B6⟩
   . clear B3;rintro Z H4 ⟨⟨u,rfl⟩,B4⟩;have Sz:=B4.2.1 _ _ hx;obtain⟨UE,Tq,hr4⟩:=B4.2.2;have Up:=B4.2.1 _ _ hd
     with_reducible refine(?_:xS _ _ _ _ _)
     refine Ft ?_;symm
     with_reducible refine BN ?_
     symm;refine⟨d,aD (bQ h),rfl,Up,λob=>?_⟩;have ndl:d≠l:=ae hd B4.1;have hlF:(upd H4 d (.cx ob (.dK (aD (bQ h))))) l=some (.lst (UE.map V.ref)):=by rw[af ndl.symm];exact Tq
     have hdF:(upd H4 d (.cx ob (.dK (aD (bQ h))))) d=some (.cx ob (.dK (aD (bQ h)))):=U;have kF:∀ b o,H4 b=some o->b≠d->(upd H4 d (.cx ob (.dK (aD (bQ h))))) b=some o:=λb o e ne=>by rw[af ne];exact e
     generalize (upd H4 d (.cx ob (.dK (aD (bQ h)))))=HF at hlF hdF kF ⊢;have TF:(bQ h).length<=3:=pF [4,5,6] h;have U9:(aD (bQ h)).length=(bQ h).length:=by unfold aD;rw[aaa]
     refine Du (kvs:=aD (bQ h)) (λi ys Z H5=>(∃ u v,Z = [u,v,some (.int (k:Int))])/\ah HF H5/\∃ Sy:List Addr,ys=Sy.map V.ref/\aJ a H5 Sy (gk k ((bQ h).take i))) ⟨⟨_,_,rfl⟩,ah.refl _,[],rfl,aJ.nil⟩ ?_ ?_ ?_
     . rintro i ys Z H5 hi ⟨_,s5,Sy,rfl,hr⟩;have h1:=r9 k ((bQ h).take i);rw[aaC] at h1;exact⟨s5 _ _ hdF,by rw[aaa,hr.1,aan];lia⟩
     . rintro i kk v ys T' Z H5 Uu ⟨⟨u1,u2,rfl⟩,s5,Sy,rfl,hr⟩ nT;obtain ⟨n,b,hp,rfl,rfl⟩:=J1 Uu;obtain ⟨n0,n5,b4,b6⟩:=hbb (n,b) (aad hp);have b4 : 4<=b:=b4;have b6:b<=6:=b6;rw [Es hp];have au:(Rw.set b 0).ok:=⟨⟨by lia,by lia⟩,by decide,by decide⟩
       rw[show kV (Sum.inl n)=V.int n from rfl];refine eV (az.of U) rfl ?_;by_cases hk:(k:Int)<=n
       . rw[if_pos hk];symm;exact vp (a:=a) au rfl (λp H' s np z=>⟨⟨_,_,rfl⟩,s5.trans ((ag nT).trans s),Sy++[p],by rw[aal];rfl,(hr.same ((ag nT).trans s)).snoc z⟩)
       . rw[if_neg hk,aaJ];symm;exact⟨⟨_,_,rfl⟩,s5.trans (ag nT),Sy,rfl,hr.same (ag nT)⟩
     rintro ys Z H5 ⟨_,s5,Sy,rfl,hr⟩ le SM;rw[U9,aaG] at hr;have hql:=hr.1;have Vj:=r9 k (bQ h);have hpl4:=hr4.1;have R8:=cO .put 0 (aA h);have SU:=mh h k;have s6:=s5.trans (ag (o:=.lst (Sy.map V.ref)) SM);have VP:=s6 _ _ hlF;have Uo:=s6 _ _ hdF;have Vn:le≠l:=λz=>by rw[z,s5 _ _ hlF] at SM;cases SM
     have kY:∀ b o,H5 b=some o->b≠d->b≠l->(upd (upd (upd H5 le (.lst (Sy.map V.ref))) l (.lst (UE.map V.ref++Sy.map V.ref))) d (.dK (aD (bQ h)))) b=some o:=λb o e n1 n2=>by
       rw[af n1,af n2,af (ae e SM)];exact e
     have kX:∀ b o,H4 b=some o->b≠d->b≠l->(upd (upd (upd H5 le (.lst (Sy.map V.ref))) l (.lst (UE.map V.ref++Sy.map V.ref))) d (.dK (aD (bQ h)))) b=some o:=λb o e n1 n2=>kY b o (s5 _ _ (kF b o e n1)) n1 n2;have Vq:=s5 _ _ hdF;have hl5:=s5 _ _ hlF;symm;refine jD VP U (by rw[aaa,aaa,hpl4,hql,aab,aab,R8,aan];show 1+_+_+_<=_;lia) ?_;refine(?_:Th _ _ _);refine .inr ⟨d,ob,aD (bQ h),by rw[af ndl];exact Uo,(λu v z=>by have z':H d=some (.cx u v):=z;rw[hd] at z';cases z'),?_⟩;symm;refine q l _ (λb o e=>?_) ⟨B4.1,UE++Sy,by rw[af ndl.symm,U,aal],aJ.app (hr4.to λp hp x e=>?_) (hr.to λp hp x e=>?_)⟩
     . by_cases Vd:b=d
       . subst Vd;rw[hd] at e;rw[U];exact e
       . exact kX b o (B4.2.1 _ _ e) Vd (ae e B4.1)
     . obtain⟨r, _, dx, e2⟩ := hr4.mem hp;exact kX _ _ e (λz=>by rw[z,Up] at e2;cases e2) (λz=>by rw[z,Tq] at e2;cases e2)
     . obtain⟨r, _, dx, e2⟩ := hr.mem hp;exact kY _ _ e (λz=>by rw[z,Vq] at e2;cases e2) (λz=>by rw[z,hl5] at e2;cases e2)
def Pk (H:Hp)(i:Int)(v:V)(o:Int×Option Wt):Prop:=∃ q,v=.ref q/\H q=some (.tup [.int i,.int o.1,oV o.2])
def d6 (H:Hp)(i:Int)(vs:List V)(os:List (Int×Option Wt)):Prop:=vs.length=os.length/\∀ (k:Nat) (o:Int×Option Wt),os[k]? = some o->∃ v,vs[k]? = some v/\Pk H i v o
theorem d6.to {i:Int}{vs:List V}{os:List (Int×Option Wt)}(h:d6 H i vs os)(s:∀ b xs,H b=some (.tup xs)->H' b=some (.tup xs)):d6 H' i vs os:=⟨h.1,λk o e=>let ⟨v,e1,q,e2,e3⟩:=h.2 k o e;⟨v,e1,q,e2,s _ _ e3⟩⟩
theorem d6.same {i:Int}{vs:List V}{os:List (Int×Option Wt)}(h:d6 H i vs os)(s:ah H H'):d6 H' i vs os:=h.to λ_ _ e=>s _ _ e
theorem d6.nil {i:Int}:d6 H i [] []:=⟨rfl,λi c e=>by simp at e⟩
theorem d6.app {i:Int}{vs us:List V}{cs ds:List (Int×Option Wt)}(h:d6 H i vs cs)(k:d6 H i us ds):d6 H i (vs++us) (cs++ds):=by
 refine⟨by rw[aab,aab,h.1,k.1],λj o e=>?_⟩;by_cases hi:j<cs.length
 . rw[aak hi] at e;obtain⟨u,e1,e2⟩:=h.2 j o e;exact⟨u,by rw[aak (by rw[h.1];exact hi)];exact e1,e2⟩
 . rw[aag (by lia)] at e;obtain⟨u,e1,e2⟩:=k.2 _ o e;exact⟨u,by rw[aag (by rw[h.1];lia),h.1];exact e1,e2⟩
theorem d6.one {i:Int}{v:V}{o:Int×Option Wt}(h:Pk H i v o):d6 H i [v] [o]:=⟨rfl,λk c' e=>by
 cases k with
 | zero=>simp at e;subst e;exact⟨v,rfl,h⟩
 | succ k=>simp at e⟩
theorem Fm (h:cX r e=none) : 0<=e.h/\e.h<=4000/\(r.aC e.h).isSome=true:=by
 unfold cX at h;split at h
 . cases h
 . rename_i hw;unfold cH at hw;simp only[Bool.not_eq_true,abW,decide_eq_false_iff_not] at hw;split at h
   . cases h
   . rename_i hg;exact⟨by omega,by omega,by cases hx:r.aC e.h with | none=>exact absurd hx hg | some z=>rfl⟩
theorem H_ (r:Rw)(i:Int):(r.cP i).length<=4000:=by cases r <;> exact aam rfl
theorem Gu (r:Rw)(i:Int):(once (r.cP i)).length<=9:=by
 cases r <;> simp[Rw.cP,once]
 split <;> simp
theorem qg (T:TX):FE 5 "row_complaints" (MN K a):=by
 refine aR 4 T.qd fg ?_ ?_;walk_at"in"
 . obtain ⟨c, l, i, fI, rs, ev, es, rfl, hc, Sb, hl, Sa, E', hi, hre, q⟩ := h;have RM:=Sb.1;have Ul:rs[i]? = some rs[i]:=aac hi;obtain ⟨p,hp⟩:∃ p,fI[i]? = some p:=⟨_,aac (by lia)⟩
   obtain⟨dx,hx⟩:=Sb.2 i p _ hp Ul;obtain⟨ok,hh⟩:=E'.ok _ (abu hi);obtain⟨v,oe,RW,SH,TQ,hv⟩:=Sa.at (c:=(i:Int)) (by lia) (by lia)
   rw[aaA] at SH;have hatp:cI (fI.map V.ref) (i:Int)=some (.ref p):=cA (by rw[aae,hp];rfl);unfold mw at q;rw[Ul,SH,Option.join_some] at q;generalize rs[i]=r at *;walk_at"h";have nd:=fg.nd;refine' aF ?_ ?_;walk_at"tS";walk_at"c";walk_at"c";walk_at"c";walk_at"c";walk_at"n";exact(gU (i:=6) fg.nd rfl rfl (own:=["coming"]) (fr:=[("entries",1),("at",2),("row",3),("entry",4)]) rfl ⟨rfl,(by walk_at"clok"),(by walk_at"frok"),rfl,(by decide +kernel),(by decide +kernel),rfl⟩ (bj (K:=K) rfl (aQ (z_ T) (hr.mono (by decide)) aX rfl (aa (fK (P:=P) (w:=w) (K:=K) (mg:=mg) (base:=base) (k:=1) ⟨rfl,rfl,rfl,rfl,rfl⟩ (pv 3) (hr.mono (by decide)) aX (aa (pv 2) ao)) ao))) (λ_ _ _ _=>(aM (i:=0) (show aaN [("coming" : Str),("entries" : Str),("at" : Str),("row" : Str),("entry" : Str)] from by decide +kernel) rfl (Or.inl rfl))) (λ_ _ _ _=>bh) (λ_ _ _ _=>(iu (aa (pv 2) (aa (pv 0) (aa (aQ (jk T) (hr.mono (by decide)) aX rfl (aa (pv 3) (aa (pv 4) (aa (pv 0) (aa (pv 1) ao))))) ao))))));walk_at"c";walk_at"m";exact(b9 (bB (own:=["complaint"]) (fr:=[]) rfl ⟨rfl,(by walk_at"clok"),(by walk_at"frok"),rfl,(by decide +kernel),(by decide +kernel),rfl⟩ (bj (K:=K) rfl (pv 6)) (λ_ _ _ _=>(aM (i:=0) (show aaN [("complaint" : Str)] from by decide +kernel) rfl (Or.inl rfl))) (λ_ _ _ _=>(i9 (cC lW (bt (b_ (K:=K) rfl) (pv 0) aH (λ_ _=>rfl)) eT (cb _)))) (λ_ _ _ _=>(pv 0))));walk_at"s";symm;cases oe with
   | none =>
     cases hv
     symm;rename_i l1 Vg;exact q l1 [] _ (ag Vg) U bW.nil Vg
   | some e =>
     have q:∀ p us H',ah H H'->H' p=some (.lst us)->bW H' us (rM r e i es)->H p=none->Q (.ref p) H':=q;obtain⟨pe,rfl,he⟩:=id hv;have nn:=E'.nn e TQ;symm;refine⟨p,pe,r,e,rfl,⟨dx,hx⟩,ok,hh,he,λH1 s1=>?_⟩;have Sj:=s1 _ _ hx;have he1:=he.same s1;have hl1:=s1 _ _ hl;have hev1:=Sa.same s1;unfold rM at q;cases ho:cX r e with
     | some w =>
       rw[ho] at q;show cU 5 w.v _ _ _;symm;rename_i t nt l1 Vg;exact q l1 [.ref t] _ (s1.trans (by walk_at"same")) U (bW.one ⟨t,rfl,by walk_at"hlk"⟩) (aB s1 (by walk_at"none"))
     | none =>
       rw[ho] at q;show cU 5 V.ax _ _ _;have hnw : 0<=e.h/\e.h<=4000/\(r.aC e.h).isSome=true:=Fm ho;obtain⟨e0,e4,hs⟩:=hnw;have nl0:∀ b,H1 b=none->H b=none:=λb z=>aB s1 z;symm;refine aN Sj (w9 _) ((qR T hh).mono (by decide)) ?_;symm;refine⟨p,(i:Int),rfl,⟨dx,Sj⟩,λg ng=>?_⟩;symm;refine⟨g,r.cP i,rfl,av.of U,H_ r i,λq1 H2 s2 Tn=>?_⟩;have S2:=(ag (o:=.lst ((r.cP i).map V.int)) ng).trans s2;have n2:∀ b,H2 b=none->H b=none:=λb z=>nl0 b (aB S2 z);have s02:=s1.trans S2;have Sm:=S2 _ _ Sj;have UB:=he1.same S2;have Sk:=S2 _ _ hl1;have hev2:=hev1.same S2;clear S2 s2 ng s1 Sj he1 hl1 hev1 hx hl Sa he hv nl0 hc Sb;symm;have hol:=Gu r i;refine bz (K:=K) (a:=q1) (xs:=(once (r.cP i)).map V.int) (λk ys Z H3=>(∃ u,Z = [u,some (.ref l),some (.int (i:Int)),some (.ref p),some (.ref pe)])/\ah H2 H3/\d6 H3 i ys (((once (r.cP i)).take k).map λc=>(c,eG r e c es))) ⟨⟨_,rfl⟩,ah.refl _,d6.nil⟩ (λk ys Z H3 hk ⟨_,s3,e3⟩=>⟨av.of (s3 _ _ Tn),by have:=e3.1;rw[aaa,aaC] at this;rw[aan];lia⟩) ?_ ?_
       . rintro k v ys Z H3 hk ⟨⟨u,rfl⟩,s3,ho3⟩;obtain⟨cc,hcc,rfl⟩:∃ n,(once (r.cP i))[k]? = some n/\v=.int n:=by
           rw[aae] at hk;obtain⟨p,hp,e⟩:=Option.map_eq_some_iff.mp hk;exact⟨p,hp,e.symm⟩
         symm;refine⟨p,pe,l,cc,r,e,ev,es,rfl,⟨dx,s3 _ _ Sm⟩,ok,hh,UB.same s3,nn,e0,e4,hs,s3 _ _ Sk,hev2.same s3,E'.nn,λH4 s4=>?_⟩;symm;rename_i t nt;refine⟨⟨_,rfl⟩,(s3.trans s4).trans (ag nt),?_⟩;rw[aaI,hcc,aaE,aal];exact((ho3.same s4).same (ag nt)).app (d6.one ⟨t,rfl,U⟩)
       rintro ys Z H3 ⟨_,s3,ho3⟩;rw[aaa,aaG] at ho3;symm;rename_i lf T4;have sn:=s3.trans (ag (o:=.lst ys) T4);have WJ:(upd H3 lf (.lst ys)) lf=some (.lst ys):=U;have ho4:=ho3.same (ag (o:=.lst ys) T4);have n4:H lf=none:=n2 lf (aB s3 T4);clear s3 T4 ho3;generalize upd H3 lf (.lst ys)=H4 at sn WJ ho4 ⊢;have s04:=s02.trans sn;have Sz:=sn _ _ Sm;have Tq:=sn _ _ Sk;have hev4:=hev2.same sn;clear sn s02 Sm UB Sk hev2 Tn n2;have kk:∀ (lf:Addr) (H5:Hp),(∃ us os,ah H H5/\H5 lf=some (.lst us)/\d6 H5 i us os/\os.length<=10/\(os.filterMap λo=>o.2.map λw=>Cm.mk i o.1 w)=((once (r.cP i)).filterMap λc=>(eG r e c es).map λw=>Cm.mk i c w)++rW r i es)->eK (uA K lf) (cU 0) (CW (Bc iS (Bc (Ai K) (Dq 0) (tC (V.int 2))) (tC V.ax))) (Dq 0) (λys H3=>∀ p,H3 p=none->Q (V.ref p) (upd H3 p (HO.lst ys))) [none] H5:=by
         rintro lf H5 ⟨us,os,s5,WJ,ho5,h10,hfm⟩;rw[<- hfm] at q;clear hfm;have hul:=ho5.1;refine bz (K:=K) (a:=lf) (xs:=us) (λk ys Z H6=>(∃ u,Z = [u])/\H6=H5/\bW H5 ys ((os.take k).filterMap λo=>o.2.map λw=>Cm.mk i o.1 w)/\ys.length<=k) ⟨⟨_,rfl⟩,rfl,bW.nil,aai _⟩ (λk ys Z H6 hk ⟨_,e6,_,e7⟩=>⟨by rw[e6];exact av.of WJ,by rw[aan];lia⟩) ?_ ?_
         . rintro k v ys Z H6 hk ⟨⟨u,rfl⟩,rfl,Uq,hyl⟩;have hk2:k<os.length:=by rw [<- hul];exact (List.getElem?_eq_some_iff.mp hk).1
           obtain⟨v',hv',qq,e1,e2⟩:=ho5.2 k _ (aac hk2);rw[hk] at hv';cases hv'
           subst e1;rw[aaI,aac hk2,aaE,adb];generalize os[k]=o at e2 ⊢;obtain⟨cc,ow⟩:=o;symm;cases ow with
           | none =>
             show iS V.ax V.ax _ _;symm;exact⟨⟨_,rfl⟩,rfl,by rw[show List.filterMap (λo:Int×Option Wt=>o.2.map λw=>Cm.mk i o.1 w) [(cc,none)]=[] from rfl,aaJ];exact Uq,by lia⟩
           | some w =>
             show iS w.v V.ax _ _;symm;exact⟨⟨_,rfl⟩,rfl,Uq.app (bW.one (c:=⟨i,cc,w⟩) ⟨qq,rfl,e2⟩),by rw[aab];show _+1<=_+1;lia⟩
         . rintro ys Z H6 ⟨_,rfl,Uq,hyl⟩;rw[hul,aaG] at Uq;intro p1 np1;exact q p1 ys _ (s5.trans (ag np1)) U (Uq.same (ag np1)) (aB s5 np1)
       obtain⟨t',ty,kc,kb⟩:=lE T hh ⟨dx,Sz⟩;cases hC:r.isCall with
       | false =>
         rw[hC] at kc
         with_reducible refine(?_:nZ _ _ _ _)
         refine eY (λz=>by cases z) ty kc ?_;symm;refine kk lf H4 ⟨ys,_,s04,WJ,ho4,by rw[aaa];lia,?_⟩;rw[adD,show rW r i es=[] from(by cases r <;> first | rfl | cases hC),aaJ];rfl
       | true =>
         obtain⟨t,hrt⟩:∃ t,r=.call t:=by cases r <;> first | exact⟨_,rfl⟩ | cases hC
         rw[hC] at kc
         with_reducible refine(?_:nZ _ _ _ _)
         refine eY (b:=true) (λz=>by cases z) ty kc ?_;rw[hrt] at Sz
         change H4 p=some (.ins a.bL dx (aj "target" (.int t) [])) at Sz
         symm;refine⟨p,l,t,ev,es,rfl,⟨dx,Sz⟩,Tq,hev4,λH5 s5=>?_⟩;have hlf5:=s5 _ _ WJ;have ho5:=ho4.same s5;have hyl:ys.length<=10:=by rw[ho4.1,aaa];lia
         symm;rename_i tt Ud;have ho6:=(ho5.same (ag (o:=.tup [.int (i:Int),.int t,oV (dW t es)]) Ud)).app (d6.one (i:=i) (o:=(t,dW t es)) ⟨tt,rfl,U⟩);have kb6:∀ (b:Addr) (xs:List V),(upd H5 tt (.tup [.int (i:Int),.int t,oV (dW t es)])) b=some (.tup xs)->(upd (upd H5 tt (.tup [.int (i:Int),.int t,oV (dW t es)])) lf (.lst (ys++[.ref tt]))) b=some (.tup xs):=λb xs e=>by
           rw[af (λz=>by subst z;rw[ak hlf5 Ud] at e;cases e)];exact e
         have ho7:=ho6.to kb6;have s07:ah H (upd (upd H5 tt (.tup [.int (i:Int),.int t,oV (dW t es)])) lf (.lst (ys++[.ref tt]))):=λb o e=>by
           rw[af (ae e n4)];exact(s04.trans (s5.trans (ag Ud))) b o e
         have hlf7:(upd (upd H5 tt (.tup [.int (i:Int),.int t,oV (dW t es)])) lf (.lst (ys++[.ref tt]))) lf=some (.lst (ys++[.ref tt])):=U;clear kb6 ho6 ho5 hlf5;generalize (upd (upd H5 tt (.tup [.int (i:Int),.int t,oV (dW t es)])) lf (.lst (ys++[.ref tt])))=H7 at ho7 s07 hlf7 ⊢;refine kk lf H7 ⟨_,_,s07,hlf7,ho7,by rw[aab,aaa];show _+1<=10;lia,?_⟩;rw[adb,adD,show rW r i es=((dW t es).map λw=>Cm.mk i t w).toList from by rw[hrt];rfl];show _++(List.filterMap _ [(t,dW t es)])=_++((dW t es).map λw=>Cm.mk i t w).toList;cases dW t es <;> rfl
theorem CI (h:cX r e=none) : 0<=e.h/\e.h<=4000/\(r.aC e.h).isSome=true:=by
 unfold cX at h;split at h
 . cases h
 . rename_i hw;unfold cH at hw;simp only[Bool.not_eq_true,abW,decide_eq_false_iff_not] at hw;split at h
   . cases h
   . rename_i hg;exact⟨by omega,by omega,by cases hx:r.aC e.h with | none=>exact absurd hx hg | some z=>rfl⟩
theorem lP (T:TX):FE 5 "landing_complaint" (JV K a):=by
 refine aR 4 T.lT f7 ?_ ?_;walk_at"in"
 . obtain⟨c, l, i, z, fI, rs, ev, es, rfl, hc, Sb, hl, Sa, E', hre, q⟩ := h;have RM:=Sb.1;unfold hJ at q;walk_at"h";have nd:=f7.nd;walk_at"v";symm;refine⟨i,l,ev,rfl,av.of hl,?_⟩;rw[Sa.1];by_cases Vb : 0<=i/\i<(es.length:Int)
   . rw [decide_eq_true Vb];rw [if_pos Vb] at q;have hi:i.toNat<rs.length:=by omega
     have Ul:rs[i.toNat]? = some rs[i.toNat]:=aac hi;obtain⟨p,hp⟩:∃ p,fI[i.toNat]? = some p:=⟨_,aac (by omega)⟩
     obtain⟨dx,hx⟩:=Sb.2 _ p _ hp Ul;obtain⟨ok,hh⟩:=E'.ok _ (abu hi);obtain⟨v,oe,RW,SH,TQ,hv⟩:=Sa.at Vb.1 Vb.2;have hatp:cI (fI.map V.ref) i=some (.ref p):=by
       rw[show i=((i.toNat:Nat):Int) from by omega];exact cA (by rw[aae,hp];rfl)
     rw[Ul,SH,Option.join_some] at q;generalize rs[i.toNat]=r at *;have q:∀ H',ah H H'->Q (oV (jW r oe z es)) H':=q;unfold jW at q;symm;obtain⟨t',ty,kc,kb⟩:=lE T hh ⟨dx,hx⟩;refine eY (λz=>by cases z) ty kc ?_;cases hC:r.isCall with
     | false =>
       rw[hC] at q;symm;exact q _ (ah.refl _)
     | true =>
       rw[hC] at q;symm;cases oe with
       | none =>
         cases hv
         symm;exact q _ (ah.refl _)
       | some e =>
         have q:∀ H',ah H H'->Q (oV (if (cX r e).isSome=true then none else eG r e z es)) H':=q;obtain⟨pe,rfl,he⟩:=id hv;symm;refine⟨p,pe,r,e,rfl,⟨dx,hx⟩,ok,hh,he,λH1 s1=>?_⟩;cases ho:cX r e with
         | some w =>
           rw[ho] at q;symm;show iS w.v V.ax _ _;symm;exact q _ s1
         | none =>
           rw[ho] at q;obtain⟨e0,e4,hs⟩:=CI ho;have Sj:=s1 _ _ hx;have hc1:=s1 _ _ hc;symm;show iS V.ax V.ax _ _;symm;exact⟨p,pe,l,z,r,e,ev,es,rfl,⟨dx,Sj⟩,ok,hh,he.same s1,E'.nn e TQ,e0,e4,hs,s1 _ _ hl,Sa.same s1,E'.nn,λH2 s2=>q _ (s1.trans s2)⟩
   . rw[decide_eq_false Vb];rw[if_neg Vb] at q;symm;exact q _ (ah.refl _)
theorem xx (T:TX):iI P w K mg base (cS P w) 5 "entries_of" (Mr K a):=by
 refine sm 4 T.xD eu ?_ ?_;walk_at"in"
 . obtain ⟨c, d, fI, rs, ls, rfl, hc, Sb, au, RQ, SN, hd, qe, q⟩ := h;have RM:=Sb.1;walk_at "h";have nd:=eu.nd;refine' aF ?_ ?_;walk_at "x";walk_at "tS";walk_at "n";walk_at "x";exact (c9 (i:=2) eu.nd rfl (Or.inr rfl) (bB (own:=["at"]) (fr:=[("code",0),("landings",1)]) rfl ⟨rfl,(by walk_at "clok"),(by walk_at "frok"),rfl,(by decide +kernel),(by decide +kernel),rfl⟩ (oo rfl T.va (aa (aG (bK (K:=K) rfl) rfl T.dm du (aa (pv 0) ao)) ao)) (λ_ _ _ _=>(aM (i:=0) (show aaN [("at" : Str),("code" : Str),("landings" : Str)] from by decide +kernel) rfl (Or.inl rfl))) (λ_ _ _ _=>bh) (λ_ _ _ _=>(aQ (Ck T) (hr.mono (by decide)) aX rfl (aa (pv 1) (aa (pv 2) (aa (pv 0) ao)))))));walk_at "n";exact (c9 (i:=3) eu.nd rfl (Or.inr rfl) (aQ (xa T) (hr.mono (by decide)) fP rfl (aa (pv 0) (aa (pv 2) ao))));walk_at "n";walk_at "x";exact (gU (i:=4) eu.nd rfl rfl (own:=["first"]) (fr:=[("code",0),("ways",2),("heights",3)]) rfl ⟨rfl,(by walk_at "clok"),(by walk_at "frok"),rfl,(by decide +kernel),(by decide +kernel),rfl⟩ (bj (K:=K) rfl (aQ (iV T) (hr.mono (by decide)) aX rfl (aa (bI (v:=V.ref a.iY) rfl T.kz rfl) ao))) (λ_ _ _ _=>(aM (i:=0) (show aaN [("first" : Str),("code" : Str),("ways" : Str),("heights" : Str)] from by decide +kernel) rfl (Or.inl rfl))) (λ_ _ _ _=>bh) (λ_ _ _ _=>(aQ (Ag T) (hr.mono (by decide)) aX rfl (aa (pv 1) (aa (pv 2) (aa (pv 3) (aa (pv 0) ao)))))));walk_at "n";walk_at "x";walk_at "tS";walk_at "n";walk_at "x";walk_at "g";exact (Mf (K:=K) rfl rfl T.mr (aa (pv 3) (aa (bt (b_ (K:=K) rfl) (pv 4) aH (λ_ _=>rfl)) (aa (bt (b_ (K:=K) rfl) (pv 4) aH (λ_ _=>rfl)) (aa (bt (b_ (K:=K) rfl) (pv 4) aH (λ_ _=>rfl)) (aa (bt (b_ (K:=K) rfl) (pv 4) aH (λ_ _=>rfl)) ao))))));walk_at "tG";walk_at "tB";exact λ_=>rfl;walk_at "m";walk_at "x";walk_at "tS";walk_at "s";ac_rfl;refine dH (av.of hc) ?_;rw [aaa,RM];by_cases hz:rs=[]
   . subst hz;ac_rfl;rename_i l nl;exact q l [] [] _ (ag nl) nl U ⟨rfl,λi oe e=>by simp at e⟩ ⟨rfl,λz=>absurd z (ace 0)⟩
   . have Us : 0 < rs.length := List.length_pos_iff.mpr hz;ac_rfl;refine dH (av.of hc) ?_;rw [aaa,RM];ac_rfl;rw [aaA];refine ux (λi ys Z H1=>(∃ v,Z = [v,some (V.ref c),some (V.ref d)])/\ah H H1/\∃ Sh:List Addr,ys=Sh.map V.ref/\Sh.length=i/\∀ (j:Nat) (p:Addr),Sh[j]? = some p->H1 p=some (.lst ((cj rs ls j).map V.int))) ⟨⟨_,rfl⟩,ah.refl _,[],rfl,rfl,λj p e=>by simp at e⟩ ?_ ?_ ?_
     . rintro i ys Z H1 hi ⟨_,_,Sh,rfl,e,_⟩;rw[aaa,e,aan];lia
     . rintro i ys Z H1 hi ⟨⟨v,rfl⟩,s1,Sh,rfl,hl,hw⟩;ac_rfl;refine ⟨c,d,i,fI,rs,ls,by rw [ab7],s1 _ _ hc,Sb.same s1,au,s1 _ _ hd,SN.1,hi,λp H2 s2 np hp=>?_⟩;refine ⟨⟨_,rfl⟩,s1.trans s2,Sh++[p],by rw [aal];rfl,by rw [aab,hl];rfl,λj p' e=>?_⟩;by_cases hj:j<i
       . rw[aak (by lia)] at e;exact s2 _ _ (hw j p' e)
       . rw[aag (by lia)] at e;cases hjj:j - Sh.length with
         | zero =>
           rw[hjj] at e
           have:p=p':=by simpa using e
           subst this;rw[show j=i by lia];exact hp
         | succ m=>rw[hjj] at e;simp at e
     rintro ys Z H1 ⟨_,s1,Sh,rfl,hl,hw⟩ ly nly;have s2:=s1.trans (ag (o:=.lst (Sh.map V.ref)) nly);have VH:pH (upd H1 ly (.lst (Sh.map V.ref))) ly rs ls:=⟨Sh,U,hl,λi p e=>ak (hw i p e) nly⟩
     generalize (upd H1 ly (.lst (Sh.map V.ref)))=H2 at s2 VH ⊢;clear s1 nly hl hw;obtain⟨Wj,RU,hst2⟩:=T.lB;ac_rfl;refine⟨c,ly,fI,rs,ls,rfl,s2 _ _ hc,Sb.same s2,au,Us,RQ,SN,VH,λhb H' s'=>qe ⟨Us,hb⟩ _ (s2.trans s'),λlh hs H3 s3 T3 WI hO=>?_⟩;have Ti:=s2.trans s3;have hwy3:=VH.same s3;clear s2 VH s3 T3;ac_rfl;refine⟨a.iY,⟨0,128,16,32,64⟩,rfl,⟨Wj,RU _,hst2 _⟩,λtt Ud=>?_⟩;have s4:=Ti.trans (ag (o:=.tup (ady V.int (Ent.mk 0 128 16 32 64).cN)) Ud);have Sf:=ak (o:=.tup (ady V.int (Ent.mk 0 128 16 32 64).cN)) WI Ud;have WW:=hwy3.same (ag (o:=.tup (ady V.int (Ent.mk 0 128 16 32 64).cN)) Ud);have htt:(upd H3 tt (.tup (ady V.int (Ent.mk 0 128 16 32 64).cN))) tt=some (.tup (firstsD.map λf:Nat=>V.int (f:Int))):=U;generalize (upd H3 tt (.tup (ady V.int (Ent.mk 0 128 16 32 64).cN)))=H4 at s4 Sf WW htt ⊢;clear Ud Ti;ac_rfl;refine mx (xs:=firstsD.map λf:Nat=>V.int (f:Int)) (λi ys Z H5=>(∃ v,Z = [v,some (V.ref c),some (V.ref ly),some (V.ref lh)])/\ah H4 H5/\∃ ps:List Addr,ys=ps.map V.ref/\ps.length=i/\∀ (j:Nat) (p:Addr) (f:Nat),ps[j]? = some p->firstsD[j]? = some f->∃ ss,H5 p=some (.lst (ss.map bX))/\kn rs ls hs f ss) ⟨⟨_,rfl⟩,ah.refl _,[],rfl,rfl,λj p f e=>by simp at e⟩ ?_ ?_ ?_
     . rintro i ys Z H5 hi ⟨_,s5,ps,rfl,e,_⟩;refine⟨az.of (s5 _ _ htt),?_⟩
       have:i<=4:=hi
       rw[aaa,e,aan];lia
     . rintro i x ys Z H5 hx ⟨⟨v,rfl⟩,s5,ps,rfl,hl,SV⟩;rw[aae] at hx;obtain⟨f,hf,rfl⟩:=Option.map_eq_some_iff.mp hx;have hfb:f<2 ^ 4100:=by
         have hm:=aad hf
         have:f<=128:=by
           simp only[firstsD,aaX,aa0,or_false] at hm
           lia
         exact aa1 this (by decide)
       have s45:=s4.trans s5;ac_rfl;refine⟨c,ly,lh,fI,rs,ls,hs,f,rfl,s45 _ _ hc,Sb.same s45,au,Us,RQ,SN,WW.same s5,s5 _ _ Sf,hO,hfb,λp ss H6 s6 np hp hP=>?_⟩;refine⟨⟨_,rfl⟩,s5.trans s6,ps++[p],by rw[aal];rfl,by rw[aab,hl];rfl,λj p' f' e ef=>?_⟩;by_cases hj:j<i
       . rw[aak (by lia)] at e;obtain⟨ss',e1,e2⟩:=SV j p' f' e ef;exact⟨ss',s6 _ _ e1,e2⟩
       . rw[aag (by lia)] at e;cases hjj:j - ps.length with
         | zero =>
           rw[hjj] at e
           have:p=p':=by simpa using e
           subst this;obtain rfl:j=i:=by lia
           rw[hf] at ef;cases ef;exact⟨ss,hp,hP⟩
         | succ m=>rw[hjj] at e;simp at e
     rintro ys Z H5 ⟨_,s5,ps,rfl,hl,SV⟩ lf T4;obtain⟨p0,p4,p5,p6,rfl⟩:∃ p0 p4 p5 p6,ps=[p0,p4,p5,p6]:=by
       match ps,hl with
       | [p0,p4,p5,p6],_=>exact⟨_,_,_,_,rfl⟩
     obtain⟨sb,hb,Pb⟩:=SV 0 p0 128 rfl rfl;obtain⟨Wg,h4,P4⟩:=SV 1 p4 16 rfl rfl;obtain⟨Wf,h5,P5⟩:=SV 2 p5 32 rfl rfl;obtain⟨We,h6,P6⟩:=SV 3 p6 64 rfl rfl;have sn:=ag (o:=.lst ([p0,p4,p5,p6].map V.ref)) T4;have WJ:(upd H5 lf (.lst ([p0,p4,p5,p6].map V.ref))) lf=some (.lst [V.ref p0,V.ref p4,V.ref p5,V.ref p6]):=U;have s6:=(s4.trans s5).trans sn;have hlh6:=sn _ _ (s5 _ _ Sf);have hb6:=sn _ _ hb;have h46:=sn _ _ h4;have h56:=sn _ _ h5;have h66:=sn _ _ h6;generalize (upd H5 lf (.lst ([p0,p4,p5,p6].map V.ref)))=H6 at s6 WJ hlh6 hb6 h46 h56 h66 ⊢;clear SV sn hb h4 h5 h6 T4 s5 s4 Sf WW htt hwy3 WI;ac_rfl
     with_reducible refine LX ?_
     ac_rfl;rename_i le SM;have Vn:∀ {b:Addr} {o:HO},H6 b=some o->b≠le:=λe z=>by subst z;rw[SM] at e;cases e
     have sn:=ag (o:=.lst []) SM;refine⟨lh,p0,p4,p5,p6,_,_,_,_,_,rfl,av.of (sn _ _ hlh6),av.of (sn _ _ hb6),av.of (sn _ _ h46),av.of (sn _ _ h56),av.of (sn _ _ h66),?_⟩;have nleH:H le=none:=aB s6 SM;have Bn:=hO.len
     refine G7 (by rw [aaa, aaa, Pb.pi.len, Bn]) (by rw [aaa, aaa, P4.pi.len, Bn]) (by rw [aaa, aaa, P5.pi.len, Bn]) (by rw [aaa, aaa, P6.pi.len, Bn])
       (λi Z HD=>ah H6 HD/\∃ (ev:List V) (u1 u2 u3 u4 u5:Option V),Z = [some (V.ref c),some (V.ref d),some (V.ref ly),some (V.ref lh),some (V.ref lf),some (V.ref le),u1,u2,u3,u4,u5]/\HD le=some (.lst ev)/\mP HD ev ((aaU i).map (d5 hs sb Wg Wf We)))
       ⟨sn,[],_,_,_,_,_,rfl,U,mP.nil⟩ (λi Z HD hi ⟨s,_⟩=>⟨av.of (s _ _ hlh6),av.of (s _ _ hb6),av.of (s _ _ h46),av.of (s _ _ h56),av.of (s _ _ h66)⟩) ?_ ?_
     . rintro i x1 x2 x3 x4 x5 tn Z HD e1 e2 e3 e4 e5 ⟨s,ev,u1,u2,u3,u4,u5,rfl,Sa,hE⟩ nT;rw[aae] at e1 e2 e3 e4 e5;obtain⟨oh,f1,rfl⟩:=Option.map_eq_some_iff.mp e1;obtain⟨ob,f2,rfl⟩:=Option.map_eq_some_iff.mp e2;obtain⟨o4,f3,rfl⟩:=Option.map_eq_some_iff.mp e3;obtain⟨o5,f4,rfl⟩:=Option.map_eq_some_iff.mp e4;obtain⟨o6,f5,rfl⟩:=Option.map_eq_some_iff.mp e5;clear e1 e2 e3 e4 e5;have hi:i<hs.length:=(List.getElem?_eq_some_iff.mp f1).1;have hz:ev.length<aar:=by
         rw[hE.1,aaa,aa4,aan];lia
       have hr:(aaU (i+1)).map (d5 hs sb Wg Wf We)=(aaU i).map (d5 hs sb Wg Wf We)++[d5 hs sb Wg Wf We i]:=by
         rw[ab_,aal];rfl
       have hnT:tn≠le:=λz=>by subst z;rw[Sa] at nT;cases nT
       have UO:(upd HD tn (.tup [aO oh,bX ob,bX o4,bX o5,bX o6])) le=some (.lst ev):=ak Sa nT;have sT:=s.trans (ag (o:=.tup [aO oh,bX ob,bX o4,bX o5,bX o6]) nT);have hET:=hE.to (H':=upd HD tn (.tup [aO oh,bX ob,bX o4,bX o5,bX o6])) (λb xs e=>ak e nT);cases oh with
       | none =>
         have hen:d5 hs sb Wg Wf We i=none:=by unfold d5;rw[f1];rfl
         simp only[aO] at UO sT hET ⊢;ac_rfl;refine rA UO hz ?_;refine⟨lR sT SM,ev++[V.ax],_,_,_,_,_,rfl,U,?_⟩;rw[hr,hen];exact(hET.to (pO UO)).snoc rfl
       | some h =>
         obtain⟨b,g2⟩:=sF hO Pb f1;obtain⟨b4,g3⟩:=sF hO P4 f1;obtain⟨b5,g4⟩:=sF hO P5 f1;obtain⟨b6,g5⟩:=sF hO P6 f1;rw[f2] at g2;rw[f3] at g3;rw[f4] at g4;rw[f5] at g5;cases g2;cases g3;cases g4;cases g5
         have hen:d5 hs sb Wg Wf We i=some ⟨h,b,b4,b5,b6⟩:=by
           unfold d5 gN;rw[f1,f2,f3,f4,f5];rfl
         simp only[aO,bX] at UO sT hET ⊢;ac_rfl;rename_i tq ntq tp ntp;have k1:=ak (o:=.tup [V.int (b4:Int),V.int (b5:Int),V.int (b6:Int)]) UO ntq;have k2:=ak (o:=.tup [V.int h,V.int (b:Int),V.ref tq]) k1 ntp;have s1:=sT.trans ((ag (o:=.tup [V.int (b4:Int),V.int (b5:Int),V.int (b6:Int)]) ntq).trans (ag (o:=.tup [V.int h,V.int (b:Int),V.ref tq]) ntp));refine rA k2 hz ?_;refine⟨lR s1 SM,ev++[V.ref tp],_,_,_,_,_,rfl,U,?_⟩;rw[hr,hen];refine((hET.to (λb xs e=>ak (ak e ntq) ntp)).to (pO k2)).snoc ⟨tp,tq,rfl,pO k2 _ _ U,pO k2 _ _ (ak U ntp)⟩
     . rintro Z HD ⟨s,ev,u1,u2,u3,u4,u5,rfl,Sa,hE⟩;ac_rfl;refine q le ev _ HD (s6.trans s) nleH Sa hE.ents ⟨?_,λ_=>⟨hs,sb,Wg,Wf,We,⟨hO,Pb,P4,P5,P6⟩,λi hi=>?_⟩⟩
       . rw[aaa,aa4,aaa,Bn]
       . rw[aae,acE (by rw[aaa,Bn];exact hi)];rfl
theorem xu (T:TX):FE 5 "plain_rows" (JF a):=by
 refine aR 4 T.xE mR ?_ ?_;walk_at"in"
 . obtain⟨fr, mv, h, x, rfl, hmv, ⟨dx, d, la, lc, fs, fi⟩, hm, ⟨x0, x5⟩, q⟩ := h;have hfx:=fi.hx;have hmv:H mv=some (.tup [.str "set",.int x,.int 7]):=hmv;obtain⟨b0,b7⟩:=Ke hm x0 x5;walk_at"h";have nd:=mR.nd;refine' aF ?_ ?_;walk_at"tS";walk_at"c";walk_at"n";exact bp;walk_at"n";exact bp;walk_at"n";exact bp;walk_at"n";exact bp;walk_at"n";exact bp;walk_at"n";exact bp;walk_at"m";exact bp;walk_at"s";symm
   with_reducible refine aN hfx (fi.F.no "at_hand" (by decide +kernel)) ((rf T).mono (by decide)) ?_
   symm;refine⟨fr,h,x,0,rfl,⟨dx,d,la,lc,fs,fi⟩,?_⟩;symm;intro r0 T9 m0 g0 _;refine⟨r0,T9,_,_,rfl,⟨⟨b0,b7⟩,by decide,by decide⟩,U,λH0 kp T8=>⟨rfl,?_⟩⟩;have s0:ah H H0:=λb o e=>kp b o (by rw[af (ae e m0),af (ae e g0)];exact e) (ae e m0);have w0:br a H0 r0 (.set (iE h x 0) 7):=⟨T9,T8⟩
   have n0:H r0=none:=m0;clear kp T8 m0 g0;symm;rename_i lx S7;obtain⟨s1,N1⟩:=sv s0 w0 S7;generalize (upd H0 lx (.lst [.ref r0]))=H1 at s1 N1 ⊢;clear s0 w0 S7
   with_reducible refine(?_:kE P w K mg base eA 4 _ _ _ _ _ _ _)
   have VB:=s1 _ _ hfx
   with_reducible refine aN VB (fi.F.no "stored" (by decide +kernel)) ((jS T).mono (by decide)) ?_
   symm;refine⟨fr,h,x,iE h x 0,rfl,⟨dx,d,la,lc,fs,fi.same s1⟩,hm,x0,x5,b0,b7,λl2 H2 s2 N2=>?_⟩;have hl:=uL h x (iE h x 0);exact vo s1 N1 s2 N2 (by show 1+_<=_;lia) q
theorem CY (T:TX):FE 5 "settled" (D6 a):=by
 refine aR 4 T.CJ uj ?_ ?_;walk_at"in"
 . obtain⟨p, d, r, pl, rfl, Ux, hh, hd, hk, q⟩ := h;obtain⟨t',ty,kj,kb,kc⟩:=P8 T hh Ux;walk_at"h";have nd:=uj.nd;refine' aF ?_ ?_;walk_at"f";walk_at"tT";walk_at"m";exact(b9 (fK (P:=P) (w:=w) (K:=K) (mg:=mg) (base:=base) (k:=4) ⟨rfl,rfl,rfl,rfl,rfl⟩ (pv 0) (hr.mono (by decide)) aX (aa (dD Fw (iW (eL hr) (pv 1) (aV (K:=K) rfl (pv 0)) (λ_ _=>rfl)) (aV (K:=K) rfl (pv 0))) ao)));exact aT;walk_at"m";walk_at"tS";walk_at"s";cases r with
   | ck t =>
     symm;refine GP ?_;refine eY (b:=true) (λz=>by cases z) ty kj ?_;symm;obtain⟨dx,hx⟩:=Ux
     change H p=some (.ins a.aW dx (aj "target" (.int t) [])) at hx
     obtain⟨n,hn,n0,n2⟩:=hk t rfl;have dg:=c8.k (k:=.inl t) hd;rw[pB pl t,show(pl.find? λp=>decide (p.1=t)).map (·.2)=some n from hn] at dg;have hl:(aj "target" (V.int t) []).lookup ("laid" : Str)=none:=by walk_at"nolk"
     with_reducible refine aN hx hl ((zJ T t).mono (by decide)) ?_
     symm
     with_reducible refine kB ?_
     symm;refine⟨d,_,rfl,dg,?_⟩;symm;refine⟨p,n - t,rfl,⟨dx,hx⟩,by lia,by lia,λp' H' s z=>?_⟩;rw[show t+(n - t)=n from by lia] at z;exact q p' H' s (by show br a H' p' (.ck ((gF pl t).getD 0));rw[hn];exact z)
   | _ =>
     symm;refine GP ?_;refine eY (b:=false) (λz=>by cases z) ty kj ?_;symm;refine GP ?_;refine eY (b:=false) (λz=>by cases z) ty kb ?_;symm;refine eY (b:=false) (λz=>by cases z) ty kc ?_;symm;exact q _ _ (ah.refl _) Ux
theorem qc (T:TX):FE 6 "are_statements" Mp:=by
 refine aR 5 T.qa dC ?_ ?_;walk_at"in"
 . obtain ⟨b, h, ls, bs, us, rfl, hb, SN, au, h4, hh, h8, q⟩ := h;have Vj:=SN.1;walk_at "h";have nd:=dC.nd;refine' aF ?_ ?_;exact (gU (i:=2) dC.nd rfl rfl (own:=["body"]) (fr:=[]) rfl ⟨rfl,(by walk_at "clok"),(by walk_at "frok"),rfl,(by decide +kernel),(by decide +kernel),rfl⟩ (bj (K:=K) rfl (pv 0)) (λ_ _ _ _=>(aM (i:=0) (show aaN [("body" : Str)] from by decide +kernel) rfl (Or.inl rfl))) (λ_ _ _ _=>bh) (λ_ _ _ _=>(iu (aa (pv 0) (aa aH ao)))));walk_at "c";walk_at "n"
   (with_reducible refine' ma ?_ ?_ ?_)
   exact ab0;walk_at"tT";walk_at"n";exact(c9 (i:=4) dC.nd rfl (Or.inr rfl) (Bd (K:=K) rfl aaM PySem.F.slot_list_pop PySem.F.type_list_pop DU (pv 2)));walk_at"c";walk_at"n";walk_at"f";exact(PW.pt (fY (cC CC (pv 3) (bI (v:=.int 80) rfl T.rD.choose_spec ⟨_,rfl⟩) (cb _)) (hW (dq (cJ (K:=K) rfl (aG (ic (K:=K) rfl rfl) rfl T.pD pV (aa (bB (own:=["statement"]) (fr:=[("handed",1)]) rfl ⟨rfl,(by walk_at"clok"),(by walk_at"frok"),rfl,(by decide +kernel),(by decide +kernel),rfl⟩ (bj (K:=K) rfl (bt (b_ (K:=K) rfl) (pv 4) aH (λ_ _=>rfl))) (λ_ _ _ _=>(aM (i:=0) (show aaN [("statement" : Str),("handed" : Str)] from by decide +kernel) rfl (Or.inl rfl))) (λ_ _ _ _=>bh) (λ_ _ _ _=>(aQ (sk T) (hr.mono (by decide)) aX rfl (aa (pv 0) (aa (pv 1) ao))))) ao)))))));walk_at"tB";exact aT;walk_at"m";walk_at"g";walk_at"tI";walk_at"tG";walk_at"c";walk_at"c";walk_at"m";exact(cL (ei (K:=K) rfl aaM aa7 aa6 dZ (pv 2) (aa (bB (own:=["statements"]) (fr:=[("found",4)]) rfl ⟨rfl,(by walk_at"clok"),(by walk_at"frok"),rfl,(by decide +kernel),(by decide +kernel),rfl⟩ (bj (K:=K) rfl (pv 6)) (λ_ _ _ _=>(aM (i:=0) (show aaN [("statements" : Str),("found" : Str)] from by decide +kernel) rfl (Or.inl rfl))) (λ_ _ _ _=>bh) (λ_ _ _ _=>(iu (aa (pv 0) (aa (dD (eR (K:=K) rfl) (bt (b_ (K:=K) rfl) (pv 1) aH (λ_ _=>rfl)) aH) ao))))) ao)));exact λ_=>rfl;walk_at"m";walk_at"tS";walk_at"s";symm;refine bz (xs:=ls.map V.ref) (λi ys Z H1=>(∃ v,Z = [v])/\ah H H1/\∃ ts:List Addr,ys=ts.map V.ref/\bJ (λt l=>H1 t=some (.tup [.ref l,.int 0])) ts (ls.take i)) ⟨⟨_,rfl⟩,ah.refl _,[],rfl,bJ.nil⟩ ?_ ?_ ?_
   . rintro i ys Z H1 hi ⟨_,s1,ts,rfl,hw⟩;refine⟨av.of (s1 _ _ hb),?_⟩;rw[aaa,hw.1,aaC];walk_at"small"
   . rintro i v ys Z H1 hv ⟨⟨u,rfl⟩,s1,ts,rfl,hw⟩;obtain⟨l,hx,rfl⟩:=dG hv;symm;rename_i t nt;refine⟨⟨_,rfl⟩,s1.trans (ag nt),ts++[t],by rw[aal];rfl,?_⟩;rw[aaI,hx,aaE];exact(hw.to λp x e=>ak e nt).snoc U
   rintro ys Z H1 ⟨_,s1,ts,rfl,hw⟩ lw SR;rw[aaa,aaG] at hw;have Tc:H lw=none:=aB s1 SR;symm;have VJ:bJ (λt l=>(upd H1 lw (.lst (ts.map V.ref))) t=some (.tup [.ref l,.int 0])) ts ls:=hw.to λp x e=>ak e SR;have s2:ah H (upd H1 lw (.lst (ts.map V.ref))):=s1.trans (ag SR);have Sk:(upd H1 lw (.lst (ts.map V.ref))) lw=some (.lst (ts.map V.ref)):=U;generalize (upd H1 lw (.lst (ts.map V.ref)))=H2 at VJ s2 Sk ⊢;clear hw SR s1;refine⟨λj Z H3=>ah H H3/\(∃ m u x y,Z = [some (.ref b),some (.ref h),some (.ref lw),some (.int m),u,x,y]/\0<=m/\m+2*j<=8)/\j<=ls.length/\H3 lw=some (.lst ((ts.take j).map V.ref))/\bJ (λt l=>H3 t=some (.tup [.ref l,.int 0])) ts ls/\(bs.drop j).all (λss=>ss.all Sx.b)=true,⟨ls.length,s2,⟨0,_,_,_,rfl,Int.le_refl _,by lia⟩,aai _,by rw[<- VJ.1,aaG];exact Sk,VJ,by rw[Vj,List.drop_length];rfl⟩,?_⟩;have ht4l:ts.length<=4:=by rw[VJ.1,Vj];exact h4
   clear VJ Sk s2;rintro j Z H3 ⟨s3,⟨m,u,x,y,rfl,m0,m8⟩,hj,WL,T5,Ss⟩;ac_rfl;refine dH (av.of WL) ?_;rw[aaa];cases j with
   | zero =>
     ac_rfl;rw[show x9 bs=true from Ss] at q;exact q _ s3
   | succ j =>
     have hjt:j<ts.length:=by rw[T5.1];exact hj
     have ht:ts[j]? = some ts[j]:=aac hjt;obtain⟨l,hx,htl⟩:=T5.at ht;obtain⟨ss,hss,ps,SV,RW⟩:=SN.at hx;generalize ts[j]=t at ht htl;have hso:=au ss (aad hss);have hdr:bs.drop j=ss::bs.drop (j+1):=by
       have hjb:j<bs.length:=(List.getElem?_eq_some_iff.mp hss).1;rw[List.drop_eq_getElem_cons hjb,(List.getElem?_eq_some_iff.mp hss).2]
     rw[aaI,ht,aaE] at WL ⊢;rw[show(List.take j ts++[t]).length=j+1 from by rw[aab,aaC];show min j ts.length+1=_;lia];ac_rfl;refine⟨_,λZ' H' h=>h,?_⟩;ac_rfl;refine IB (xs:=(ts.take j).map V.ref) (y:=.ref t) (by rw[WL,aal];rfl) ?_;have s4:ah H (upd H3 lw (.lst ((ts.take j).map V.ref))):=λb o e=>by rw[af (ae e Tc)];exact s3 _ _ e
     have WR:∀ b xs,H3 b=some (.tup xs)->b≠lw:=λb xs e z=>by rw[z,WL] at e;cases e
     have Tq:(upd H3 lw (.lst ((ts.take j).map V.ref))) lw=some (.lst ((ts.take j).map V.ref)):=U;have hw4:bJ (λt l=>(upd H3 lw (.lst ((ts.take j).map V.ref))) t=some (.tup [.ref l,.int 0])) ts ls:=T5.to λp x e=>by rw[af (WR _ _ e)];exact e
     have ht4:(upd H3 lw (.lst ((ts.take j).map V.ref))) t=some (.tup [.ref l,.int 0]):=by rw[af (WR _ _ htl)];exact htl
     generalize (upd H3 lw (.lst ((ts.take j).map V.ref)))=H4 at s4 Tq hw4 ht4 ⊢;clear s3 WL T5 htl WR;have hl4':=s4 _ _ SV;have RM:=RW.1;have SU:=hso.2;have hh4:=s4 _ _ hh;ac_rfl;refine dH (av.of hl4') ?_;rw[aaa];ac_rfl;refine bz (xs:=ps.map V.ref) (λi ys Z H5=>(∃ v,Z = [v,some (.ref h)])/\ah H4 H5/\ys=(ss.take i).map λs=>V.bl s.b) ⟨⟨_,rfl⟩,ah.refl _,rfl⟩ ?_ ?_ ?_
     . rintro i ys Z H5 hi ⟨_,s5,rfl⟩;exact⟨av.of (s5 _ _ hl4'),by rw[aaa,aaC];walk_at"small"⟩
     . rintro i v ys Z H5 hv ⟨⟨v1,rfl⟩,s5,rfl⟩;obtain⟨p,hp,rfl⟩:=dG hv;obtain⟨s,hs,W7⟩:=RW.at hp;ac_rfl;refine⟨p,h,s,us,rfl,s5 _ _ (s4 _ _ W7),hso.1 s (aad hs),s5 _ _ hh4,h8,λH6 s6=>?_⟩;refine⟨⟨_,rfl⟩,s5.trans s6,?_⟩;rw[aaI,hs,aaE,aal];rfl
     rintro ys Z H5 ⟨_,s5,rfl⟩ lb Ug;rw[aaa,RM,aaG];have s6:=s4.trans (s5.trans (ag (o:=.lst (ss.map λs=>V.bl s.b)) Ug));have VP:=ak (o:=.lst (ss.map λs=>V.bl s.b)) (s5 _ _ Tq) Ug;have ht6:=ak (o:=.lst (ss.map λs=>V.bl s.b)) (s5 _ _ ht4) Ug;have VI:bJ (λt l=>(upd H5 lb (.lst (ss.map λs=>V.bl s.b))) t=some (.tup [.ref l,.int 0])) ts ls:=hw4.to λp x e=>ak (s5 _ _ e) Ug;ac_rfl;refine l0 (bs:=ss.map Sx.b) (by rw[abv];exact av.of U) ?_;generalize (upd H5 lb (.lst (ss.map λs=>V.bl s.b)))=H6 at s6 VP ht6 VI ⊢;clear s5 Ug Tq ht4 hw4 hl4' hh4 s4;rw[show(ss.map Sx.b).all id=ss.all Sx.b from by rw[ab5];rfl];cases hb:ss.all Sx.b with
     | false =>
       ac_rfl;rw[show x9 bs=false from List.all_eq_false.mpr ⟨ss,aad hss,by rw[hb];decide⟩] at q;exact q _ s6
     | true =>
       have hl6':=s6 _ _ SV;ac_rfl;refine eS (K:=K) (a:=l) (xs:=ps.map V.ref) (λi Z H7=>(∃ x y,Z = [some (.ref b),some (.ref h),some (.ref lw),some (.int (m+(ss.length:Int))),some (.ref t),x,y])/\ah H H7/\H7 lw=some (.lst ((ts.take j).map V.ref))/\bJ (λt l=>H7 t=some (.tup [.ref l,.int 0])) ts ls) ⟨⟨_,_,rfl⟩,s6,VP,VI⟩ (λi Z H7 _ ⟨_,s7,_⟩=>av.of (s7 _ _ SV)) ?_ ?_
       . clear s6 VP VI ht6 hl6';rintro i v Z H7 hv ⟨⟨x1,y1,rfl⟩,s7,WK,hw7⟩;obtain ⟨p,hp,rfl⟩:=dG hv;obtain ⟨s,hs,W7⟩:=RW.at hp;have ht7:=hw7.2 j t l ht hx;ac_rfl;refine ⟨p,s,rfl,s7 _ _ W7,hso.1 s (aad hs),λli H8 s8 hli nli=>?_⟩;have VO:=s8 _ _ WK;have ht8:=s8 _ _ ht7;have hw8:bJ (λt l=>H8 t=some (.tup [.ref l,.int 0])) ts ls:=hw7.to λp x e=>s8 _ _ e;have s08:=s7.trans s8;clear s7 s8 WK hw7 ht7 nli;ac_rfl
         with_reducible refine(?_:uV _ _ _ _)
         refine dH (av.of hli) ?_;ac_rfl;refine Eo (av.of hli) ?_;intro l9 nl9;ac_rfl;refine jD (ak VO nl9) U (by rw[aaa,aaC,aan];show min j ts.length+0<=_;lia) ?_;have n8:∀ b xs,H8 b=some (.tup xs)->b≠lw:=λb xs e z=>by rw[z,VO] at e;cases e
         refine⟨⟨_,_,rfl⟩,λb o e=>by rw[af (ae e Tc)];exact(s08.trans (ag nl9)) b o e,by rw[U,aaJ],hw8.to λp x e=>by rw[af (n8 _ _ e)];exact ak e nl9⟩
       . rintro Z H7 ⟨⟨x1,y1,rfl⟩,s7,WK,hw7⟩;exact⟨j,abK _,s7,⟨_,_,_,_,rfl,by lia,by lia⟩,by lia,WK,hw7,by rw[hdr,abB,hb,abi];exact Ss⟩
theorem bW.to {vs:List V}(h:bW H vs cs)(s:∀ b xs,H b=some (.tup xs)->H' b=some (.tup xs)):bW H' vs cs:=⟨h.1,λk o e=>let ⟨v,e1,q,e2,e3⟩:=h.2 k o e;⟨v,e1,q,e2,s _ _ e3⟩⟩
theorem Jt {D PP:Addr->Hp->Prop}{G:Prop}(key:∀ lf H3,D lf H3->PP lf H3)(use:(∀ lf H3,D lf H3->PP lf H3)->G):G:=use key
theorem zI {HX:Hp}{R:Hp->Prop}{b:Addr}(h:ah H HX)(hb:HX b=some (.lst xs))(hc:bW HX xs cs)(k:∀ H9,ah H H9->H9 b=some (.lst xs)->bW H9 xs cs->R H9):R HX:=k HX h hb hc
theorem uZ (h:H l=some (.lst ys))(b:Addr)(xs:List V)(e:H b=some (.tup xs)):(upd H l o) b=some (.tup xs):=by
 rw[af (λz=>by subst z;rw[h] at e;cases e)];exact e
theorem Cp (T:TX):FE 6 "checked" (Ky K a):=by
 refine aR 5 T.De lQ ?_ ?_;walk_at"in"
 . obtain ⟨c, t, fI, rs, ev, es, ls, rfl, hc, Sb, ⟨dt, l, d, ht, hl, hd⟩, Sa, E', S_, h64, q⟩ := h;have RM:=Sb.1;have hel:=Sa.1;have en:=E'.ne;have rn:=E'.nr;unfold yC at ht;walk_at "h";have nd:=lQ.nd;refine' aF ?_ ?_;walk_at "tS";walk_at "c";walk_at "c";walk_at "c";walk_at "n";walk_at "g";walk_at "tI";walk_at "tG";walk_at "m";exact (cL (ei (K:=K) rfl aaM aa7 aa6 dZ (pv 3) (aa (aQ (qg T) (hr.mono (by decide)) aX rfl (aa (pv 0) (aa (pv 2) (aa (pv 4) ao)))) ao)));exact λ_=>rfl;walk_at "n";walk_at "g";exact (bj (K:=K) rfl (aG (Ad rfl) rfl T.Hx GA (aa (aV (K:=K) rfl (pv 1)) ao)));walk_at "tG";walk_at "n";exact (c9 (i:=5) lQ.nd rfl (Or.inl rfl) (iW (eL hr) (aV (K:=K) rfl (pv 1)) (pv 4) (λ_ _=>rfl)));walk_at "c";walk_at "m";walk_at "tS";exact λ_=>rfl;walk_at "m";walk_at "tS";walk_at "s";symm;rw [show (ady V.ref fI).length=rs.length from by rw [aaa,RM]];refine jw (λhh=>?_) (λhh=>?_)
   . symm;rename_i t1 U1 l1 Vg;have hck:dU rs es ls []=[⟨-1,-1,.length⟩]:=by unfold dU;rw [if_neg (by lia)]
     exact q l1 [.ref t1] [] _ (by walk_at"same") U (λz=>absurd z (by lia)) (by rw[hck];exact bW.one ⟨t1,rfl,by walk_at"hlk"⟩)
   have hre:es.length=rs.length:=by lia
   have hck:∀ ks,dU rs es ls ks=c_ rs es++fB rs es rs.length++ir rs es ls ks:=λks=>by unfold dU;rw[if_pos hre]
   refine' Jt (D:=λlcm H1=>∃ us,H lcm=none/\ah H H1/\H1 lcm=some (.lst us)/\bW H1 us (c_ rs es)) (PP:=?PP) ?key (λkk=>?use)
   case use =>
     symm;rename_i lcm U2;refine fH (λh1=>?_) (λh1=>?_)
     . have h1' : 0 < rs.length := by rw [aaa] at h1; lia
       obtain⟨v,oe,RW,SH,TQ,hv⟩:=Sa.at (c:=0) (Int.le_refl _) (by lia)
       obtain⟨qs,st1,Ve⟩:=T.lB;symm;refine NM oe jZ (hv.same (ag U2)).dp (y8 (st1 _) (Ve _)) ?_;have SH:es[0]? = some oe:=SH;have RU:c_ rs es=if jz oe jZ=true then [] else [⟨-1,0,.start⟩]:=by unfold c_;rw[if_pos h1',SH];rfl
       cases hb:jz oe jZ with
       | true =>
         rw[hb,if_pos rfl] at RU;ac_rfl;refine dH (av.of (by walk_at"hlk")) ?_;clear h1 h1' RW SH;symm;refine zI (H:=H) (b:=lcm) (cs:=c_ rs es) (by walk_at"same") U (by rw[RU];exact bW.nil) (λH9 s9 hb9 hc9=>?_);exact kk lcm H9 ⟨_,U2,s9,hb9,hc9⟩
       | false =>
         rw[hb,if_neg (by decide)] at RU;ac_rfl;rename_i t1 U1;refine dH (av.of (by walk_at"hlk")) ?_;clear h1 h1' RW SH;symm;refine zI (H:=H) (b:=lcm) (cs:=c_ rs es) (by walk_at"same") U ?_ (λH9 s9 hb9 hc9=>?_)
         . rw[RU];exact(bW.one ⟨t1,rfl,U⟩).to (uZ (by walk_at"hlk"))
         . exact kk lcm H9 ⟨_,U2,s9,hb9,hc9⟩
     . have RU : c_ rs es = [] := by unfold c_; rw [if_neg (by rw [aaa] at h1; lia)]
       symm;refine zI (H:=H) (b:=lcm) (cs:=c_ rs es) (by walk_at"same") U (by rw[RU];exact bW.nil) (λH9 s9 hb9 hc9=>?_);exact kk lcm H9 ⟨_,U2,s9,hb9,hc9⟩
   case key =>
     rintro lcm H1 ⟨us,U2,s1,hlc,Uq⟩;have sf:=CO rs es;refine fS (λi Z H2=>(∃ u1 u2 u3,Z = [some (.ref c),some (.ref t),some (.ref l),some (.ref lcm),u1,u2,u3])/\ah H H2/\∃ us,H2 lcm=some (.lst us)/\bW H2 us (c_ rs es++fB rs es i)) ⟨⟨_,_,_,rfl⟩,s1,us,hlc,by rw[show fB rs es 0=[] from rfl,aaJ];exact Uq⟩ ?_ ?_
     . rintro i Z H2 hi ⟨⟨u1,u2,u3,rfl⟩,s2,us2,UK,TU⟩;rw[aaa] at hi;clear s1 hlc Uq;symm;refine⟨c,l,i,fI,rs,ev,es,by rw[ab7],s2 _ _ hc,Sb.same s2,s2 _ _ hl,Sa.same s2,E',by lia,hre.symm,λp1 us1 H3 s3 R8 hcm3 np1=>?_⟩;have hlc3:=s3 _ _ UK;have hcl2:=TU.1;have hcl3:=hcm3.1;have f1:=mj rs es i;have f2:=wL rs es i;rw[aab] at hcl2;symm;refine jD hlc3 R8 (by rw[aan];lia) ?_;refine⟨⟨_,_,_,rfl⟩,λb o e=>by rw[af (ae e U2)];exact(s2.trans s3) b o e,_,U,?_⟩;rw[qO,<- aaD];exact((TU.same s3).app hcm3).to (uZ hlc3)
     rintro Z H2 ⟨⟨u1,u2,u3,rfl⟩,s2,us2,UK,TU⟩;rw[show(((ady V.ref fI).length:Nat):Int).toNat=rs.length from by rw[aaa,RM];lia] at TU;clear s1 hlc Uq;have Uk:=s2 _ _ ht;have SI:=s2 _ _ hd;have f1:=mj rs es rs.length;symm;refine Jy SI (EI ls) (by rw[aaa];exact h64) λks pp UU hpw hpp=>?_;have U9:ks.length<64:=by rw[UU.length_eq,aaa];exact h64
     symm;refine eS (K:=K) (a:=pp) (xs:=ks.map V.int) (λi Z H4=>(∃ u1 u2 u3,Z = [some (.ref c),some (.ref t),some (.ref l),some (.ref lcm),u1,u2,u3])/\ah H H4/\H4 pp=some (.lst (ks.map V.int))/\∃ us,H4 lcm=some (.lst us)/\us.length<=21000+i/\bW H4 us (c_ rs es++fB rs es rs.length++ir rs es ls (ks.take i))) ⟨⟨_,_,_,rfl⟩,s2.trans (ag hpp),U,us2,ak UK hpp,by rw[TU.1,aab];lia,by rw[acS,show ir rs es ls []=[] from rfl,aaJ];exact TU.same (ag hpp)⟩ (λi Z H4 _ ⟨_,_,h4,_⟩=>av.of h4) ?_ ?_
     . rintro i v Z H4 hvi ⟨⟨u1,u2,u3,rfl⟩,s4,hpp4,us4,hlc4,hul4,hcm4⟩;obtain⟨k,hk,rfl⟩:∃ n,ks[i]? = some n/\v=.int n:=by
         rw[aae] at hvi;obtain⟨p,hp,e⟩:=Option.map_eq_some_iff.mp hvi;exact⟨p,hp,e.symm⟩
       have hi:i<ks.length:=(List.getElem?_eq_some_iff.mp hk).1;obtain⟨kv,Uu,hke⟩:=List.mem_map.mp (UU.mem_iff.mp (aad hk));obtain⟨VL,hv2⟩:=rY S_ kv Uu;rw[hke] at VL hv2;rw[<- hv2] at VL;have ht4:=s4 _ _ ht;have Up:=s4 _ _ hd;have hnp:pp≠lcm:=λz=>by rw[z] at hpp;rw[UK] at hpp;cases hpp
       clear Uk SI UK TU s2;have htk:ir rs es ls (ks.take (i+1))=ir rs es ls (ks.take i)++((hJ rs es k (lv ls k)).map λw=>Cm.mk k (lv ls k) w).toList:=by
         unfold ir;rw[aaI,hk,aaE,acF];simp
       rw[htk];symm;refine kB ?_;symm;have dg:=c8.k (k:=.inl k) Up;rw[VL] at dg;refine⟨d,_,rfl,dg,?_⟩;symm;refine⟨c,l,k,lv ls k,fI,rs,ev,es,rfl,s4 _ _ hc,Sb.same s4,s4 _ _ hl,Sa.same s4,E',hre.symm,λH5 s5=>?_⟩;have hlc5:=s5 _ _ hlc4;have hcm5:=hcm4.same s5;have s05:=s4.trans s5;have hpp5:=s5 _ _ hpp4;cases hw:hJ rs es k (lv ls k) with
       | none =>
         show cU 6 V.ax _ _ _;symm;exact⟨⟨_,_,_,rfl⟩,s05,hpp5,us4,hlc5,by lia,by show bW _ _ (_++(_++[]));rw[aaJ];exact hcm5⟩
       | some w =>
         show cU 6 w.v _ _ _;symm;rename_i t1 U1;refine⟨⟨_,_,_,rfl⟩,λb o e=>by rw[af (ae e U2)];exact(s05.trans (ag U1)) b o e,by rw[af hnp];exact ak hpp5 U1,_,U,by rw[aab];show _+1<=_;lia,?_⟩;rw[<- aaD];exact((hcm5.same (ag U1)).app (bW.one (c:=⟨k,lv ls k,w⟩) ⟨t1,rfl,U⟩)).to (uZ (ak hlc5 U1))
     . rintro Z H4 ⟨⟨u1,u2,u3,rfl⟩,s4,hpp4,us4,hlc4,hul4,hcm4⟩;rw[aaa,aaG] at hcm4;symm;exact q lcm us4 ks H4 s4 hlc4 (λ_=>⟨UU,hpw⟩) (by rw[hck];exact hcm4)
theorem fj (T:TX):ME 6 a.ay "rows_of" (HZ a):=by
 refine aK 5 T.eP T.rk iJ ?_ ?_;walk_at"in"
 . obtain ⟨m, f, k, h, E, D, rs, pl, rfl, S, hf, hh, hk, q⟩ := h;have hm:=S.hm;have f1:=S.B.F.frames;have f2:=S.B.F.zU;have hb:=S.st _ _ S.B.hb;have Um:=S.st _ _ S.B.hf;obtain ⟨b,Vc⟩:∃ b,E.bs[f]? = some b:=⟨_,aac (by rw [S.B.bs.1];exact hf)⟩
   obtain⟨fr,hff⟩:∃ fr,E.bE[f]? = some fr:=⟨_,aac (by rw[S.B.fl];exact hf)⟩
   have RW:=i3 Vc;have hat2:=i3 hff;obtain⟨qs,hq,aq⟩:=S.B.bs.2 b (aad Vc);have hq:=S.st _ _ hq;obtain⟨h',WM,FR⟩:=S.B.fr f fr hff;rw[hh] at WM;cases WM
   have FR:=FR.same S.st;have bw:=S.B.ok.hs h (aad hh);obtain⟨qk,hqk⟩:∃ qk,qs[k]? = some qk:=⟨_,aac (by rw[aq.1];exact hk)⟩
   have hat3:=i3 hqk;obtain⟨dx,d,la,lc,fs,fi⟩:=FR;have hfx:=fi.hx;walk_at"h";have nd:=iJ.nd;refine' aF ?_ ?_;walk_at"tS";walk_at"c";walk_at"c";walk_at"n";walk_at"f";walk_at"tT";walk_at"m";exact bp;exact aT;walk_at"n";walk_at"f";walk_at"tT";walk_at"c";walk_at"n";exact bp;walk_at"m";exact bp;exact aT;walk_at"n";walk_at"f";walk_at"tT";walk_at"m";exact bp;exact aT;walk_at"n";walk_at"f";walk_at"tT";walk_at"m";exact bp;exact aT;walk_at"n";walk_at"f";walk_at"tT";walk_at"m";exact bp;exact aT;walk_at"c";walk_at"c";walk_at"m";walk_at"tS";walk_at"s";rcases(show k=0∨k=1∨k=2 from by lia) with rfl | rfl | rfl
   . obtain⟨p, e1, e2⟩ := aq.2 0 qk (.set D.x) hqk rfl;have e1:=S.st _ _ e1;have e2:H p=some (.tup [.str "set",.int D.x,.int 7]):=S.st _ _ e2;symm;refine⟨fr,p,h,D.x,rfl,e2,⟨dx,d,la,lc,fs,fi⟩,bw,S.B.ok.x,λl H1 s1 N1=>?_⟩;exact q l H1 s1 N1
   . obtain⟨p, e1, e2⟩ := aq.2 1 qk (.give 1) hqk rfl;have e1:=S.st _ _ e1;have e2:H p=some (.tup [.str "give",.int 1]):=S.st _ _ e2;symm
     with_reducible refine aN hfx (fi.F.no "loaded" (by decide +kernel)) ((sZ T).mono (by decide)) ?_
     symm;refine⟨fr,h,1,0,rfl,⟨dx,d,la,lc,fs,fi⟩,bw,by decide,by decide,by decide,by decide,λl1 H1 s1 N1=>?_⟩;have U8:=s1 _ _ hm;symm
     with_reducible refine aN U8 (S.B.F.no "end_label" (by decide +kernel)) ((gD T).mono (by decide)) ?_
     symm;refine⟨m,f,E,D,rs,pl,rfl,S.same s1,hf,?_⟩;symm;have hn:=S.B.ok.n;intro r0 T9 m0 g0 _;refine⟨r0,T9,_,rfl,⟨by lia,by lia⟩,U,λH0 kp T8=>⟨rfl,?_⟩⟩;have s0:ah H1 H0:=λb o e=>kp b o (by rw[af (ae e m0),af (ae e g0)];exact e) (ae e m0);have w0:br a H0 r0 (.ck (5*(f:Int)+4)):=⟨T9,T8⟩
     clear kp T8 m0 g0;symm;rename_i lx S7;obtain⟨s2,N2⟩:=sv s0 w0 S7;generalize (upd H0 lx (.lst [.ref r0]))=H2 at s2 N2 ⊢;clear s0 w0 S7;have hl:=D5 h 1 0;exact vo s1 N1 s2 N2 (by show _+1<=_;lia) q
   . obtain ⟨p, e1, e2⟩ := aq.2 2 qk .leave hqk rfl;have e1:=S.st _ _ e1;have e2:H p=some (.tup [.str "leave",.int 7]):=S.st _ _ e2;symm;intro r0 T9 m0 g0 _;refine ⟨r0,T9,_,_,rfl,⟨⟨by decide,by decide⟩,by decide,by decide⟩,U,λH0 kp T8=>⟨rfl,?_⟩⟩;have s0:ah H H0:=λb o e=>kp b o (by rw [af (ae e m0),af (ae e g0)];exact e) (ae e m0);have w0:br a H0 r0 (.set 0 0):=⟨T9,T8⟩
     clear kp T8 m0 g0;symm;rename_i lx S7;obtain⟨s2,N2⟩:=sv s0 w0 S7;generalize (upd H0 lx (.lst [.ref r0]))=H2 at s2 N2 ⊢;clear s0 w0 S7;exact q lx _ s2 N2
theorem xJ (T:TX):FE 7 "is_program" Of:=by
 refine aR 6 T.xg mB ?_ ?_;walk_at"in"
 . obtain⟨pr, Fs, rfl, ⟨fs, To, hfs, au, h4⟩, q⟩ := h;have Bn:=hfs.1;walk_at"h";have nd:=mB.nd;refine' aF ?_ ?_;walk_at"f";exact(PW.pt (fY (dq (cJ (K:=K) rfl (aG (cf (K:=K) rfl) rfl T.aY aZ (aa (pv 0) (aa (dh (v:=.ty "list") rfl T.lL lC rfl) ao))))) (hW (dq (G6 p8 p8 aH (aG (bK (K:=K) rfl) rfl T.dm du (aa (pv 0) ao)) (bI (v:=.int 8) rfl T.uq.choose_spec ⟨_,rfl⟩))))));walk_at"tB";exact aT;walk_at"n";walk_at"f";exact(dq (cJ (K:=K) rfl (aG (ic (K:=K) rfl rfl) rfl T.pD pV (aa (bB (own:=["function"]) (fr:=[]) rfl ⟨rfl,(by walk_at"clok"),(by walk_at"frok"),rfl,(by decide +kernel),(by decide +kernel),rfl⟩ (bj (K:=K) rfl (pv 0)) (λ_ _ _ _=>(aM (i:=0) (show aaN [("function" : Str)] from by decide +kernel) rfl (Or.inl rfl))) (λ_ _ _ _=>bh) (λ_ _ _ _=>(aQ (vc T) (hr.mono (by decide)) aX rfl (aa (pv 0) ao)))) ao))));walk_at"tB";exact aT;walk_at"m";exact(b9 (aQ (qc T) (hr.mono (by decide)) aX rfl (aa (bB (own:=["function"]) (fr:=[]) rfl ⟨rfl,(by walk_at"clok"),(by walk_at"frok"),rfl,(by decide +kernel),(by decide +kernel),rfl⟩ (bj (K:=K) rfl (pv 0)) (λ_ _ _ _=>(aM (i:=0) (show aaN [("function" : Str)] from by decide +kernel) rfl (Or.inl rfl))) (λ_ _ _ _=>bh) (λ_ _ _ _=>(bt (b_ (K:=K) rfl) (pv 0) aH (λ_ _=>rfl)))) (aa (bB (own:=["function"]) (fr:=[]) rfl ⟨rfl,(by walk_at"clok"),(by walk_at"frok"),rfl,(by decide +kernel),(by decide +kernel),rfl⟩ (bj (K:=K) rfl (pv 0)) (λ_ _ _ _=>(aM (i:=0) (show aaN [("function" : Str)] from by decide +kernel) rfl (Or.inl rfl))) (λ_ _ _ _=>bh) (λ_ _ _ _=>(bt (b_ (K:=K) rfl) (pv 0) aH (λ_ _=>rfl)))) ao))));walk_at"s";cases Fs with
   | nil =>
     have e:fs=[]:=List.eq_nil_of_length_eq_zero Bn;subst e;symm;exact q _ (ah.refl _)
   | cons F0 Fr =>
     have h1 : 1<=fs.length:=by rw[Bn,aaq];lia
     have h8:fs.length<=4:=by rw[Bn];exact h4
     obtain⟨ls,SN,hll,RW⟩:=Ik hfs;generalize hG:F0::Fr=Fs at *;have Tp:Fs.isEmpty=false:=by rw[<- hG];rfl
     rw[show ja Fs=x9 (Fs.map (·.ss)) from by unfold ja;rw[Tp];rfl] at q;symm;refine bz (xs:=fs.map V.ref) (λi ys Z H1=>(∃ v,Z = [v])/\ah H H1/\ys=(fs.take i).map λ_=>V.bl true) ⟨⟨_,rfl⟩,ah.refl _,rfl⟩ ?_ ?_ ?_
     . rintro i ys Z H1 hi ⟨_,s1,rfl⟩;exact⟨av.of (s1 _ _ To),by rw[aaa,aaC,aan];lia⟩
     . rintro i v ys Z H1 hv ⟨⟨v1,rfl⟩,s1,rfl⟩;obtain⟨p,hp,rfl⟩:=dG hv;obtain⟨F,l,hF,hl,hf⟩:=RW i p hp;obtain⟨ss,hss,ps,SV,_⟩:=SN.at hl;obtain⟨f0,f3,_⟩:=au F (aad hF);symm;refine⟨p,l,F.n,_,rfl,s1 _ _ hf,f0,f3,s1 _ _ SV,?_⟩;refine⟨⟨_,rfl⟩,s1,?_⟩;rw[aaI,hp,aaE,aal];rfl
     rintro ys Z H1 ⟨_,s1,rfl⟩ lb Ug;rw[aaa,aaG];have s2:=s1.trans (ag (o:=.lst (fs.map λ_=>V.bl true)) Ug);symm;refine l0 (bs:=fs.map λ_=>true) (by rw[abv];exact av.of U) ?_;generalize (upd H1 lb (.lst (fs.map λ_=>V.bl true)))=H2 at s2 ⊢;clear Ug s1;rw[show(fs.map λ_=>true).all id=true from by rw[ab5];exact List.all_eq_true.mpr λ_ _=>rfl];have W8:=s2 _ _ To;symm;refine bz (xs:=fs.map V.ref) (λi ys Z H3=>(∃ v,Z = [v])/\ah H2 H3/\ys=(ls.take i).map V.ref) ⟨⟨_,rfl⟩,ah.refl _,rfl⟩ ?_ ?_ ?_
     . rintro i ys Z H3 hi ⟨_,s3,rfl⟩;exact⟨av.of (s3 _ _ W8),by rw[aaa,aaC,aan];lia⟩
     . rintro i v ys Z H3 hv ⟨⟨v1,rfl⟩,s3,rfl⟩;obtain⟨p,hp,rfl⟩:=dG hv;obtain⟨F,l,hF,hl,hf⟩:=RW i p hp;have hf3:=s3 _ _ (s2 _ _ hf);symm;refine⟨⟨_,rfl⟩,s3,?_⟩;rw[aaI,hl,aaE,aal];rfl
     rintro ys Z H3 ⟨_,s3,rfl⟩ l3 nl3;rw[aaa,<- hll,aaG];have s4:=s2.trans (s3.trans (ag (o:=.lst (ls.map V.ref)) nl3));have Tq:(upd H3 l3 (.lst (ls.map V.ref))) l3=some (.lst (ls.map V.ref)):=U;generalize (upd H3 l3 (.lst (ls.map V.ref)))=H4 at s4 Tq ⊢;clear nl3 s3 s2 W8;have Vu:=s4 _ _ To;symm;refine bz (xs:=fs.map V.ref) (λi ys Z H5=>(∃ v,Z = [v])/\ah H4 H5/\ys=(Fs.take i).map λF=>V.int F.n) ⟨⟨_,rfl⟩,ah.refl _,rfl⟩ ?_ ?_ ?_
     . rintro i ys Z H5 hi ⟨_,s5,rfl⟩;exact⟨av.of (s5 _ _ Vu),by rw[aaa,aaC,aan];lia⟩
     . rintro i v ys Z H5 hv ⟨⟨v1,rfl⟩,s5,rfl⟩;obtain⟨p,hp,rfl⟩:=dG hv;obtain⟨F,l,hF,hl,hf⟩:=RW i p hp;have hf5:=s5 _ _ (s4 _ _ hf);symm;refine⟨⟨_,rfl⟩,s5,?_⟩;rw[aaI,hF,aaE,aal];rfl
     rintro ys Z H5 ⟨_,s5,rfl⟩ l5 nl5;rw[aaa,Bn,aaG];have s6:=s4.trans (s5.trans (ag (o:=.lst (Fs.map λF=>V.int F.n)) nl5));have VP:=ak (o:=.lst (Fs.map λF=>V.int F.n)) (s5 _ _ Tq) nl5;have VS:(upd H5 l5 (.lst (Fs.map λF=>V.int F.n))) l5=some (.lst (Fs.map λF=>V.int F.n)):=U;generalize (upd H5 l5 (.lst (Fs.map λF=>V.int F.n)))=H6 at s6 VP VS ⊢;clear nl5 s5 s4 Vu;symm;refine⟨l3,l5,ls,Fs.map (·.ss),Fs.map (λF=>V.int F.n),rfl,VP,SN.to (λp x z=>z.same s6),λss hs=>?_,by rw[aaa];exact h4,VS,by rw[aaa];lia,λH7 s7=>?_⟩
     . obtain⟨F, hF, rfl⟩ := List.mem_map.mp hs;exact(au F hF).2.2
     symm;exact q _ (s6.trans s7)
theorem FZ (T:TX):iI P w K mg base (cS P w) 7 "guess" (vj K a)/\FJ P w K mg base (cS P w) 7 "guess" (vj K a):=by
 refine Bw 6 T.G9 rg ?_ ?_;walk_at"in"
 . obtain ⟨c, lvv, fI, rs, ls, rfl, hc, Sb, au, RQ, SN, WH, qe, q⟩ := h;walk_at "h";have nd:=rg.nd;refine' aF ?_ ?_;walk_at "x";walk_at "tS";walk_at "n";exact (c9 (i:=3) rg.nd rfl (Or.inl rfl) (dA (GJ T) (hr.mono (by decide)) aX rfl (aa (aQ (xx T) (hr.mono (by decide)) fP rfl (aa (pv 0) (aa (pv 2) ao))) (aa (pv 2) ao))));walk_at "n";walk_at "f";walk_at "y";walk_at "tT";walk_at "m";exact (gR T.jY rfl (aa il ao));exact aT;walk_at "m";walk_at "x";walk_at "tS";walk_at "s";rcases WH with ⟨rfl,rfl⟩ | ⟨d,rfl,hd⟩
   . ac_rfl;rename_i d nd;have s1:=ag (o:=.dK []) nd;have SW:(upd H d (.dK [])) d=some (.dK (aD [])):=U;generalize (upd H d (.dK []))=H1 at s1 SW ⊢;have hc1:=s1 _ _ hc;have W5:=Sb.same s1;ac_rfl;refine ⟨c,d,fI,rs,([]:List (Int×Int)),rfl,hc1,W5,au,RQ,SN,SW,λhb H' s'=>qe (.inl hb) _ (s1.trans s'),λle ev es H2 s2 SM Vn Sa G=>?_⟩;have S2:=s1.trans s2;have SI:=s2 _ _ SW;clear SM;ac_rfl;intro xt dxt Wm UG nne;refine' Il (kvs:=aD ([]:List (Int×Int))) (xs:=ev) Wm UG ?h1 ?h2 ?q;(case h1=>exact av.of Vn)
     (case h2=>exact .inr ⟨d,rfl,SI⟩)
     (case q =>
       intro l8 d8 H8 s8 nl8 nd8 n12 nxl Wn hxt VO hd8;refine⟨rfl,?_⟩;have Wh:=S2.trans s8;have WQ:H xt=none:=aB S2 Wm;have UP:=Sa.same s8;have WS:H l8=none:=aB S2 nl8;have WU:H d8=none:=aB S2 nd8;have UH:TabOf K a H8 xt ev ([]:List (Int×Int)):=⟨dxt,l8,d8,hxt,VO,hd8⟩
       clear s8 nl8 nd8 n12 nxl Wn Wm UG nne;ac_rfl;refine⟨c,xt,fI,rs,ev,es,([]:List (Int×Int)),rfl,Wh _ _ hc,Sb.same Wh,UH,UP,⟨au,Jc G,RQ,by rw[G.len];exact RQ⟩,SN.1,SN.2.1,λp us ks H9 s9 hp hks Uq=>?_⟩;have UL:=(hks G.len).1;ac_rfl;refine dH (av.of hp) ?_;rw[Uq.1];have s19:=Wh.trans s9;by_cases hz:dU rs es ([]:List (Int×Int)) ks=[]
       . rw[hz];ac_rfl;exact q xt ev es ks H9 s19 WQ ⟨dxt,l8,d8,WS,WU,s9 _ _ hxt,s9 _ _ VO,s9 _ _ hd8⟩ (UP.same s9) G UL hz
       . have : 0 < (dU rs es ([] : List (Int × Int)) ks).length := List.length_pos_iff.mpr hz;ac_rfl;refine fU ?_;ac_rfl;exact⟨by show 1<=1000;decide,qe (.inr ⟨es,ks,G,UL,hz⟩) _ s19⟩)
   . have s1 := ah.refl H;have SW:=hd;have hc1:=s1 _ _ hc;have W5:=Sb.same s1;ac_rfl;refine ⟨c,d,fI,rs,ls,rfl,hc1,W5,au,RQ,SN,SW,λhb H' s'=>qe (.inl hb) _ (s1.trans s'),λle ev es H2 s2 SM Vn Sa G=>?_⟩;have S2:=s1.trans s2;have SI:=s2 _ _ SW;clear SM;ac_rfl;intro xt dxt Wm UG nne;refine' Il (kvs:=aD ls) (xs:=ev) Wm UG ?h1 ?h2 ?q;(case h1=>exact av.of Vn)
     (case h2=>exact .inr ⟨d,rfl,SI⟩)
     (case q =>
       intro l8 d8 H8 s8 nl8 nd8 n12 nxl Wn hxt VO hd8;refine⟨rfl,?_⟩;have Wh:=S2.trans s8;have WQ:H xt=none:=aB S2 Wm;have UP:=Sa.same s8;have WS:H l8=none:=aB S2 nl8;have WU:H d8=none:=aB S2 nd8;have UH:TabOf K a H8 xt ev ls:=⟨dxt,l8,d8,hxt,VO,hd8⟩
       clear s8 nl8 nd8 n12 nxl Wn Wm UG nne;ac_rfl;refine⟨c,xt,fI,rs,ev,es,ls,rfl,Wh _ _ hc,Sb.same Wh,UH,UP,⟨au,Jc G,RQ,by rw[G.len];exact RQ⟩,SN.1,SN.2.1,λp us ks H9 s9 hp hks Uq=>?_⟩;have UL:=(hks G.len).1;ac_rfl;refine dH (av.of hp) ?_;rw[Uq.1];have s19:=Wh.trans s9;by_cases hz:dU rs es ls ks=[]
       . rw[hz];ac_rfl;exact q xt ev es ks H9 s19 WQ ⟨dxt,l8,d8,WS,WU,s9 _ _ hxt,s9 _ _ VO,s9 _ _ hd8⟩ (UP.same s9) G UL hz
       . have : 0 < (dU rs es ls ks).length := List.length_pos_iff.mpr hz;ac_rfl;refine fU ?_;ac_rfl;exact⟨by show 1<=1000;decide,qe (.inr ⟨es,ks,G,UL,hz⟩) _ s19⟩)
theorem Hj (T:TX):iI P w K mg base (cS P w) 7 "guess" (vj K a):=(FZ T).1
theorem fE (T:TX):ME 7 a.ay "add_function" (KZ a):=by
 refine aK 6 T.eP T.kP fF ?_ ?_;walk_at"in"
 . obtain ⟨m, f, n, h, E, D, rs, pl, rfl, S, hh, hn, RM, hz, hr2, q⟩ := h;have hm:=S.hm;have f1:=S.B.F.frames;have f2:=S.B.F.zU;have f3:=S.B.F.D7;have f4:=S.B.F.handed;have f5:=S.B.F.yp;have hf:f<D.ns.length:=(List.getElem?_eq_some_iff.mp hn).1;have hb:=S.st _ _ S.B.hb;have Um:=S.st _ _ S.B.hf;have hg:=S.hg;have hgl:(D.gs.length:Int)=D.ns.length:=by unfold c5.gs;rw [aaa,aa4]
   obtain⟨b,Vc⟩:∃ b,E.bs[f]? = some b:=⟨_,aac (by rw[S.B.bs.1];exact hf)⟩
   obtain⟨fr,hff⟩:∃ fr,E.bE[f]? = some fr:=⟨_,aac (by rw[S.B.fl];exact hf)⟩
   have RW:=i3 Vc;have hat2:=i3 hff;have hat3:=Ka hn;obtain⟨qs,hq,aq⟩:=S.B.bs.2 b (aad Vc);obtain⟨h',WM,FR⟩:=S.B.fr f fr hff;rw[hh] at WM;cases WM
   have bw:=S.B.ok.hs h (aad hh);have hn3:=S.B.ok.ns n (aad hn);have hm3:=S.B.ok.n;walk_at"h";have nd:=fF.nd;refine' aF ?_ ?_;walk_at"tS";walk_at"c";walk_at"n";exact(cL (ei (K:=K) rfl aaM aa7 aa6 dZ (aV (K:=K) rfl (pv 0)) (aa (fK (P:=P) (w:=w) (K:=K) (mg:=mg) (base:=base) (k:=5) ⟨rfl,rfl,rfl,rfl,rfl⟩ (pv 2) (hr.mono (by decide)) aX (aa (bt (b_ (K:=K) rfl) (aV (K:=K) rfl (pv 0)) (pv 1) (λ_ _=>rfl)) ao)) ao)));walk_at"n";walk_at"g";exact(rC (K:=K) rfl rfl T.kg (aa (bt (b_ (K:=K) rfl) (aV (K:=K) rfl (pv 0)) (pv 1) (λ_ _=>rfl)) ao));walk_at"tG";walk_at"c";walk_at"m";walk_at"f";walk_at"tT";walk_at"m";exact bp;walk_at"m";exact(cL (ei (K:=K) rfl aaM aa7 aa6 dZ (aV (K:=K) rfl (pv 0)) (aa (fK (P:=P) (w:=w) (K:=K) (mg:=mg) (base:=base) (k:=6) ⟨rfl,rfl,rfl,rfl,rfl⟩ (pv 0) (hr.mono (by decide)) aX (aa (pv 1) (aa (pv 3) ao))) ao)));exact λ_=>rfl;walk_at"c";walk_at"m";exact(cL (ei (K:=K) rfl aaM aa7 aa6 dZ (aV (K:=K) rfl (pv 0)) (aa (dD (eR (K:=K) rfl) (wH (P:=P) (w:=w) (K:=K) (mg:=mg) (base:=base) (k:=4) ⟨rfl,rfl,rfl,rfl,rfl⟩ (pv 2) (hr.mono (by decide)) aX) (gj (aa (dA (JT T) (hr.mono (by decide)) aX rfl (aa (bI (v:=.int 7) rfl T.Fo.choose_spec ⟨_,rfl⟩) ao)) ao))) ao)));walk_at"s";symm
   with_reducible refine aN hm (S.B.F.no "here" (by decide +kernel)) ((dM T).mono (by decide)) ?_
   symm;rw[Ey hf];refine⟨m,_,E,D,rs,pl,rfl,S,ky RM,by lia,λH1 k1 S1=>?_⟩;have U8:=S1.hm;have Tr:=S1.st _ _ S.B.hh;obtain⟨dx,d,la,lc,fs,fi⟩:=FR;have VB:=S1.st _ _ fi.hx;obtain⟨prs1,SW,_⟩:=S1.hd;symm
   with_reducible refine aN VB (fi.F.no "begun" (by decide +kernel)) ((vD T).mono (by decide)) ?_
   symm;refine⟨fr,h,n,rfl,⟨dx,d,la,lc,fs,fi.same S1.st⟩,bw,hn3,λl2 H2 s2 N2=>?_⟩;have bl:=zL bw hn3;symm;refine S1.ua s2 N2 (by lia) λH3 k3 S3=>?_;have k03:KD E H H3:=k1.trans k3;clear S1 k1 k3 U8 Tr VB SW N2 s2;have hm3:=S3.hm;have hb3:=S3.st _ _ S.B.hb;have hq3:=S3.st _ _ hq;have ql:qs.length=3:=aq.1
   with_reducible refine(?_:Cb _ _ _ _ _)
   symm
   with_reducible refine vP ?_
   symm;refine⟨b,_,rfl,av.of hq3,?_⟩;refine Fc (xs:=qs.map V.ref) (λi Z H4=>(∃ u v,Z = [some (.ref m),some (.int (f:Int)),some (.ref fr),u,v])/\KD E H H4/\dX a H4 m E D (rs++jO h n++fD h D.x f i) (pl++iN rs.length h n D.x f i)) ⟨⟨_,_,rfl⟩,k03,by rw[show fD h D.x f 0=[] from rfl,aaJ];exact S3⟩ ?_ ?_ ?_
   . rintro i Z H4 hi ⟨_,_,S4⟩;exact av.of (S4.st _ _ hq)
   . rintro i v T' Z H4 SG ⟨⟨u,v',rfl⟩,k4,S4⟩ nT;obtain ⟨qi,U6,rfl⟩:=dG SG;have hi3:i<3:=by rw [<- ql];exact (List.getElem?_eq_some_iff.mp U6).1
     have s5:ah H4 (upd H4 T' (.tup [.int (i:Int),.ref qi])):=ag nT;have ht5:(upd H4 T' (.tup [.int (i:Int),.ref qi])) T'=some (.tup [.int (i:Int),.ref qi]):=U;generalize (upd H4 T' (.tup [.int (i:Int),.ref qi]))=H5 at s5 ht5 ⊢;have S5:=S4.same s5;have Ta:=S5.hm;have rl:=oZ h D.x f i;have rl1:=Be h D.x f i;have keys:∀ p∈pl++iN rs.length h n D.x f i,p.1<5*(f:Int)+1+(i:Int):=λp hp=>by
       rcases List.mem_append.mp hp with z | z
       . have:=RM p z;lia
       . exact uh p z
     refine eV (az.of ht5) rfl ?_;rcases(show i=0∨i=1∨i=2 from by lia) with rfl | rfl | rfl
     . obtain⟨p, e1, e2⟩ := aq.2 0 qi (.set D.x) U6 rfl;have e1:=S5.st _ _ e1;have e2:H5 p=some (.tup [.str "set",.int D.x,.int 7]):=S5.st _ _ e2;symm
       with_reducible refine aN Ta (S.B.F.no "here" (by decide +kernel)) ((dM T).mono (by decide)) ?_
       symm
       with_reducible refine aN Ta (S.B.F.no "label" (by decide +kernel)) ((eM T).mono (by decide)) ?_
       symm;refine⟨m,f,0,E,D,_,_,rfl,S5,hf,?_⟩;symm;refine⟨m,_,E,D,_,_,rfl,S5,ky λp hp=>?_,by rw[aab,lz];lia,λH6 k6 S6=>?_⟩
       . exact keys p hp
       have hm6:=S6.hm;have UD:=S6.st _ _ (aq.2 0 qi (.set D.x) U6 rfl).choose_spec.1;obtain⟨prs6,Uo,_⟩:=S6.hd;obtain⟨p6,UD,V2⟩:=aq.2 0 qi (.set D.x) U6 rfl;have UD:=S6.st _ _ UD;have V2:H6 p6=some (.tup [.str "set",.int D.x,.int 7]):=S6.st _ _ V2;symm
       with_reducible refine aN hm6 (S.B.F.no "rows_of" (by decide +kernel)) ((fj T).mono (by decide)) ?_
       symm;refine⟨m,f,0,h,E,D,_,_,rfl,S6,hf,hh,by decide,λl7 H7 s7 N7=>?_⟩;symm;refine S6.ua s7 N7 (by rw[aab,aab];lia) λH8 k8 S8=>?_;refine⟨⟨_,_,rfl⟩,k4.trans ((ah.kd s5).trans (k6.trans k8)),?_⟩;rw[kD,se,<- aaD,<- aaD];rw[aab,aab] at S8;exact S8
     . obtain⟨p, e1, e2⟩ := aq.2 1 qi (.give 1) U6 rfl;have e1:=S5.st _ _ e1;have e2:H5 p=some (.tup [.str "give",.int 1]):=S5.st _ _ e2;symm
       with_reducible refine aN Ta (S.B.F.no "here" (by decide +kernel)) ((dM T).mono (by decide)) ?_
       symm
       with_reducible refine aN Ta (S.B.F.no "label" (by decide +kernel)) ((eM T).mono (by decide)) ?_
       symm;refine⟨m,f,1,E,D,_,_,rfl,S5,hf,?_⟩;symm;refine⟨m,_,E,D,_,_,rfl,S5,ky λp hp=>?_,by rw[aab,lz];lia,λH6 k6 S6=>?_⟩
       . exact keys p hp
       have hm6:=S6.hm;have UD:=S6.st _ _ (aq.2 1 qi (.give 1) U6 rfl).choose_spec.1;obtain⟨prs6,Uo,_⟩:=S6.hd;obtain⟨p6,UD,V2⟩:=aq.2 1 qi (.give 1) U6 rfl;have UD:=S6.st _ _ UD;have V2:H6 p6=some (.tup [.str "give",.int 1]):=S6.st _ _ V2;symm
       with_reducible refine aN hm6 (S.B.F.no "rows_of" (by decide +kernel)) ((fj T).mono (by decide)) ?_
       symm;refine⟨m,f,1,h,E,D,_,_,rfl,S6,hf,hh,by decide,λl7 H7 s7 N7=>?_⟩;symm;refine S6.ua s7 N7 (by rw[aab,aab];lia) λH8 k8 S8=>?_;refine⟨⟨_,_,rfl⟩,k4.trans ((ah.kd s5).trans (k6.trans k8)),?_⟩;rw[kD,se,<- aaD,<- aaD];rw[aab,aab] at S8;exact S8
     . obtain⟨p, e1, e2⟩ := aq.2 2 qi (.leave) U6 rfl;have e1:=S5.st _ _ e1;have e2:H5 p=some (.tup [.str "leave",.int 7]):=S5.st _ _ e2;symm
       with_reducible refine aN Ta (S.B.F.no "here" (by decide +kernel)) ((dM T).mono (by decide)) ?_
       symm
       with_reducible refine aN Ta (S.B.F.no "label" (by decide +kernel)) ((eM T).mono (by decide)) ?_
       symm;refine⟨m,f,2,E,D,_,_,rfl,S5,hf,?_⟩;symm;refine⟨m,_,E,D,_,_,rfl,S5,ky λp hp=>?_,by rw[aab,lz];lia,λH6 k6 S6=>?_⟩
       . exact keys p hp
       have hm6:=S6.hm;have UD:=S6.st _ _ (aq.2 2 qi (.leave) U6 rfl).choose_spec.1;obtain⟨prs6,Uo,_⟩:=S6.hd;obtain⟨p6,UD,V2⟩:=aq.2 2 qi (.leave) U6 rfl;have UD:=S6.st _ _ UD;have V2:H6 p6=some (.tup [.str "leave",.int 7]):=S6.st _ _ V2;symm
       with_reducible refine aN hm6 (S.B.F.no "rows_of" (by decide +kernel)) ((fj T).mono (by decide)) ?_
       symm;refine⟨m,f,2,h,E,D,_,_,rfl,S6,hf,hh,by decide,λl7 H7 s7 N7=>?_⟩;symm;refine S6.ua s7 N7 (by rw[aab,aab];lia) λH8 k8 S8=>?_;refine⟨⟨_,_,rfl⟩,k4.trans ((ah.kd s5).trans (k6.trans k8)),?_⟩;rw[kD,se,<- aaD,<- aaD];rw[aab,aab] at S8;exact S8
   . rintro Z H4 ⟨⟨u,v',rfl⟩,k4,S4⟩;rw[aaa,ql] at S4;have hm4:=S4.hm;have rl:=oZ h D.x f 3;have ll:=D4 bw;have keys:∀ p∈pl++iN rs.length h n D.x f 3,p.1<5*(f:Int)+4:=λp hp=>by
       rcases List.mem_append.mp hp with z | z
       . have:=RM p z;lia
       . have:=uh p z;lia
     with_reducible refine(?_:Cb _ _ _ _ _)
     symm
     with_reducible refine aN hm4 (S.B.F.no "here" (by decide +kernel)) ((dM T).mono (by decide)) ?_
     symm
     with_reducible refine aN hm4 (S.B.F.no "end_label" (by decide +kernel)) ((gD T).mono (by decide)) ?_
     symm;refine⟨m,f,E,D,_,_,rfl,S4,hf,?_⟩;symm;refine⟨m,_,E,D,_,_,rfl,S4,ky keys,by rw[aab,lz];lia,λH5 k5 S5=>?_⟩;have Ta:=S5.hm;have hfx5:=S5.st _ _ fi.hx;obtain⟨prs5,Vq,_⟩:=S5.hd;symm
     with_reducible refine aN hfx5 (fi.F.no "left" (by decide +kernel)) ((xv T).mono (by decide)) ?_
     symm;refine⟨fr,h,rfl,⟨dx,d,la,lc,fs,fi.same S5.st⟩,bw,λl6 H6 s6 N6=>?_⟩;symm;intro r0 T9 m0 g0 _;refine⟨r0,T9,_,rfl,⟨by decide,by decide⟩,U,λH0 kp T8=>⟨rfl,?_⟩⟩;have s0:ah H6 H0:=λb o e=>kp b o (by rw[af (ae e m0),af (ae e g0)];exact e) (ae e m0);have w0:br a H0 r0 (.back 7):=⟨T9,T8⟩
     clear kp T8 m0 g0;symm;rename_i lx S7;obtain⟨s7,N7⟩:=sv s0 w0 S7;generalize (upd H0 lx (.lst [.ref r0]))=H7 at s7 N7 ⊢;clear s0 w0 S7;refine vo s6 N6 s7 N7 (by show _+1<=_;lia) λl8 H8 s8 N8=>?_;symm;refine S5.ua s8 N8 (by rw[aab,aab,aab];show _+(_+1)<=_;lia) λH9 k9 S9=>?_;refine q _ (k4.trans (k5.trans k9)) ?_;rw[aab,aab] at S9;rw[show rs++fZ h n D.x f=rs++jO h n++fD h D.x f 3++(zW h++[Rw.back 7]) from by unfold fZ;simp only[aaD]];exact S9
theorem lO (T:TX):iI P w K mg base (cS P w) 8 "asked_for_program" (KY a):=by
 refine sm 7 T.lS gb ?_ ?_;walk_at"in"
 . obtain⟨pr, Fs, rfl, hp, q, e⟩ := h;walk_at"h";have nd:=gb.nd;refine' cv ?_;walk_at"f";walk_at"y";walk_at"tT";walk_at"m";exact(gR T.kh rfl (aa il ao));exact aT;walk_at"s";symm;refine⟨pr,Fs,rfl,hp,λH1 s1=>?_⟩;cases hb:ja Fs with
   | true =>
     symm;exact q hb _ s1
   | false =>
     symm;exact⟨by decide,e hb _ s1⟩
theorem iw (T:TX):iQ P w K mg base (cS P w) 8 a.ay "finished" (NY a):=by
 refine Gy 7 T.eP T.p_ cF ?_ ?_;walk_at"in"
 . obtain ⟨m, E, D, rs, pl, rfl, S, au, RQ, ⟨S0, L⟩, q⟩ := h;have hm:=S.hm;have f1:=S.B.F.yp;have f2:=S.B.F.places;have f3:=S.B.F.lands;obtain ⟨fI,hd,Ux⟩:=S.hd;have hp:=S.hp;have hl:=S.hl;walk_at "h";have nd:=cF.nd;refine' aF ?_ ?_;walk_at "x";exact (gU (i:=1) cF.nd rfl rfl (own:=["row"]) (fr:=[("self",0)]) rfl ⟨rfl,(by walk_at "clok"),(by walk_at "frok"),rfl,(by decide +kernel),(by decide +kernel),rfl⟩ (bj (K:=K) rfl (aV (K:=K) rfl (pv 0))) (λ_ _ _ _=>(aM (i:=0) (show aaN [("row" : Str),("self" : Str)] from by decide +kernel) rfl (Or.inl rfl))) (λ_ _ _ _=>bh) (λ_ _ _ _=>(aQ (CY T) (hr.mono (by decide)) aX rfl (aa (pv 0) (aa (aV (K:=K) rfl (pv 1)) ao)))));walk_at "n";walk_at "x";walk_at "tS";walk_at "n";walk_at "x";exact (BL (uG ab0 rfl (zh (aV (K:=K) rfl (pv 0))) (fb (K:=K) rfl rfl (bR (aM (i:=3) cF.nd rfl (Or.inl rfl)) (bR (aM (i:=4) cF.nd rfl (Or.inl rfl)) eZ))) (cv bp)));walk_at "m";exact (b9 (iu (aa (pv 1) (aa (aQ (Hj T) (hr.mono (by decide)) fP rfl (aa (pv 1) (aa (pv 2) ao))) ao))));walk_at "s";symm;refine bz (K:=K) (a:=E.ld) (xs:=fI.map V.ref) (λi ys Z H1=>(∃ v,Z = [v,some (.ref m)])/\ah H H1/\∃ ps:List Addr,ys=ps.map V.ref/\aJ a H1 ps ((rs.take i).map (ju pl))) ⟨⟨_,rfl⟩,ah.refl _,[],rfl,aJ.nil⟩ ?_ ?_ ?_
   . rintro i ys Z H1 hi ⟨_,s1,ps,rfl,hr⟩;have R8:=hr.1;rw[aaa,aaC] at R8;exact⟨av.of (s1 _ _ hd),by rw[aaa,R8,aan];lia⟩
   . rintro i v ys Z H1 SG ⟨⟨v1,rfl⟩,s1,ps,rfl,hr⟩;obtain ⟨p,hpi,rfl⟩:=dG SG;have hi:i<rs.length:=by rw [<- Ux.1];exact (List.getElem?_eq_some_iff.mp hpi).1
     have Ul:rs[i]? = some rs[i]:=aac hi;have R3:br a H1 p rs[i]:=(Ux.2 i p _ hpi Ul).same s1;obtain⟨k1,k2,k3⟩:=au _ (aad Ul);have U8:=s1 _ _ hm;have R8:=s1 _ _ hp;symm;refine⟨p,E.lp,rs[i],pl,rfl,R3,k2,R8,k3,λp' H' s z=>?_⟩;refine⟨⟨_,rfl⟩,s1.trans s,ps++[p'],by rw[aal];rfl,?_⟩;rw[aaI,Ul,aaE,aal];exact(hr.same s).snoc z
   rintro ys Z H1 ⟨_,s1,ps,rfl,hr⟩ lc U2;rw[aaa,Ux.1,aaG] at hr;symm;rename_i ld Ue;have sA:ah H1 (upd (upd H1 lc (.lst (ps.map V.ref))) ld (.dK [])):=(ag U2).trans (ag Ue);have hc2:(upd (upd H1 lc (.lst (ps.map V.ref))) ld (.dK [])) lc=some (.lst (ps.map V.ref)):=ag Ue _ _ U;have SI:(upd (upd H1 lc (.lst (ps.map V.ref))) ld (.dK [])) ld=some (.dK []):=U;generalize (upd (upd H1 lc (.lst (ps.map V.ref))) ld (.dK []))=H2 at sA hc2 SI ⊢;have s2:=s1.trans sA;have hr2:=hr.same sA;have hm2:=s2 _ _ hm;have Sk:=s2 _ _ hl;clear s1 sA U2 Ue;have okk:∀ r∈rs.map (ju pl),r.ok/\r.here:=λr z=>by
     obtain⟨r0,z0,rfl⟩:=List.mem_map.mp z;exact Mv (au r0 z0)
   with_reducible refine(?_:Cb _ _ _ _ _)
   with_reducible refine(?_:xS _ _ _ _ _)
   refine Ft ?_;symm
   with_reducible refine BN ?_
   symm;refine⟨E.ll,[],rfl,Sk,λob=>?_⟩;refine D2 (kvs:=[]) (λi Z H5=>(∃ u v,Z = [some (.ref m),some (.ref lc),some (.ref ld),u,v])/\H5=upd H2 E.ll (.cx ob (.dK []))) ⟨⟨_,_,rfl⟩,rfl⟩ ?_ ?_ ?_
   . rintro i Z H5 hi ⟨_,rfl⟩;exact U
   . intro i k v T' Z H5 Uu;exact absurd Uu (by simp)
   . rintro Z H5 ⟨⟨u,v,rfl⟩,rfl⟩;refine(?_:Th _ _ _);refine .inr ⟨E.ll,ob,[],U,(λu v z=>by have z':H E.ll=some (.cx u v):=z;rw[hl] at z';cases z'),?_⟩;have s3:ah H2 (upd (upd H2 E.ll (.cx ob (.dK []))) E.ll (.dK [])):=λb o e=>by
       by_cases hb:b=E.ll
       . subst hb;rw[Sk] at e;rw[U];exact e
       . rw[af hb,af hb];exact e
     generalize (upd (upd H2 E.ll (.cx ob (.dK []))) E.ll (.dK []))=H3 at s3 ⊢;have hc3:=s3 _ _ hc2;have VU:=s3 _ _ SI;have hr3:=hr2.same s3;symm;refine⟨lc,.ref ld,ps,rs.map (ju pl),[],rfl,hc3,hr3,okk,by rw[aaa];exact RQ,⟨List.nodup_nil,by decide,λp hp=>by cases hp⟩,.inr ⟨ld,rfl,VU⟩,λhb H4 s4=>?_,λt ev es ks H4 s4 nt UH Sa G hks hz=>?_⟩
     . exfalso
       rcases hb with hb | ⟨es,ks,G,hks,hz⟩
       . exact L.good hb
       . exact hz (OD (great okk L G).1 hks)
     . have hel := Sa.1;have hgl:=G.len;obtain⟨dt,l,d,_,_,ht1,Uk,_⟩:=UH;have hc4:=s4 _ _ hc3;symm;rename_i tt Ud;exact q tt lc t ps _ ((s2.trans (s3.trans s4)).trans (ag Ud)) U (ag Ud _ _ hc4) (by rw[hr.1,aaa]) ⟨dt,l,d,ev,ag Ud _ _ ht1,ag Ud _ _ Uk,by rw[hel,hgl,aaa]⟩
theorem zD (T:TX):iI P w K mg base (cS P w) 9 "made" (pK a)/\FJ P w K mg base (cS P w) 9 "made" (pK a):=by
 refine Bw 8 T.JR u_ ?_ ?_;walk_at"in"
 . obtain ⟨pr, Fs, hvv, rfl, hp, h⟩ := h;obtain ⟨fs,To,V0,hFok,hF4⟩:=hp;have hfl0:=V0.1;walk_at "h";have nd:=u_.nd;refine' aF ?_ ?_;exact (cL (aQ (lO T) (hr.mono (by decide)) fP rfl (aa (pv 0) ao)));walk_at "n";walk_at "x"
   (refine' c9 (i:=2) ?QW ?Rh ?QT ?Ro ?RE ?Rl;(case QW=>exact u_.nd);(case Rh=>rfl);(case QT=>exact(Or.inl rfl));(case RE=>rfl);(case Rl=>exact .inl rfl);(case Ro=>exact(jl (cC vO (pv 1) eT (cb _)) (bB (own:=["function"]) (fr:=[]) rfl ⟨rfl,(by walk_at"clok"),(by walk_at"frok"),rfl,(by decide +kernel),(by decide +kernel),rfl⟩ (bj (K:=K) rfl (pv 0)) (λ_ _ _ _=>(aM (i:=0) (show aaN [("function" : Str)] from by decide +kernel) rfl (Or.inl rfl))) (λ_ _ _ _=>bh) (λ_ _ _ _=>(iu (aa eT (aa eT (aa eT ao)))))) (pv 1))))
   walk_at"n";walk_at"f";walk_at"y";walk_at"tT";walk_at"m";exact(gR T.kh rfl (aa il ao));exact aT;walk_at"n";walk_at"x";walk_at"tS";walk_at"n";walk_at"x";walk_at"tS";walk_at"m";exact(b9 (wH (P:=P) (w:=w) (K:=K) (mg:=mg) (base:=base) (k:=8) ⟨rfl,rfl,rfl,rfl,rfl⟩ (pv 3) (hr.mono (by decide)) fP));walk_at"s";symm;refine⟨pr,Fs,rfl,⟨fs,To,V0,hFok,hF4⟩,λhb H1 s1=>?_,λhb H1 s1=>?_⟩
   . have hpr1 := s1 _ _ To;rcases h with ⟨hf,_⟩ | ⟨_,⟨wh,rfl,hw⟩,q⟩ | ⟨_,D,ok,rfl,hhv,au,hL,q⟩
     . rw[hb] at hf;cases hf
     . symm;rcases hw with ⟨us,hw⟩ | ⟨hv,bs,hw,hhv,h8,Vc⟩
       . refine⟨wh,_,rfl,.inl ⟨us,s1 _ _ hw,?_⟩⟩;symm
         with_reducible refine fU ?_
         symm;exact⟨aam rfl,q _ s1⟩
       . refine ⟨wh,_,rfl,.inr ⟨hv,bs,s1 _ _ hw,⟨hhv.1,λi v e=>?_⟩,h8,λH2 s2=>?_⟩⟩
         . obtain⟨b, e1, e2⟩ := hhv.2 i v e;exact⟨b,e1,e2.same s1⟩
         rw[show(decide ((bs.length:Int)=((fs.map V.ref).length:Int)) && bs.all id)=false from by rw[aaa,hfl0];exact Vc];symm
         with_reducible refine fU ?_
         symm;exact⟨aam rfl,q _ (s1.trans s2)⟩
     have o3:=ok.n;have Vp:fs.length=D.ns.length:=by rw[hfl0,aaa]
     rcases hhv with ⟨rfl,hhs⟩ | ⟨wh,hv,rfl,hw,Ut,Tj⟩
     . symm;refine bz (K:=K) (a:=pr) (xs:=fs.map V.ref) (λi ys Z H2=>(∃ v,Z = [v])/\ah H1 H2/\∃ ps:List Addr,ys=ps.map V.ref/\ps.length=i/\∀ p∈ps,H2 p=some (.tup [.ax,.ax,.ax])) ⟨⟨_,rfl⟩,ah.refl _,[],rfl,rfl,λp z=>by cases z⟩ ?_ ?_ ?_
       . rintro i ys Z H2 hi ⟨_,s2,ps,rfl,RM,_⟩;rw[aaa] at hi;exact⟨av.of (s2 _ _ hpr1),by rw[aaa,RM,aan];lia⟩
       . rintro i v ys Z H2 SG ⟨⟨v1,rfl⟩,s2,ps,rfl,RM,SV⟩;symm;rename_i t nt;refine ⟨⟨_,rfl⟩,s2.trans (ag nt),ps++[t],by rw [aal];rfl,by rw [aab,RM];rfl,λp z=>?_⟩;rcases List.mem_append.mp z with z | z
         . exact ag nt _ _ (SV p z)
         . rw[List.mem_singleton.mp z];exact U
       rintro ys Z H2 ⟨_,s2,ps,rfl,RM,SV⟩ wh nwh;rw[aaa,Vp] at RM;have WC:(upd H2 wh (.lst (ps.map V.ref))) wh=some (.lst (ps.map V.ref)):=U;have sN:=s1.trans (s2.trans (ag (o:=.lst (ps.map V.ref)) nwh));have hps2:∀ p∈ps,(upd H2 wh (.lst (ps.map V.ref))) p=some (.tup [.ax,.ax,.ax]):=λp z=>ag nwh _ _ (SV p z);generalize (upd H2 wh (.lst (ps.map V.ref)))=H2' at WC sN hps2 ⊢;clear s2 nwh SV;have s2:=sN;have W8:=s2 _ _ To;have Ut:(ps.map V.ref).length=D.hs.length:=by rw[aaa,RM,ok.h]
       have Tj:∀ (i:Nat) (v:V),(ps.map V.ref)[i]? = some v->∃ h,D.hs[i]? = some h/\eF H2' v h:=λi v e=>by
         obtain⟨p,e1,rfl⟩:=dG e;have hi:i<D.ns.length:=by rw[<- RM];exact(List.getElem?_eq_some_iff.mp e1).1
         exact⟨[none,none,none],by rw[hhs,aae,aac hi];rfl,p,rfl,hps2 p (aad e1)⟩
       generalize ps.map V.ref=hv at WC Ut Tj ⊢;symm;have TF:((D.hs.map λ_=>true).length:Int)=((fs.map V.ref).length:Int):=by rw[aaa,aaa,Vp,ok.h]
       refine⟨wh,_,rfl,.inr ⟨hv,D.hs.map λ_=>true,WC,⟨by rw[aaa,Ut],λi v e=>?_⟩,by rw[Ut,ok.h];lia,λH3 s3=>?_⟩⟩
       . obtain⟨h, e1, p, rfl, e2⟩ := Tj i v e;have e3:=ok.hs h (aad e1);have e4:h.length=3:=by
           unfold bw at e3;rw[aah,decide_eq_true_eq] at e3;exact e3.1
         exact⟨true,by rw[aae,e1];rfl,.inl ⟨p,h,rfl,e2,by lia,e3.symm⟩⟩
       rw[decide_eq_true TF,abi,show(D.hs.map λ_=>true).all id=true from by rw[ab5];exact List.all_eq_true.mpr λ_ _=>rfl];have Ti:=s2.trans s3;have Te:=Ti _ _ To;have T5:=s3 _ _ WC;symm;intro x dx m0 g0 Wn;have sU:ah H3 (upd (upd H3 dx (.own x)) x (.ins a.ay dx [])):=λb o e=>by rw[af (ae e m0),af (ae e g0)];exact e
       refine⟨x,dx,pr,wh,fs,hv,D,rfl,U,sU _ _ Te,V0.to λf F z=>(z.same Ti).same sU,sU _ _ T5,Ut,λi v e=>?_,ok,λE' H4 k4 nd np S4=>⟨rfl,?_⟩⟩
       . obtain⟨h, e1, p, e0, e2⟩ := Tj i v e;exact⟨h,e1,p,e0,sU _ _ (s3 _ _ e2)⟩
       have s4:ah H H4:=λb o e=>k4 b o (sU _ _ (Ti _ _ e)) (ae (Ti _ _ e) m0);have Wu:H E'.ld=none:=aB (Ti.trans sU) nd;have np4:H E'.lp=none:=aB (Ti.trans sU) np;have Vu:=s4 _ _ To;clear sU s3 T5 Te Tj k4 nd np m0 g0;symm;rw[aaa,aaA,Vp];refine fS (λi Z H5=>(∃ u,Z = [some (.ref pr),some V.ax,some (.ref wh),some (.ref x),u])/\ah H H5/\dX a H5 x E' D (D.rows i) (D.iF i)) ⟨⟨_,rfl⟩,s4,S4⟩ ?_ ?_
       . rintro i Z H5 hi ⟨⟨u,rfl⟩,s5,S5⟩;have Ta:=S5.hm;rw[ab7];symm
         with_reducible refine aN Ta (S5.B.F.no "add_function" (by decide +kernel)) ((fE T).mono (by decide)) ?_
         symm;obtain⟨h,n,e1,e2,e3,e4⟩:=kK ok hi;have hrl:=eX ok i (by lia);refine⟨x,i,n,h,E',D,_,_,rfl,S5,e1,e2,uD D i,by rw[vv];lia,by lia,λH6 k6 S6=>?_⟩;refine⟨⟨_,rfl⟩,λb o e=>k6 b o (s5 b o e) (ae e Wu) (ae e np4),?_⟩;show dX a H6 x E' D (D.rows i++fZ ((D.hs[i]?).getD []) ((D.ns[i]?).getD 0) D.x i) (D.iF i++iN (D.rows i).length ((D.hs[i]?).getD []) ((D.ns[i]?).getD 0) D.x i 3++[(5*(i:Int)+4,(((D.rows i).length+(jO ((D.hs[i]?).getD []) ((D.ns[i]?).getD 0)).length+(fD ((D.hs[i]?).getD []) D.x i 3).length:Nat):Int))]);rw[e1,e2];exact S6
       . rintro Z H5 ⟨⟨u,rfl⟩,s5,S5⟩;have Ta:=S5.hm;have hrl:=eX ok D.ns.length (aai _);symm
         with_reducible refine aN Ta (S5.B.F.no "finished" (by decide +kernel)) ((iw T).mono (by decide)) ?_
         symm;refine⟨x,E',D,_,_,rfl,S5,au,by lia,hL,λtt c t fI H7 s7 a1 a2 a3 a4=>?_⟩;exact q tt c t fI H7 (s5.trans s7) a1 a2 a3 a4
     have WC:=s1 _ _ hw;have s2:=s1;have Tj:∀ (i:Nat) (v:V),hv[i]? = some v->∃ h,D.hs[i]? = some h/\eF H1 v h:=λi v e=>by
       obtain⟨h,e1,p,e0,e2⟩:=Tj i v e;exact⟨h,e1,p,e0,s1 _ _ e2⟩
     symm;have TF:((D.hs.map λ_=>true).length:Int)=((fs.map V.ref).length:Int):=by rw[aaa,aaa,Vp,ok.h]
     refine⟨wh,_,rfl,.inr ⟨hv,D.hs.map λ_=>true,WC,⟨by rw[aaa,Ut],λi v e=>?_⟩,by rw[Ut,ok.h];lia,λH3 s3=>?_⟩⟩
     . obtain⟨h, e1, p, rfl, e2⟩ := Tj i v e;have e3:=ok.hs h (aad e1);have e4:h.length=3:=by
         unfold bw at e3;rw[aah,decide_eq_true_eq] at e3;exact e3.1
       exact⟨true,by rw[aae,e1];rfl,.inl ⟨p,h,rfl,e2,by lia,e3.symm⟩⟩
     rw[decide_eq_true TF,abi,show(D.hs.map λ_=>true).all id=true from by rw[ab5];exact List.all_eq_true.mpr λ_ _=>rfl];have Ti:=s2.trans s3;have Te:=Ti _ _ To;have T5:=s3 _ _ WC;symm;intro x dx m0 g0 Wn;have sU:ah H3 (upd (upd H3 dx (.own x)) x (.ins a.ay dx [])):=λb o e=>by rw[af (ae e m0),af (ae e g0)];exact e
     refine⟨x,dx,pr,wh,fs,hv,D,rfl,U,sU _ _ Te,V0.to λf F z=>(z.same Ti).same sU,sU _ _ T5,Ut,λi v e=>?_,ok,λE' H4 k4 nd np S4=>⟨rfl,?_⟩⟩
     . obtain⟨h, e1, p, e0, e2⟩ := Tj i v e;exact⟨h,e1,p,e0,sU _ _ (s3 _ _ e2)⟩
     have s4:ah H H4:=λb o e=>k4 b o (sU _ _ (Ti _ _ e)) (ae (Ti _ _ e) m0);have Wu:H E'.ld=none:=aB (Ti.trans sU) nd;have np4:H E'.lp=none:=aB (Ti.trans sU) np;have Vu:=s4 _ _ To;clear sU s3 T5 Te Tj k4 nd np m0 g0;symm;rw[aaa,aaA,Vp];refine fS (λi Z H5=>(∃ u,Z = [some (.ref pr),some (V.ref wh),some (.ref wh),some (.ref x),u])/\ah H H5/\dX a H5 x E' D (D.rows i) (D.iF i)) ⟨⟨_,rfl⟩,s4,S4⟩ ?_ ?_
     . rintro i Z H5 hi ⟨⟨u,rfl⟩,s5,S5⟩;have Ta:=S5.hm;rw[ab7];symm
       with_reducible refine aN Ta (S5.B.F.no "add_function" (by decide +kernel)) ((fE T).mono (by decide)) ?_
       symm;obtain⟨h,n,e1,e2,e3,e4⟩:=kK ok hi;have hrl:=eX ok i (by lia);refine⟨x,i,n,h,E',D,_,_,rfl,S5,e1,e2,uD D i,by rw[vv];lia,by lia,λH6 k6 S6=>?_⟩;refine⟨⟨_,rfl⟩,λb o e=>k6 b o (s5 b o e) (ae e Wu) (ae e np4),?_⟩;show dX a H6 x E' D (D.rows i++fZ ((D.hs[i]?).getD []) ((D.ns[i]?).getD 0) D.x i) (D.iF i++iN (D.rows i).length ((D.hs[i]?).getD []) ((D.ns[i]?).getD 0) D.x i 3++[(5*(i:Int)+4,(((D.rows i).length+(jO ((D.hs[i]?).getD []) ((D.ns[i]?).getD 0)).length+(fD ((D.hs[i]?).getD []) D.x i 3).length:Nat):Int))]);rw[e1,e2];exact S6
     . rintro Z H5 ⟨⟨u,rfl⟩,s5,S5⟩;have Ta:=S5.hm;have hrl:=eX ok D.ns.length (aai _);symm
       with_reducible refine aN Ta (S5.B.F.no "finished" (by decide +kernel)) ((iw T).mono (by decide)) ?_
       symm;refine⟨x,E',D,_,_,rfl,S5,au,by lia,hL,λtt c t fI H7 s7 a1 a2 a3 a4=>?_⟩;exact q tt c t fI H7 (s5.trans s7) a1 a2 a3 a4
   . rcases h with ⟨_,q⟩ | ⟨hf,_⟩ | ⟨hf,_⟩
     . exact q _ s1
     . rw[hb] at hf;cases hf
     . rw[hb] at hf;cases hf
theorem BB (T:TX):iI P w K mg base (cS P w) 9 "made" (pK a):=(zD T).1
theorem Hu (T:TX):FJ P w K mg base (cS P w) 9 "made" (pK a):=(zD T).2
theorem y_:aaY "ValueError" = some (.type "ValueError"):=by decide +kernel
theorem tQ {ea D:Addr}{b:Bool}(e:aba K (.ref C) (.ref D)=some b)(q:Q (.bl b) H):uS K ea C [.ref ea,.ref D] H Q:=Fh (c:=.ref D) (λz=>nomatch z) e q
theorem Fl {ea:Addr}{D:String}{b:Bool}(e:aba K (.ref C) (.type D)=some b)(q:Q (.bl b) H):uS K ea C [.ref ea,.ty D] H Q:=Fh (c:=.ty D) (λz=>nomatch z) e q
theorem LY {sp:Sp}{t:TA}{C:Addr}{i:Nat}{th:Addr->TS}{D:Ends}{Z : L2.St}{H:Hp}
   (h:t Z H λvs H1=>sp vs H1 (λ_ H2=>D.nx Z H2) (λc _ H2=>c=.ref C/\∀ ea,H2 ea=none->th ea { nx:=λZ' H'=>D.nx (Z'.set i none) H',rt:=λ_ _=>False } (Z.set i (some (.ref ea))) H2)):LQ (Ie sp t) C i th D Z H:=h
theorem vR (T:TX):FE 10 "_law_refused" (Bg a):=by
 refine aR 9 T.vq dS ?_ ?_;walk_at"in"
 . obtain⟨pr, w', Fs, rfl, hp, hb, q⟩ := h;walk_at"h";have nd:=dS.nd;refine' aF ?_ ?_;walk_at"tS";walk_at"c";walk_at"n"
   exact (Le (i := 4) rfl rfl rfl (J7 (BB T) (hr.mono (by decide)) rfl (aa (pv 0) (aa (pv 1) ao))) T.kh rfl dS.nd rfl rfl (λea oe hxc _ => (aF (c9 (i := 2) dS.nd rfl (Or.inl rfl) il)
     (cv (c9 (i:=3) dS.nd rfl (Or.inl rfl) (fA (aG (mz (K:=K) rfl (aaz _ (List.mem_singleton.mpr rfl)) hxc T.jf) rfl T.aY aZ (aa (pv 4) (aa (bI (v:=.ref a.eN) rfl T.zV rfl) ao))) (fA (aG (mz (K:=K) rfl (aaz _ (List.mem_singleton.mpr rfl)) hxc T.jf) rfl T.aY aZ (aa (pv 4) (aa (dh (v:=.ty "ValueError") rfl T.zK y_ rfl) ao))) (ib (zO (aG (mz (K:=K) rfl (aaz _ (List.mem_singleton.mpr rfl)) hxc T.jf) rfl T.aY aZ (aa (pv 4) (aa (bI (v:=.ref a.dk) rfl T.D1 rfl) ao))))))))))))
   walk_at"m";walk_at"tS";walk_at"s";symm
   with_reducible refine LY ?_
   symm;refine⟨pr,Fs,_,rfl,hp,?_⟩;have sp:ah H H:=ah.refl _;rcases hb with hb | ⟨hb,hw⟩
   . refine .inl ⟨hb,λH2 s2=>⟨rfl,λea hea=>?_⟩⟩;simp only [acb,aca];symm
     with_reducible refine tQ T.fe ?_
     symm
     with_reducible refine Fl T.ff ?_
     symm
     with_reducible refine tQ T.gh ?_
     refine(?_:cU 3 (V.bl true) _ _ _);dsimp only[cU,zN,acb,aca];symm;exact q _ s2
   . refine .inr (.inl ⟨hb,⟨w',rfl,hw⟩,λH2 s2=>⟨rfl,λea hea=>?_⟩⟩);simp only [acb,aca];symm
     with_reducible refine tQ T.fe ?_
     symm
     with_reducible refine Fl T.ff ?_
     symm
     with_reducible refine tQ T.gh ?_
     refine(?_:cU 3 (V.bl true) _ _ _);dsimp only[cU,zN,acb,aca];symm;exact q _ s2
end
section
theorem J9 {fa:Addr}{fd:abc}(T:TX)(F:dY K "law" "law" f9 fa fd):cW P w K mg base eA 11 fa fd ["_law_script"] (pM K):=by
 refine F.ok (k:=10) zg (λvs H Q E h=>?_) (λRK A outer s H vs Q E hr h=>?_)
 . obtain⟨a0, ns, rfl, _⟩ := h;rfl
 . obtain ⟨a0, ns, rfl, hS, h63, q⟩ := h;walk_at "h";have nd:=zg.nd;refine' aF ?_ ?_;walk_at "tS";walk_at "c";walk_at "c";walk_at "c";walk_at "c";walk_at "n";walk_at "f";exact (PW.pt (fY (dq (cJ (K:=K) rfl (aQ (qz T) (hr.mono (by decide)) aX rfl (aa (aQ (BB T) (hr.mono (by decide)) Bp rfl (aa (bt (b_ (K:=K) rfl) (pv 6) aH (λ_ _=>rfl)) (aa (bt (b_ (K:=K) rfl) (pv 6) aH (λ_ _=>rfl)) ao))) ao)))) (hW (dq (cJ (K:=K) rfl (aQ (qz T) (hr.mono (by decide)) aX rfl (aa (Hy (Hu T) (hr.mono (by decide)) Bp rfl (aa (bt (b_ (K:=K) rfl) (pv 6) aH (λ_ _=>rfl)) ao)) ao)))))));walk_at "tB";exact aT;walk_at "c";walk_at "c";walk_at "c";walk_at "n"
   (refine' c9 (i:=8) ?Rq ?RC ?Q2 ?PK ?P9 ?QE;(case Rq=>exact zg.nd);(case RC=>rfl);(case Q2=>exact(Or.inl rfl));(case P9=>rfl);(case QE=>exact .inl rfl);(case PK=>(refine' dD (eR (K:=K) rfl) ?Qt ?Qj;(case Qt=>exact(pv 2));(case Qj=>(refine' gj ?Qz;(case Qz=>(refine' aa ?QH ?PL ?QC;(case QC=>rfl);(case QH=>(refine' iu ?PJ;(case PJ=>(refine' aa ?PM ?Qn ?QI;(case QI=>rfl);(case PM=>exact aH);(case Qn=>(refine' aa ?PF ?Qr ?PN;(case PN=>rfl);(case PF=>(refine' gj ?Pz;(case Pz=>(refine' aa ?P0 ?Qb ?Pw;(case Pw=>rfl);(case P0=>(refine' iu ?Qw;(case Qw=>(refine' aa ?Qp ?Ql ?PH;(case PH=>rfl);(case Qp=>exact il);(case Ql=>(refine' aa ?Qk ?PQ ?Qi;(case Qi=>rfl);(case Qk=>exact(dD (eR (K:=K) rfl) aH (dD ya (pv 1) (dD DV aH aH))));(case PQ=>exact ao)))))));(case Qb=>exact ao)))));(case Qr=>exact ao)))))));(case PL=>exact ao))))))))
   walk_at"m";walk_at"tS";walk_at"s";symm;rename_i lp iK lh T3;have hN:∃ N:Nat,(1+cellAt ns 0%3).toNat=N/\1<=N/\N<=3:=⟨_,rfl,by lia,by lia⟩
   obtain⟨N,hN,N1,N3⟩:=hN;rw[hN];generalize cellAt ns 0=c;have hx:By (cellAt ns 4%6):=⟨by lia,by lia⟩
   have s0:ah H (upd (upd H lp (.lst [])) lh (.lst [])):=(ag iK).trans (ag T3);have hlp0:(upd (upd H lp (.lst [])) lh (.lst [])) lp=some (.lst []):=ag T3 _ _ U;have UJ:(upd (upd H lp (.lst [])) lh (.lst [])) lh=some (.lst []):=U;have nph:lp≠lh:=ae U T3;have nh0:H lh=none:=aB (ag iK) T3;generalize (upd (upd H lp (.lst [])) lh (.lst []))=H0 at s0 hlp0 UJ ⊢;refine fS (λi Z H1=>(∃ u v,Z = [some (.ref a0),some (.int c),some (.ref lp),some (.ref lh),u,v,none,none,none])/\ah H H1/\∃ (ks:List Nat) (hs:List (List (Option Int))) (fs:List Addr) (hv:List V),ks.length=i/\BH lp lh (cellAt ns 4%6) ks hs fs hv H1) ⟨⟨_,_,rfl⟩,s0,[],[],[],[],rfl,(λk m=>by cases m),(λk m=>by cases m),rfl,hlp0,bJ.nil,UJ,rfl,(λi v e=>by simp at e)⟩ ?_ ?_
   . rintro i Z H1 hi ⟨⟨u,v,rfl⟩,s1,ks,hs,fs,hv,hk,A⟩;have hS1:=ah.seq s1 hS;have R8:=A.hp;have Tr:=A.hh;have vl:=A.vl;have fl:=A.fx.1;have hl:=A.hl;rw [aaa] at fl;rw [ab7];obtain ⟨m,hm⟩:∃ m:Nat,cellAt ns (1+(i:Int))%4=(m:Int):=⟨(cellAt ns (1+(i:Int))%4).toNat,by lia⟩
     symm;rename_i t1 n1 t2 n2 lb nb t nt;rw[hm];have kq:∀ b o,H1 b=some o->b≠lp->(upd (upd (upd (upd (upd H1 t1 (.tup [.str "set",.int (cellAt ns 4%6),.int 7])) t2 (.tup [.str "give",.int 1])) lb (.lst [.ref t1,.ref t2])) t (.tup [.int (m:Int),.ref lb])) lp (.lst (fs.map V.ref++[V.ref t]))) b=some o:=λb o e ne=>by rw[af ne];exact ak (ak (ak (ak e n1) n2) nb) nt
     have d1:=ae R8 n1;have d2:=ae (ak R8 n1) n2;have d3:=ae (ak (ak R8 n1) n2) nb;have d4:=ae (ak (ak (ak R8 n1) n2) nb) nt;have c1:=ae Tr n1;have c2:=ae (ak Tr n1) n2;have c3:=ae (ak (ak Tr n1) n2) nb;have c4:=ae (ak (ak (ak Tr n1) n2) nb) nt;have q0:(upd (upd (upd (upd (upd H1 t1 (.tup [.str "set",.int (cellAt ns 4%6),.int 7])) t2 (.tup [.str "give",.int 1])) lb (.lst [.ref t1,.ref t2])) t (.tup [.int (m:Int),.ref lb])) lp (.lst (fs.map V.ref++[V.ref t]))) lp=some (.lst (fs.map V.ref++[V.ref t])):=U;have q1:(upd (upd (upd (upd (upd H1 t1 (.tup [.str "set",.int (cellAt ns 4%6),.int 7])) t2 (.tup [.str "give",.int 1])) lb (.lst [.ref t1,.ref t2])) t (.tup [.int (m:Int),.ref lb])) lp (.lst (fs.map V.ref++[V.ref t]))) t1=some (.tup [.str "set",.int (cellAt ns 4%6),.int 7]):=by rw[af d1.symm];exact ak (ak (ak U n2) nb) nt
     have q2:(upd (upd (upd (upd (upd H1 t1 (.tup [.str "set",.int (cellAt ns 4%6),.int 7])) t2 (.tup [.str "give",.int 1])) lb (.lst [.ref t1,.ref t2])) t (.tup [.int (m:Int),.ref lb])) lp (.lst (fs.map V.ref++[V.ref t]))) t2=some (.tup [.str "give",.int 1]):=by rw[af d2.symm];exact ak (ak U nb) nt
     have q3:(upd (upd (upd (upd (upd H1 t1 (.tup [.str "set",.int (cellAt ns 4%6),.int 7])) t2 (.tup [.str "give",.int 1])) lb (.lst [.ref t1,.ref t2])) t (.tup [.int (m:Int),.ref lb])) lp (.lst (fs.map V.ref++[V.ref t]))) lb=some (.lst [.ref t1,.ref t2]):=by rw[af d3.symm];exact ak U nt
     have q4:(upd (upd (upd (upd (upd H1 t1 (.tup [.str "set",.int (cellAt ns 4%6),.int 7])) t2 (.tup [.str "give",.int 1])) lb (.lst [.ref t1,.ref t2])) t (.tup [.int (m:Int),.ref lb])) lp (.lst (fs.map V.ref++[V.ref t]))) t=some (.tup [.int (m:Int),.ref lb]):=by rw[af d4.symm];exact U
     have q5:=kq _ _ Tr nph.symm;generalize (upd (upd (upd (upd (upd H1 t1 (.tup [.str "set",.int (cellAt ns 4%6),.int 7])) t2 (.tup [.str "give",.int 1])) lb (.lst [.ref t1,.ref t2])) t (.tup [.int (m:Int),.ref lb])) lp (.lst (fs.map V.ref++[V.ref t])))=Hq at kq q0 q1 q2 q3 q4 q5 ⊢;clear n1 n2 nb nt;symm;refine⟨_,rfl,λp h H2 s2 np U7 hm2=>?_⟩;have e5:=s2 _ _ q5;have nlt:hv.length<100:=by lia
     symm;have up:∀ b o,Hq b=some o->b≠lh->(upd H2 lh (.lst (hv++[V.ref p]))) b=some o:=λb o e ne=>by rw[af ne];exact s2 _ _ e
     have p1:=ae q0 np;have p2:=ae q5 np
     exact ⟨⟨_, _, rfl⟩, λb o e => up _ _ (kq _ _ (s1 _ _ e) (ae e iK)) (ae e nh0), ks ++ [m], hs ++ [h], fs ++ [t], hv ++ [V.ref p], by rw [aab, hk]; rfl,
       A.step (λb o e k1 k2=>up _ _ (kq _ _ e k1) k2) (up _ _ q0 nph) U ⟨lb,gG (up _ _ q4 c4.symm) d4.symm c4.symm,[t1,t2],gG (up _ _ q3 c3.symm) d3.symm c3.symm,bJ.cons (gG (up _ _ q1 c1.symm) d1.symm c1.symm) (bJ.cons (gG (up _ _ q2 c2.symm) d2.symm c2.symm) bJ.nil)⟩ ⟨p,rfl,gG (by rw[af p2.symm];exact U7) p1.symm p2.symm⟩ (by lia) hm2⟩
   . rintro Z H1 ⟨⟨u,v,rfl⟩,s1,ks,hs,fs,hv,hk,A⟩;have hS1:=ah.seq s1 hS;obtain ⟨ok,hP,hb,hg,Tj⟩:=A.end (by lia) (by lia) hx;have R8:=A.hp;have Tr:=A.hh;have vl:=A.vl;have fl:=A.fx.1;have hl:=A.hl;rw [aaa] at fl;have hF:bJ (gO H1) fs (ks.map (k_ (cellAt ns 4%6))):=A.fx.to λ_ _ z=>z.same me;clear s0 hlp0 UJ A;symm;rename_i l1 n1 l2 n2 tt nt;have k1:=ag (o:=.lst (fs.map V.ref)) n1;have sB:ah H1 (upd (upd (upd H1 l1 (.lst (fs.map V.ref))) l2 (.lst hv)) tt (.tup [.ref l1,.ref l2])):=(k1.trans (ag n2)).trans (ag nt);have b1:(upd (upd (upd H1 l1 (.lst (fs.map V.ref))) l2 (.lst hv)) tt (.tup [.ref l1,.ref l2])) l1=some (.lst (fs.map V.ref)):=ak (ak U n2) nt;have b2:(upd (upd (upd H1 l1 (.lst (fs.map V.ref))) l2 (.lst hv)) tt (.tup [.ref l1,.ref l2])) l2=some (.lst hv):=ak U nt;have b3:(upd (upd (upd H1 l1 (.lst (fs.map V.ref))) l2 (.lst hv)) tt (.tup [.ref l1,.ref l2])) tt=some (.tup [.ref l1,.ref l2]):=U;generalize (upd (upd (upd H1 l1 (.lst (fs.map V.ref))) l2 (.lst hv)) tt (.tup [.ref l1,.ref l2]))=H2 at sB b1 b2 b3 ⊢;clear n1 n2 nt k1;symm;refine ⟨l1,_,.ref l2,rfl,hP.copy R8 sB b1,.inr (.inr ⟨hb,⟨ks,hs,cellAt ns 4%6⟩,ok,rfl,.inr ⟨l2,hv,rfl,b2,vl,λi v e=>?_⟩,v_ ok,Bj ok (by show 0<ks.length;lia),λtm cd t fI H3 s3 a1 a2 a3 a4=>?_⟩)⟩
     . obtain⟨h, e1, e2⟩ := Tj i v e;exact⟨h,e1,e2.same sB⟩
     symm;have z1:=yN ok (by show 0<ks.length;lia);have z2:=eX ok ks.length (aai _);have z3:fI.length<=2000:=by lia
     refine⟨tm,cd,t,fI.map V.ref,rfl,a1,a2,by rw[aaa,a3];exact a4,by rw[aaa];lia,by rw[aaa];lia,λH4 s4=>?_⟩;have sC:=s3.trans s4;clear a1 a2 a3 a4 s3 s4 z1 z2 z3;have b1':=sC _ _ b1;have b3':=sC _ _ b3;symm
     with_reducible refine Jk ?_
     symm;have sB4:=sB.trans sC;have ok2:(c5.mk ks (ks.map λ_=>[none,none,none]) (cellAt ns 4%6)).ok:=⟨ok.n,by rw[aaa],ok.ns,λh m=>by obtain⟨_,_,rfl⟩:=List.mem_map.mp m;rfl,ok.x⟩
     refine⟨l1,_,.ax,rfl,hP.copy R8 sB4 b1',.inr (.inr ⟨hb,⟨ks,ks.map λ_=>[none,none,none],cellAt ns 4%6⟩,ok2,rfl,.inl ⟨rfl,rfl⟩,v_ ok2,Bj ok2 (by show 0<ks.length;lia),λtm cd t fI H5 s5 a1 a2 a3 a4=>?_⟩)⟩;symm;have z1:=yN ok2 (by show 0<ks.length;lia);have z2:=eX ok2 ks.length (aai _);have z3:fI.length<=2000:=by lia
     refine⟨tm,cd,t,fI.map V.ref,rfl,a1,a2,by rw[aaa,a3];exact a4,by rw[aaa];lia,by rw[aaa];lia,λH6 s6=>?_⟩;have sD:=sC.trans (s5.trans s6);have sH:=sB.trans sD;clear a1 a2 a3 a4 s5 s6 z1 z2 z3 b1' b3' sC sB4 ok2;have b1':=sD _ _ b1;have b2':=sD _ _ b2;have b3':=sD _ _ b3;have hp6:=sH _ _ R8;have VS:=sH _ _ Tr;have hP6:=hP.same sH;have hS6:=ah.seq sH hS1;have hg6:=hg.same sH;have hvh6:∀ (i:Nat) (v:V),hv[i]? = some v->∃ h,hs[i]? = some h/\eF H6 v h:=λi v e=>let ⟨h,e1,e2⟩:=Tj i v e;⟨h,e1,e2.same sH⟩;have hF6:bJ (gO H6) fs (ks.map (k_ (cellAt ns 4%6))):=hF.to λ_ _ z=>z.same sH;clear sD sH sB Tj hg hP R8 Tr hS1 b1 b2 b3 hF;symm;rename_i t2 Wo;have s7:=ag (o:=.tup [.ref lp,.ref lh]) Wo;have c1:=s7 _ _ b1';have c2:=s7 _ _ b2';have c3:=s7 _ _ b3';have VN:=s7 _ _ hp6;have hh7:=s7 _ _ VS;have hP7:=hP6.same s7;have hS7:=ah.seq s7 hS6;have hg7:=hg6.same s7;have W3:∀ (i:Nat) (v:V),hv[i]? = some v->∃ h,hs[i]? = some h/\eF (upd H6 t2 (.tup [.ref lp,.ref lh])) v h:=λi v e=>let ⟨h,e1,e2⟩:=hvh6 i v e;⟨h,e1,e2.same s7⟩;have hF7:bJ (gO (upd H6 t2 (.tup [.ref lp,.ref lh]))) fs (ks.map (k_ (cellAt ns 4%6))):=hF6.to λ_ _ z=>z.same s7;have Uk:(upd H6 t2 (.tup [.ref lp,.ref lh])) t2=some (.tup [.ref lp,.ref lh]):=U;generalize (upd H6 t2 (.tup [.ref lp,.ref lh]))=H7 at c1 c2 c3 VN hh7 hP7 hS7 hg7 W3 hF7 Uk ⊢;clear s7 Wo b1' b2' b3' hp6 VS hP6 hS6 hg6 hvh6 hF6;have x1:df K H7 ((ks.map (k_ (cellAt ns 4%6))).map nH) (fs.map V.ref):=oP (λp F z=>NZ z) hF7;have x2:df K H7 (hs.map ml) hv:=y9 vl W3
     with_reducible refine IC (.tuple [.list ((ks.map (k_ (cellAt ns 4%6))).map nH),.list (hs.map ml)]) (eh (az.of c3) (aI (kS (av.of c1) x1) (aI (kS (av.of c2) x2) b8))) (eh (az.of Uk) (aI (kS (av.of VN) x1) (aI (kS (av.of hh7) x2) b8))) (Kj _ _) ?_
     clear x1 x2 c1 c2 c3 Uk hF7 W3;symm;refine⟨lh,_,_,hv,rfl,hh7,by lia,by lia,hg7,by lia,by lia,λw7 H8 s8 hb8=>?_⟩;symm;refine⟨lp,w7,_,rfl,hP7.same s8,.inr ⟨hb,by rw[aaa,<- hl,<- vl];exact hb8⟩,λH9 s9=>?_⟩;have sE:=s8.trans s9;have hp9:=sE _ _ VN;have hh9:=sE _ _ hh7;have hP9:=hP7.same sE;clear sE s9 hb8 s8 hg7 hS7 hP7 hh7 VN;symm;rename_i g1 m1 gl m2 gf m3 gs m4 gw m5 e1 m6 e2 m7;have sG:ah H9 (upd (upd (upd (upd (upd (upd (upd H9 g1 (.tup [.str "give",.int (6+c%10 ^ abk 20)])) gl (.lst [.ref g1])) gf (.tup [.int 0,.ref gl])) gs (.lst [.ref gf])) gw (.lst (fs.map V.ref++[V.ref gf]))) e1 (.lst [])) e2 (.lst [])):=((((((ag m1).trans (ag m2)).trans (ag m3)).trans (ag m4)).trans (ag m5)).trans (ag m6)).trans (ag m7);have y1:(upd (upd (upd (upd (upd (upd (upd H9 g1 (.tup [.str "give",.int (6+c%10 ^ abk 20)])) gl (.lst [.ref g1])) gf (.tup [.int 0,.ref gl])) gs (.lst [.ref gf])) gw (.lst (fs.map V.ref++[V.ref gf]))) e1 (.lst [])) e2 (.lst [])) g1=some (.tup [.str "give",.int (6+c%10 ^ abk 20)]):=ak (ak (ak (ak (ak (ak U m2) m3) m4) m5) m6) m7;have y2:(upd (upd (upd (upd (upd (upd (upd H9 g1 (.tup [.str "give",.int (6+c%10 ^ abk 20)])) gl (.lst [.ref g1])) gf (.tup [.int 0,.ref gl])) gs (.lst [.ref gf])) gw (.lst (fs.map V.ref++[V.ref gf]))) e1 (.lst [])) e2 (.lst [])) gl=some (.lst [.ref g1]):=ak (ak (ak (ak (ak U m3) m4) m5) m6) m7;have y3:(upd (upd (upd (upd (upd (upd (upd H9 g1 (.tup [.str "give",.int (6+c%10 ^ abk 20)])) gl (.lst [.ref g1])) gf (.tup [.int 0,.ref gl])) gs (.lst [.ref gf])) gw (.lst (fs.map V.ref++[V.ref gf]))) e1 (.lst [])) e2 (.lst [])) gf=some (.tup [.int 0,.ref gl]):=ak (ak (ak (ak U m4) m5) m6) m7;have y5:(upd (upd (upd (upd (upd (upd (upd H9 g1 (.tup [.str "give",.int (6+c%10 ^ abk 20)])) gl (.lst [.ref g1])) gf (.tup [.int 0,.ref gl])) gs (.lst [.ref gf])) gw (.lst (fs.map V.ref++[V.ref gf]))) e1 (.lst [])) e2 (.lst [])) gw=some (.lst (fs.map V.ref++[V.ref gf])):=ak (ak U m6) m7;have y6:(upd (upd (upd (upd (upd (upd (upd H9 g1 (.tup [.str "give",.int (6+c%10 ^ abk 20)])) gl (.lst [.ref g1])) gf (.tup [.int 0,.ref gl])) gs (.lst [.ref gf])) gw (.lst (fs.map V.ref++[V.ref gf]))) e1 (.lst [])) e2 (.lst [])) e1=some (.lst []):=ak U m7;generalize (upd (upd (upd (upd (upd (upd (upd H9 g1 (.tup [.str "give",.int (6+c%10 ^ abk 20)])) gl (.lst [.ref g1])) gf (.tup [.int 0,.ref gl])) gs (.lst [.ref gf])) gw (.lst (fs.map V.ref++[V.ref gf]))) e1 (.lst [])) e2 (.lst []))=HF at sG y1 y2 y3 y5 y6 ⊢;have hpow : 0<=c%10 ^ abk 20:=Int.emod_nonneg _ (by decide);generalize c%10 ^ abk 20=pw at hpow y1;have hPw:eW HF gw (ks.map (k_ (cellAt ns 4%6))++[⟨0,[.give (6+pw)]⟩]):=eW.more hp9 hP9 sG y5 ⟨gl,y3,[g1],y2,bJ.cons y1 bJ.nil⟩ ⟨Int.le_refl 0,by show(0:Int)<=3;decide,(λs m=>by rw[List.mem_singleton.mp m];show 0<=6+pw;lia),by show 1<=2;decide⟩ (by rw[aaa];lia);have hhF:=sG _ _ hh9;have hPe:eW HF e1 []:=⟨[],y6,bJ.nil,(λF m=>by cases m),aaW _⟩
     clear sG y1 y2 y3 y5 y6 m1 m2 m3 m4 m5 m6 m7 hp9 hh9 hP9;symm;refine⟨e1,e2,_,rfl,hPe,.inl rfl,λHX sX=>?_⟩;have hPx:=hPw.same sX;have hhx:=sX _ _ hhF;have RW:∃ v0,cI hv 0=some v0:=by
       cases hv with
       | nil=>rw[aaZ] at vl;lia
       | cons v0 _=>exact⟨v0,cA (j:=0) rfl⟩
     obtain⟨v0,RW⟩:=RW;clear hPe hhF hPw sX;symm;rename_i x1 o1 x2 o2
     with_reducible refine(?_:Bg a _ _ _ _)
     exact⟨gw,x2,_,rfl,(hPx.same (ag o1)).same (ag o2),.inl (Ga (by lia)),λH' _=>q H'⟩
end
theorem law_fn {P:Program}{w:World}{K:W.Frag}{mg:Str->Option Value}{base:Heap}{a:aP}{fa:Addr}{fd:abc}(T:Txt w K mg a)(F:dY K "law" "law" f9 fa fd):cW P w K mg base eA 11 fa fd ["_law_script"] (pM K):=Ly (λ_ _ T F=>J9 T F) ⟨P,w,K,mg,base,a⟩ _ _ T F
variable {f:Addr}
theorem gW {K:W.Frag}{x qual:Str}{st:Stmt}{da:Addr}{n:Nat}{oc dc:Value}{od an dd:Option Addr}{Si dl:Array (Option Value)}{kV RP pm RK ct:Value}(l:K.lookup f=some ⟨oc,od,.func (W.fnOf x qual (bg st) (a9 st) (ai st) (.ref da) kV RP pm an RK ct),Si⟩)
   (d:K.lookup da=some ⟨dc,dd,.seq #[.none] n,dl⟩) (c:acx K RK qual=true) (k:abz K (.ref f)=true):eJ K x qual st f (W.fnOf x qual (bg st) (a9 st) (ai st) (.ref da) kV RP pm an RK ct):=JW l ⟨d,n,rfl⟩ c k
theorem FD {K:W.Frag}{x qual:Str}{st:Stmt}{fd:abc}{ps:List Str}(F:eJ K x qual st f fd)
   (h:∀ (da:Addr) (kV RP pm:Value) (an:Option Addr) (RK ct:Value) (us:List Value),us.length=ps.length->∃ k:Option (Array Value)->Sem (List (Str×Value)),acM (W.fnOf x qual (bg st) (a9 st) (ai st) (.ref da) kV RP pm an RK ct) ⟨us,[]⟩=adt (.ref da) >>= k/\k (some #[.none])=pure (ps.zip us)):Binds K fd ps []:=by
 obtain⟨oc,od,da,kV,RP,pm,an,RK,ct,Si,o,n,rfl,lk,Sn,ld,ed⟩:=F.ex;intro s us KX hl;rw[aaJ] at hl ⊢;obtain⟨k,h1,h2⟩:=h da kV RP pm an RK ct us hl;exact .of_defaults rfl (KX _ _ ld) ed h1 h2
section
variable {K:W.Frag} {h:Heap} {mg:Str->Option Value} {x qual:Str} {st:Stmt} {f C da:Addr} {n:Nat} {oc dc:Value} {od an dd:Option Addr} {Si dl:Array (Option Value)} {kV RP pm RK ct:Value} {ps:List Str}
theorem tF (X:K.In h)(G:h.Ns abl mg)(a:W.nsIn K abl x=some (some (.ref f)))(l:K.lookup f=some ⟨oc,od,.func (W.fnOf x qual (bg st) (a9 st) (ai st) .none kV RP pm an RK ct),Si⟩)(c:acx K RK qual=true)(k:abz K (.ref f)=true)(b:∀ (kV RP pm:Value) (an:Option Addr) (RK ct:Value) (us:List Value),us.length=ps.length->acM (W.fnOf x qual (bg st) (a9 st) (ai st) .none kV RP pm an RK ct) ⟨us,[]⟩=pure (ps.zip us)):∃ f fd,dY K x qual st f fd/\mg x=some (.ref f)/\Binds K fd ps []:=⟨_,_,jo l c k,W.mg_of X G a,(jo l c k).binds b⟩
theorem tM (a:abA K (.ref C) x=some (some (.ref f)))(i:W.isFn K (.ref f)=true)(l:K.lookup f=some ⟨oc,od,.func (W.fnOf x qual (bg st) (a9 st) (ai st) .none kV RP pm an RK ct),Si⟩)(c:acx K RK qual=true)(k:abz K (.ref f)=true)(b:∀ (kV RP pm:Value) (an:Option Addr) (RK ct:Value) (us:List Value),us.length=ps.length->acM (W.fnOf x qual (bg st) (a9 st) (ai st) .none kV RP pm an RK ct) ⟨us,[]⟩=pure (ps.zip us)):∃ f fd,dY K x qual st f fd/\vd K C x f/\Binds K fd ps []:=⟨_,_,jo l c k,⟨a,i,k⟩,(jo l c k).binds b⟩
theorem tI (m:W.makesIn K C=true)(kc:abz K (.ref C)=true)(a:abA K (.ref C) "__init__" = some (some (.ref f)))(i:W.isFn K (.ref f)=true)(l:K.lookup f=some ⟨oc,od,.func (W.fnOf "__init__" qual (bg st) (a9 st) (ai st) .none kV RP pm an RK ct),Si⟩)(c:acx K RK qual=true)(k:abz K (.ref f)=true)(b:∀ (kV RP pm:Value) (an:Option Addr) (RK ct:Value) (us:List Value),us.length=ps.length->acM (W.fnOf "__init__" qual (bg st) (a9 st) (ai st) .none kV RP pm an RK ct) ⟨us,[]⟩=pure (ps.zip us)):∃ f fd,dY K "__init__" qual st f fd/\Mk K C f/\Binds K fd ps []:=⟨_,_,jo l c k,⟨m,a,i,kc⟩,(jo l c k).binds b⟩
theorem Q_ (m:W.makesIn K C=true)(kc:abz K (.ref C)=true)(a:abA K (.ref C) "__init__" = some (some (.ref f)))(i:W.isFn K (.ref f)=true)(l:K.lookup f=some ⟨oc,od,.func (W.fnOf "__init__" qual (bg st) (a9 st) (ai st) (.ref da) kV RP pm an RK ct),Si⟩)(d:K.lookup da=some ⟨dc,dd,.seq #[.none] n,dl⟩)(c:acx K RK qual=true)(k:abz K (.ref f)=true)(b:∀ (da:Addr) (kV RP pm:Value) (an:Option Addr) (RK ct:Value) (us:List Value),us.length=ps.length->∃ k:Option (Array Value)->Sem (List (Str×Value)),acM (W.fnOf "__init__" qual (bg st) (a9 st) (ai st) (.ref da) kV RP pm an RK ct) ⟨us,[]⟩=adt (.ref da) >>= k/\k (some #[.none])=pure (ps.zip us))(b2:∀ (da:Addr) (kV RP pm:Value) (an:Option Addr) (RK ct:Value) (us:List Value),us.length+1=ps.length->∃ k:Option (Array Value)->Sem (List (Str×Value)),acM (W.fnOf "__init__" qual (bg st) (a9 st) (ai st) (.ref da) kV RP pm an RK ct) ⟨us,[]⟩=adt (.ref da) >>= k/\k (some #[.none])=pure (ps.zip (us++[.none]))):∃ f fd,eJ K "__init__" qual st f fd/\Mk K C f/\Binds K fd ps []/\Binds K fd ps [.none]:=⟨_,_,gW l d c k,⟨m,a,i,kc⟩,FD (gW l d c k) b,(gW l d c k).F4 b2⟩
theorem QY (X:K.In h)(G:h.Ns abl mg)(a:W.nsIn K abl x=some (some (.ref f)))(l:K.lookup f=some ⟨oc,od,.func (W.fnOf x qual (bg st) (a9 st) (ai st) (.ref da) kV RP pm an RK ct),Si⟩)(d:K.lookup da=some ⟨dc,dd,.seq #[.none] n,dl⟩)(c:acx K RK qual=true)(k:abz K (.ref f)=true)(b:∀ (da:Addr) (kV RP pm:Value) (an:Option Addr) (RK ct:Value) (us:List Value),us.length=ps.length->∃ k:Option (Array Value)->Sem (List (Str×Value)),acM (W.fnOf x qual (bg st) (a9 st) (ai st) (.ref da) kV RP pm an RK ct) ⟨us,[]⟩=adt (.ref da) >>= k/\k (some #[.none])=pure (ps.zip us))(b2:∀ (da:Addr) (kV RP pm:Value) (an:Option Addr) (RK ct:Value) (us:List Value),us.length+1=ps.length->∃ k:Option (Array Value)->Sem (List (Str×Value)),acM (W.fnOf x qual (bg st) (a9 st) (ai st) (.ref da) kV RP pm an RK ct) ⟨us,[]⟩=adt (.ref da) >>= k/\k (some #[.none])=pure (ps.zip (us++[.none]))):∃ f fd,eJ K x qual st f fd/\mg x=some (.ref f)/\Binds K fd ps []/\Binds K fd ps [.none]:=⟨_,_,gW l d c k,W.mg_of X G a,FD (gW l d c k) b,(gW l d c k).F4 b2⟩
theorem cR {a:Addr}:RelV (.ref a) (.ref a):=rfl
theorem tS {a:Addr}{its:Array Value}{sl:Array (Option Value)}(hz:its.size<=aar)(l:K.lookup a=some ⟨.type "tuple",od,.seq its n,sl⟩)(v:aE xs its.toList):∀ H,az K H a xs:=Pt l hz v
end
variable {α : Type}
theorem Li {P:List α->Prop}(f:∀ x0,P [x0]):∀ us:List α,us.length=1->P us
 | [x0],_=>f x0
theorem Q6 {P:List α->Prop}(f:∀ x0,P [x0]):∀ us:List α,us.length+1=2->P us:=λus h=>Li f us (Nat.succ.inj h)
theorem ln2 {P:List α->Prop}(f:∀ x0 x1,P [x0,x1]):∀ us:List α,us.length=2->P us
 | [x0,x1],_=>f x0 x1
theorem Rx {P:List α->Prop}(f:∀ x0 x1,P [x0,x1]):∀ us:List α,us.length+1=3->P us:=λus h=>ln2 f us (Nat.succ.inj h)
theorem Pl {P:List α->Prop}(f:∀ x0 x1 x2,P [x0,x1,x2]):∀ us:List α,us.length=3->P us
 | [x0,x1,x2],_=>f x0 x1 x2
theorem Ph {P:List α->Prop}(f:∀ x0 x1 x2 x3,P [x0,x1,x2,x3]):∀ us:List α,us.length=4->P us
 | [x0,x1,x2,x3],_=>f x0 x1 x2 x3
theorem tL {K:W.Frag}{h:Heap}{mg:Str->Option Value}{fa:Addr}{oc:Value}{od an:Option Addr}{Si:Array (Option Value)}{kV RP pm RK ct:Value}(X:K.In h)(G:h.Ns abl mg)(e:mg "law" = some (.ref fa))(a:W.nsIn K abl "law" = some (some (.ref f)))(l:K.lookup f=some ⟨oc,od,.func (W.fnOf "law" "law" (bg f9) (a9 f9) (ai f9) .none kV RP pm an RK ct),Si⟩)(c:acx K RK "law" = true)(k:abz K (.ref f)=true):∃ fd,dY K "law" "law" f9 fa fd/\∀ (s:Shared) (v:Value),BindsTo s fd ⟨[v],[]⟩ [("_law_script",v)]:=by
 cases e.symm.trans (W.mg_of X G a)
 exact⟨_,jo l c k,λs v=>.of_eq rfl⟩
theorem walk {l:W.OpenLaw}{q:Program}{SJ:List Str}{XP:(Str->Option Value)->Heap->Prop}{YP:World->Heap->Prop}{d:DefRec}{K:Params->W.Frag}(hn:l.most=some 63)(hdf:d.params.defaults=[])
   (hY:∀ (w:World) (h:Heap),YP w h->(K w.params).In h)
   (F:∀ (w:World) (mg:Str->Option Value) (fa:Addr) (h:Heap),(K w.params).In h->h.Ns abl mg->mg d.name=some (.ref fa) ->
     ∃ fd:abc,(∀ (s:Shared) (u:Value),BindsTo s fd ⟨[u],[]⟩ [("_law_script",u)])/\∀ base:Heap,(K w.params).In base->base.Ns abl mg->cW l.prog w (K w.params) mg base eA 11 fa fd ["_law_script"] (pM (K w.params))) :
   W.WalkO q SJ XP YP l.row.toRowW d [] (λf vs=>PySem.call f vs) :=
 L2.JL (n:=63) (k:=11) (x:="_law_script") (CX:=λ_=>eA) (sp:=λw=>pM (K w.params)) hn (by decide) hdf ⟨rfl,by decide,by decide,rfl⟩ hY F (λ_ _ a ns hl _ hS=>⟨a,ns,rfl,hS,hl,λ_=>rfl⟩) λ_ _ _ _ _ z=>z
local macro_rules | `(tactic| walk_at "k") => `(tactic| first | k_is | kit_is | rfl | kernel_rfl)
local macro_rules | `(tactic| walk_at "b") => `(tactic| (first | (intro _ _ _ _ _ _; first | (refine FB.ln2 ?_; intro _ _; rfl) | (refine FB.Li ?_; intro _; rfl) | (refine FB.Pl ?_; intro _ _ _; rfl) | (refine FB.Ph ?_; intro _ _ _ _; rfl) | (refine FB.ln0 ?_; rfl) | (refine FB.ln5 ?_; intro _ _ _ _ _; rfl) | (refine FB.ln6 ?_; intro _ _ _ _ _ _; rfl)) | (intro _ _ _ _ _ _ _; first | exact FB.ln0 ⟨_, rfl, rfl⟩ | exact FB.Li (λ_ => ⟨_, rfl, rfl⟩) | exact FB.ln2 (λ_ _ => ⟨_, rfl, rfl⟩) | exact FB.Pl (λ_ _ _ => ⟨_, rfl, rfl⟩) | exact FB.Ph (λ_ _ _ _ => ⟨_, rfl, rfl⟩) | exact FB.ln5 (λ_ _ _ _ _ => ⟨_, rfl, rfl⟩) | exact FB.ln6 (λ_ _ _ _ _ _ => ⟨_, rfl, rfl⟩) | exact FB.lm0 ⟨_, rfl, rfl⟩ | exact FB.Q6 (λ_ => ⟨_, rfl, rfl⟩) | exact FB.Rx (λ_ _ => ⟨_, rfl, rfl⟩) | exact FB.lm3 (λ_ _ _ => ⟨_, rfl, rfl⟩) | exact FB.lm4 (λ_ _ _ _ => ⟨_, rfl, rfl⟩) | exact FB.lm5 (λ_ _ _ _ _ => ⟨_, rfl, rfl⟩) | exact FB.lm6 (λ_ _ _ _ _ _ => ⟨_, rfl, rfl⟩))))
local macro_rules | `(tactic| walk_at "T") => `(tactic| first | ((with_reducible refine W.mg_none_of (by assumption) (by assumption) ?_); walk_at "k") | ((with_reducible refine W.mg_of (by assumption) (by assumption) ?_); walk_at "k") | ((with_reducible refine' ⟨_, W.mg_of (by assumption) (by assumption) ?gg⟩); (case gg => walk_at "k")) | ((with_reducible refine' FB.tF (by assumption) (by assumption) ?a ?l ?c ?k ?b); (case a => walk_at "k"); (case l => walk_at "k"); (case c => walk_at "k"); (case k => walk_at "k"); (case b => walk_at "b")) | ((with_reducible refine' FB.tM ?a ?i ?l ?c ?k ?b); (case a => walk_at "k"); (case i => walk_at "k"); (case l => walk_at "k"); (case c => walk_at "k"); (case k => walk_at "k"); (case b => walk_at "b")) | ((with_reducible refine' FB.tI ?m ?kc ?a ?i ?l ?c ?k ?b); (case m => walk_at "k"); (case kc => walk_at "k"); (case a => walk_at "k"); (case i => walk_at "k"); (case l => walk_at "k"); (case c => walk_at "k"); (case k => walk_at "k"); (case b => walk_at "b")) | ((with_reducible refine' FB.Q_ ?m ?kc ?a ?i ?l ?d ?c ?k ?b ?b2); (case m => walk_at "k"); (case kc => walk_at "k"); (case a => walk_at "k"); (case i => walk_at "k"); (case l => walk_at "k"); (case d => walk_at "k"); (case c => walk_at "k"); (case k => walk_at "k"); (case b => walk_at "b"); (case b2 => walk_at "b")) | ((with_reducible refine' FB.QY (by assumption) (by assumption) ?a ?l ?d ?c ?k ?b ?b2); (case a => walk_at "k"); (case l => walk_at "k"); (case d => walk_at "k"); (case c => walk_at "k"); (case k => walk_at "k"); (case b => walk_at "b"); (case b2 => walk_at "b")) | (unfold L2.aS; walk_at "k") | ((with_reducible show aba _ _ _ = _); walk_at "k") | ((with_reducible show L2.dQ _ _); constructor <;> walk_at "k") | ((with_reducible show abA _ _ _ = _ /\ _); constructor <;> walk_at "k") | ((with_reducible refine ⟨W.mg_of (by assumption) (by assumption) ?_, ?_⟩) <;> walk_at "k") | ((with_reducible refine ⟨?_, ?_, ?_, ?_, ?_, ?_, ?_, ?_⟩) <;> walk_at "k") | ((with_reducible refine ⟨?_, ?_, ?_, ?_⟩) <;> walk_at "k") | ((with_reducible refine ⟨?_, ?_⟩) <;> walk_at "k") | (unfold L2.aS; walk_at "k") | walk_at "k")
set_option maxRecDepth 100000 in
set_option maxHeartbeats 0 in
theorem O6:PySem.Challenge.rw_frameback_k61_what_is_not_made.Holds:=by
 refine hd ?_
 k_fill
 refine FB.walk (l:=PySem.Challenge.rw_frameback_k61_what_is_not_made) rfl rfl (λw h Y=>FB.M6 Y) ?F
 case F =>
   intro w mg fa h KX G hmg;have T:∃ a:FB.aP,FB.Txt w (L2.IQ KX) mg a:=by
     dsimp only[L2.IQ];refine'⟨⟨0,_,_,0,0,0,0,_,_,_,_,_,_,_,_,0,0,0,_,_,_,0,_,_,_,0,_,0,0,_,0,0,_,_,_,0⟩,?T⟩;(case T =>
       constructor
       (case eU=>walk_at"T")
       (case dI=>exact FB.tS (its:=#[.int 4 _,.int 5 _,.int 6 _]) (aam rfl) (by walk_at"k") (.cons ⟨_,rfl⟩ (.cons ⟨_,rfl⟩ (.cons ⟨_,rfl⟩ .nil))))
       (case uW=>walk_at"T")
       (case vC=>exact⟨_,_,_,_,_,_,_,_,_,_,_,_,_,⟨by walk_at"k",(show aaN [(Sum.inr ("set" : Str):Sum Int Str),(Sum.inr ("copy" : Str):Sum Int Str),(Sum.inr ("sum" : Str):Sum Int Str),(Sum.inr ("minus" : Str):Sum Int Str),(Sum.inr ("product" : Str):Sum Int Str),(Sum.inr ("less" : Str):Sum Int Str),(Sum.inr ("call" : Str):Sum Int Str),(Sum.inr ("if" : Str):Sum Int Str),(Sum.inr ("while" : Str):Sum Int Str),(Sum.inr ("try" : Str):Sum Int Str),(Sum.inr ("drop" : Str):Sum Int Str),(Sum.inr ("give" : Str):Sum Int Str),(Sum.inr ("hand" : Str):Sum Int Str)] from by decide +kernel),[("set",_,.ref _),("copy",_,.ref _),("sum",_,.ref _),("minus",_,.ref _),("product",_,.ref _),("less",_,.ref _),("call",_,.ref _),("if",_,.ref _),("while",_,.ref _),("try",_,.ref _),("drop",_,.ref _),("give",_,.ref _),("hand",_,.ref _)],_,(.cons FB.cR (.cons FB.cR (.cons FB.cR (.cons FB.cR (.cons FB.cR (.cons FB.cR (.cons FB.cR (.cons FB.cR (.cons FB.cR (.cons FB.cR (.cons FB.cR (.cons FB.cR (.cons FB.cR .nil))))))))))))),by walk_at"k"⟩,FB.tS (its:=#[.str "name" _,.str "value" _]) (aam rfl) (by walk_at"k") (.cons ⟨_,rfl⟩ (.cons ⟨_,rfl⟩ .nil)),FB.tS (its:=#[.str "name" _,.str "name" _]) (aam rfl) (by walk_at"k") (.cons ⟨_,rfl⟩ (.cons ⟨_,rfl⟩ .nil)),FB.tS (its:=#[.str "name" _,.str "name" _,.str "name" _]) (aam rfl) (by walk_at"k") (.cons ⟨_,rfl⟩ (.cons ⟨_,rfl⟩ (.cons ⟨_,rfl⟩ .nil))),FB.tS (its:=#[.str "name" _,.str "name" _,.str "name" _]) (aam rfl) (by walk_at"k") (.cons ⟨_,rfl⟩ (.cons ⟨_,rfl⟩ (.cons ⟨_,rfl⟩ .nil))),FB.tS (its:=#[.str "name" _,.str "name" _,.str "name" _]) (aam rfl) (by walk_at"k") (.cons ⟨_,rfl⟩ (.cons ⟨_,rfl⟩ (.cons ⟨_,rfl⟩ .nil))),FB.tS (its:=#[.str "name" _,.str "name" _,.str "name" _]) (aam rfl) (by walk_at"k") (.cons ⟨_,rfl⟩ (.cons ⟨_,rfl⟩ (.cons ⟨_,rfl⟩ .nil))),FB.tS (its:=#[.str "name" _,.str "function" _,.str "names" _]) (aam rfl) (by walk_at"k") (.cons ⟨_,rfl⟩ (.cons ⟨_,rfl⟩ (.cons ⟨_,rfl⟩ .nil))),FB.tS (its:=#[.str "name" _,.str "statements" _,.str "statements" _]) (aam rfl) (by walk_at"k") (.cons ⟨_,rfl⟩ (.cons ⟨_,rfl⟩ (.cons ⟨_,rfl⟩ .nil))),FB.tS (its:=#[.str "name" _,.str "statements" _]) (aam rfl) (by walk_at"k") (.cons ⟨_,rfl⟩ (.cons ⟨_,rfl⟩ .nil)),FB.tS (its:=#[.str "statements" _,.str "name" _,.str "statements" _]) (aam rfl) (by walk_at"k") (.cons ⟨_,rfl⟩ (.cons ⟨_,rfl⟩ (.cons ⟨_,rfl⟩ .nil))),FB.tS (its:=#[.str "name" _]) (aam rfl) (by walk_at"k") (.cons ⟨_,rfl⟩ .nil),FB.tS (its:=#[.str "name" _]) (aam rfl) (by walk_at"k") (.cons ⟨_,rfl⟩ .nil),FB.tS (its:=#[.str "function" _,.str "names" _]) (aam rfl) (by walk_at"k") (.cons ⟨_,rfl⟩ (.cons ⟨_,rfl⟩ .nil))⟩)
       (case qM=>walk_at"T")
       (case j_=>exact FB.tS (its:=#[.str "back" _,.int 4 _,.int 5 _,.int 6 _]) (aam rfl) (by walk_at"k") (.cons ⟨_,rfl⟩ (.cons ⟨_,rfl⟩ (.cons ⟨_,rfl⟩ (.cons ⟨_,rfl⟩ .nil)))))
       (case kz=>walk_at"T")
       (case lB=>exact⟨_,FB.tS (its:=#[.int 0 _,.int 128 _,.ref _]) (aam rfl) (by walk_at"k") (.cons ⟨_,rfl⟩ (.cons ⟨_,rfl⟩ (.cons rfl .nil))),FB.tS (its:=#[.int 16 _,.int 32 _,.int 64 _]) (aam rfl) (by walk_at"k") (.cons ⟨_,rfl⟩ (.cons ⟨_,rfl⟩ (.cons ⟨_,rfl⟩ .nil)))⟩)
       all_goals walk_at"T")
   have B:∃ fd:abc,L2.dY (L2.IQ KX) "law" "law" FB.f9 fa fd/\∀ (s:Shared) (v:Value),BindsTo s fd ⟨[v],[]⟩ [("_law_script",v)]:=by
     dsimp only[L2.IQ];refine' FB.tL KX G hmg ?l1 ?l2 ?l3 ?l4;(case l1=>walk_at"k")
     (case l2=>walk_at"k")
     (case l3=>walk_at"k")
     (case l4=>walk_at"k")
   obtain⟨a,T⟩:=T;obtain⟨fd,FF,B⟩:=B;exact⟨fd,B,λbase _ _=>FB.law_fn T FF⟩
end FB
theorem PySem.Challenge.cw_frameback_k61_what_is_not_made_holds : PySem.Challenge.rw_frameback_k61_what_is_not_made.Holds :=
 FB.O6
