import PyProof.Rows.All
import Wide.All
import OpenK.AllK
import Wide.FinOn
import Lean
import PyProof.EqAt
import PyProof.EqKinds
import PyProof.TupleCall
import PySem.Challenge.RW_frameback_k92_whole_all_as_at_the_call
set_option Elab.async false
set_option linter.all false
set_option compiler.extract_closed false
set_option maxRecDepth 100000
namespace FB
open PySem PySem.W PyProof.Rows
end FB
namespace PySem.W.Fast
local macro_rules | `(command| #version) => do
  let f := fun (n : Lean.Name) => let i := Lean.mkIdent (.mkSimple s!"tw{n.hash.toNat}"); `(theorem $i:ident : True := trivial)
  let mut r : Array Lean.Syntax := #[← f `PySem.Challenge.pw_frameback_k92_whole_all_as_at_the_call]
  for (k, a, b) in [("heap",39,39),("heap",46,46),("heap",1263,1263),("o",43,46),("o",49,609),("o",611,1054),("o",1058,1262),("sts",49,49),("sts",71,71),("sts",86,86),("sts",101,101),("sts",137,137),("sts",167,167),("sts",211,211),("sts",254,254),("sts",297,297),("sts",326,326),("sts",355,355),("sts",398,398),("sts",448,448),("sts",477,477),("sts",513,513),("sts",552,552),("sts",609,609),("sts",611,611),("sts",661,661),("sts",711,711),("sts",761,761),("sts",804,804),("sts",854,854),("sts",1058,1058),("sts",1139,1139),("sts",1221,1221),("tree",47,47),("tree",70,70),("tree",85,85),("tree",100,100),("tree",136,136),("tree",166,166),("tree",210,210),("tree",253,253),("tree",296,296),("tree",325,325),("tree",354,354),("tree",397,397),("tree",447,447),("tree",476,476),("tree",512,512),("tree",551,551),("tree",608,609),("tree",660,660),("tree",710,710),("tree",760,760),("tree",803,803),("tree",853,853),("tree",968,968),("tree",1054,1054),("tree",1138,1138),("tree",1220,1220),("tree",1262,1262),("view",39,39)] do
    for i in [a:b + 1] do
      r := r.push (← f (.str `FB.hd s!"{k}_{i}"))
  return Lean.mkNullNode r
#version
end PySem.W.Fast
open List renaming getElem?_eq_getElem→aaa,length_append→aab,length_map→aac,getElem?_map→aag,mem_of_getElem?→aaj,size_toArray→aam,getElem?_append_left→aao,getElem?_append_right→aaq,getD_eq_getElem?_getD→aar,replicate→aat,mem_append_right→aax,length_take→aaz,length_cons→aaA,length_replicate→aaB,map_append→aaF,length_singleton→aaG,append_nil→aaL,map_cons→aaN,getElem?_set_self→aaO,getElem?_set_ne→aaP,mem_cons→aaQ,not_mem_nil→aaR,take_length→aaU,getElem_mem→aaV,length_drop→aaZ,mem_cons_of_mem→aa0,mem_append_left→aa5,Nodup→aa6,lookup_cons→aa8,map_map→aba,replicate_succ→abm,any_cons→abt,mem_cons_self→abu,lookup→abv,length_set→abx,find?_cons→aby,take_add_one→abz,map→abC,getElem_of_mem→abD,filterMap_cons→abE,getElem?_replicate→abF,mem_of_mem_take→abT,range→ab7,flatten_cons→acn,append_assoc→aco,getElem?_eq_none→acy,all_cons→acH,length_nil→acJ,cons_ne_nil→ada,take_of_length_le→adg,mem_of_mem_drop→adv,take_take→ady,nodup_nil→adz,length_reverse→adG,getElem?_drop→adK,findIdx?_cons→adL,filterMap_map→adM
open PySem renaming wpAny_bind→aad,starEach→aai,wpAny_pure→aak,sizeLine→aal,wpAny_mono→aaH,sizeLine_eq→aaI,compareOp→aaT,bootBuiltins→aaY,FuncData→aa3,mainGlobals→aa4,wpAny_holding→aa9,wpAny_truthy_bool→abd,Spec→abk,wpAny_newObj_type→abp,wpAny_field→abr,wpAny_Call_Name_kw→abw,binaryOp→abB,wpAny_execs_nil→abH,wpAny_pyIter_list→abI,bindArgs→abR,keywordEach→abU,codeAny_mono→abV,wpAny_passesOwn→abW,attributeBase→abZ,mem_of_lookup→ab0,sysModules→acg,seqItems?→acr,wpAny_standAt→acu,wpAny_callSpecial?_slot→acw,wpAny_loadPart_at→acF,wpAny_call_entry→acK,codeAny_call_builtin→acP,wpAny_call→acR,assignEach→acS,swapsWith→acW,getMethod→acX,sliceBounds→acY,excClassObj→acZ,callWith→ac2,backToKw→ac3,ExcBaseFacts→ac4,wpAny_setField_rec→ac7,wpAny_setField→ac_,behindInMarks→adm,wpAny_execs_cons→adu,letOwnedTupleGo→adI
open PySem.Str renaming ofString→aae,empty→adl
open PySem.Heap renaming get?_push_of_some→aaf,lt_size→aap,get?_push_size→aau,get?_update_other→aa7,get?_update_self→abb,size_push→abY,SameBut→ab8,MadeExcOf→acU,get?_none_of_le→adw
open Nat renaming le_refl→aah,lt_of_lt_of_le→aay,ne_of_lt→aaC,le_trans→aaJ,testBit_and→aaS,zero_le→aaX,le_of_ble_eq_true→aa2,lt_of_le_of_lt→abe,eq_of_testBit_eq→abi,le_succ→abn,testBit_two_pow→abJ,ne_of_gt→abP,lt_irrefl→abS,zero_testBit→ab2,testBit_zero→ab3,testBit_succ→ab4,lt_succ_self→ab5,le_add_right→ab6,not_lt_zero→acb,lt_succ_of_lt→acv,le_of_eq→acz,mod_eq_of_lt→acG,pow_le_pow_right→acI,min_eq_left→acL,le_add_left→acM,succ_le_succ→ade,and_le_right→adf,zero_add→adn,le_of_lt→ado,and_le_left→adq,pow_lt_pow_right→adC,testBit_or→adE,lt_two_pow_self→adJ
open Bool renaming false_ne_true→aan,and_eq_true→aaM,false_eq_true→acQ,not_eq_true'→ac1,false_or→ac6,eq_iff_iff→adk
open True renaming intro→aas
open PySem.Builtin renaming bitNot→aav,bitAnd→aaK
open Option.some renaming inj→aaw
open PySem.Value renaming ref→S8,none→abj,int→abl,bool→adi,str→adH
open Int renaming toNat_natCast→aaE,toNat_of_nonneg→aa1,natCast_nonneg→abf,emod_lt_of_pos→ace,eq_ofNat_of_zero_le→acf,le_refl→acs,emod_nonneg→acN,natAbs_natCast→acV
open False renaming elim→aaW
open PySem.W renaming findIn→aa_,keepIn→abc,codeIn→abN,emptyDict→ab_,kitOne→acj,kia_one→ack,hideAll→acm,instObj→ac9,callWith_K→adx
open PySem.Builtin.Int renaming intBits→abg
open PySem.Builtin.SmallTypes renaming nextOf→abh
open PySem.F renaming excBase_ValueError→abo,plainAttrs_list→abA
open Option renaming toList_some→abq,map_eq_some_iff→abK,isSome_some→adF
open PyProof.Rows renaming callWith_type1→abG,subscriptTail_builtinR→adA
open Lean.Macro renaming throwUnsupported→abL
open PySem.Builtin.Slice renaming slicePlaces→abM,sliceAdjust→acC
open PySem.Builtin.Tuple renaming tupleExact→abO
open PySem.Builtin.List renaming listTooLong→abQ,listSubscript?→acq
open PySem.AutoSeq1 renaming wpAny_loadPart'→abX
open Array renaming length_toList→ab1,getElem?_toList→adh
open PySem.PyData renaming depthAll→ab9,eqv→ach,canLayAll0→aci,int→acE,canLay0→adp
open PySem.Obj renaming mapFields→aca,data_mapFields→acd,isFreed_of_fields→ads,mapSeq→adt
open Decidable renaming of_not_not→acp
open Lean renaming TSyntax→acx,mkIdent→adj
open PySem.PassesOwn renaming never→acA,leaving→adB
open ForInStep renaming yield→acB
open PySem.Calls renaming evalArgs_plain→acD,callWith_builtin→adb
open BitVec renaming toNat_ofNat→acO
open PySem.NameKind renaming free→acT
open Sum.inl renaming inj→ac0
open Nat.succ renaming inj→ac5
open PySem.Heap.SameBut renaming update→ac8
open PySem.Paired renaming length→adD
open PySem.Code renaming quiet_builtin→adN
namespace FB
open PySem PySem.W PyProof.Rows
set_option maxRecDepth 100000 in
set_option maxHeartbeats 0 in
open_top hd for PySem.Challenge.rw_frameback_k92_whole_all_as_at_the_call
end FB
local macro_rules|`(tactic|nofun)=>`(tactic|decide +kernel)
local macro_rules|`(tactic|ac_nf)=>`(tactic|walk_at "in")
local macro_rules|`(tactic|bv_omega)=>`(tactic|walk_at "hlk")
variable {G:Prop}
theorem exE2.{u0,u1} {a0:Sort u0} {a1:Sort u1} {P:a0->a1->Prop} (h:∃ x0 x1,P x0 x1) (k:∀ x0 x1,P x0 x1->G):G:=h.elim λx0 h=>h.elim λx1 h=>k x0 x1 h
theorem exI2.{u0,u1} {a0:Sort u0} {a1:Sort u1} {P:a0->a1->Prop} (x0:a0) (x1:a1) (h:P x0 x1):∃ x0 x1,P x0 x1:=.intro x0 ( .intro x1 h)
theorem exE3.{u0,u1,u2} {a0:Sort u0} {a1:Sort u1} {a2:Sort u2} {P:a0->a1->a2->Prop} (h:∃ x0 x1 x2,P x0 x1 x2) (k:∀ x0 x1 x2,P x0 x1 x2->G):G:=h.elim λx0 h=>h.elim λx1 h=>h.elim λx2 h=>k x0 x1 x2 h
theorem exI3.{u0,u1,u2} {a0:Sort u0} {a1:Sort u1} {a2:Sort u2} {P:a0->a1->a2->Prop} (x0:a0) (x1:a1) (x2:a2) (h:P x0 x1 x2):∃ x0 x1 x2,P x0 x1 x2:=.intro x0 ( .intro x1 ( .intro x2 h))
theorem exE4.{u0,u1,u2,u3} {a0:Sort u0} {a1:Sort u1} {a2:Sort u2} {a3:Sort u3} {P:a0->a1->a2->a3->Prop} (h:∃ x0 x1 x2 x3,P x0 x1 x2 x3) (k:∀ x0 x1 x2 x3,P x0 x1 x2 x3->G):G:=h.elim λx0 h=>h.elim λx1 h=>h.elim λx2 h=>h.elim λx3 h=>k x0 x1 x2 x3 h
theorem exI4.{u0,u1,u2,u3} {a0:Sort u0} {a1:Sort u1} {a2:Sort u2} {a3:Sort u3} {P:a0->a1->a2->a3->Prop} (x0:a0) (x1:a1) (x2:a2) (x3:a3) (h:P x0 x1 x2 x3):∃ x0 x1 x2 x3,P x0 x1 x2 x3:=.intro x0 ( .intro x1 ( .intro x2 ( .intro x3 h)))
theorem exE5.{u0,u1,u2,u3,u4} {a0:Sort u0} {a1:Sort u1} {a2:Sort u2} {a3:Sort u3} {a4:Sort u4} {P:a0->a1->a2->a3->a4->Prop} (h:∃ x0 x1 x2 x3 x4,P x0 x1 x2 x3 x4) (k:∀ x0 x1 x2 x3 x4,P x0 x1 x2 x3 x4->G):G:=h.elim λx0 h=>h.elim λx1 h=>h.elim λx2 h=>h.elim λx3 h=>h.elim λx4 h=>k x0 x1 x2 x3 x4 h
theorem exI5.{u0,u1,u2,u3,u4} {a0:Sort u0} {a1:Sort u1} {a2:Sort u2} {a3:Sort u3} {a4:Sort u4} {P:a0->a1->a2->a3->a4->Prop} (x0:a0) (x1:a1) (x2:a2) (x3:a3) (x4:a4) (h:P x0 x1 x2 x3 x4):∃ x0 x1 x2 x3 x4,P x0 x1 x2 x3 x4:=.intro x0 ( .intro x1 ( .intro x2 ( .intro x3 ( .intro x4 h))))
theorem exE6.{u0,u1,u2,u3,u4,u5} {a0:Sort u0} {a1:Sort u1} {a2:Sort u2} {a3:Sort u3} {a4:Sort u4} {a5:Sort u5} {P:a0->a1->a2->a3->a4->a5->Prop} (h:∃ x0 x1 x2 x3 x4 x5,P x0 x1 x2 x3 x4 x5) (k:∀ x0 x1 x2 x3 x4 x5,P x0 x1 x2 x3 x4 x5->G):G:=h.elim λx0 h=>h.elim λx1 h=>h.elim λx2 h=>h.elim λx3 h=>h.elim λx4 h=>h.elim λx5 h=>k x0 x1 x2 x3 x4 x5 h
theorem exI6.{u0,u1,u2,u3,u4,u5} {a0:Sort u0} {a1:Sort u1} {a2:Sort u2} {a3:Sort u3} {a4:Sort u4} {a5:Sort u5} {P:a0->a1->a2->a3->a4->a5->Prop} (x0:a0) (x1:a1) (x2:a2) (x3:a3) (x4:a4) (x5:a5) (h:P x0 x1 x2 x3 x4 x5):∃ x0 x1 x2 x3 x4 x5,P x0 x1 x2 x3 x4 x5:=.intro x0 ( .intro x1 ( .intro x2 ( .intro x3 ( .intro x4 ( .intro x5 h)))))
theorem exE7.{u0,u1,u2,u3,u4,u5,u6} {a0:Sort u0} {a1:Sort u1} {a2:Sort u2} {a3:Sort u3} {a4:Sort u4} {a5:Sort u5} {a6:Sort u6} {P:a0->a1->a2->a3->a4->a5->a6->Prop} (h:∃ x0 x1 x2 x3 x4 x5 x6,P x0 x1 x2 x3 x4 x5 x6) (k:∀ x0 x1 x2 x3 x4 x5 x6,P x0 x1 x2 x3 x4 x5 x6->G):G:=h.elim λx0 h=>h.elim λx1 h=>h.elim λx2 h=>h.elim λx3 h=>h.elim λx4 h=>h.elim λx5 h=>h.elim λx6 h=>k x0 x1 x2 x3 x4 x5 x6 h
theorem exI7.{u0,u1,u2,u3,u4,u5,u6} {a0:Sort u0} {a1:Sort u1} {a2:Sort u2} {a3:Sort u3} {a4:Sort u4} {a5:Sort u5} {a6:Sort u6} {P:a0->a1->a2->a3->a4->a5->a6->Prop} (x0:a0) (x1:a1) (x2:a2) (x3:a3) (x4:a4) (x5:a5) (x6:a6) (h:P x0 x1 x2 x3 x4 x5 x6):∃ x0 x1 x2 x3 x4 x5 x6,P x0 x1 x2 x3 x4 x5 x6:=.intro x0 ( .intro x1 ( .intro x2 ( .intro x3 ( .intro x4 ( .intro x5 ( .intro x6 h))))))
theorem exE8.{u0,u1,u2,u3,u4,u5,u6,u7} {a0:Sort u0} {a1:Sort u1} {a2:Sort u2} {a3:Sort u3} {a4:Sort u4} {a5:Sort u5} {a6:Sort u6} {a7:Sort u7} {P:a0->a1->a2->a3->a4->a5->a6->a7->Prop} (h:∃ x0 x1 x2 x3 x4 x5 x6 x7,P x0 x1 x2 x3 x4 x5 x6 x7) (k:∀ x0 x1 x2 x3 x4 x5 x6 x7,P x0 x1 x2 x3 x4 x5 x6 x7->G):G:=h.elim λx0 h=>h.elim λx1 h=>h.elim λx2 h=>h.elim λx3 h=>h.elim λx4 h=>h.elim λx5 h=>h.elim λx6 h=>h.elim λx7 h=>k x0 x1 x2 x3 x4 x5 x6 x7 h
theorem exI8.{u0,u1,u2,u3,u4,u5,u6,u7} {a0:Sort u0} {a1:Sort u1} {a2:Sort u2} {a3:Sort u3} {a4:Sort u4} {a5:Sort u5} {a6:Sort u6} {a7:Sort u7} {P:a0->a1->a2->a3->a4->a5->a6->a7->Prop} (x0:a0) (x1:a1) (x2:a2) (x3:a3) (x4:a4) (x5:a5) (x6:a6) (x7:a7) (h:P x0 x1 x2 x3 x4 x5 x6 x7):∃ x0 x1 x2 x3 x4 x5 x6 x7,P x0 x1 x2 x3 x4 x5 x6 x7:=.intro x0 ( .intro x1 ( .intro x2 ( .intro x3 ( .intro x4 ( .intro x5 ( .intro x6 ( .intro x7 h)))))))
variable {p0 p1 p2:Prop}
theorem anE3 (h:p0/\p1/\p2)(k:p0->p1->p2->G):G:=k h.1 h.2.1 h.2.2
theorem anI3 (h0:p0)(h1:p1)(h2:p2):p0/\p1/\p2:=.intro h0 (.intro h1 h2)
variable {p3:Prop}
theorem anE4 (h:p0/\p1/\p2/\p3)(k:p0->p1->p2->p3->G):G:=k h.1 h.2.1 h.2.2.1 h.2.2.2
theorem anI4 (h0:p0)(h1:p1)(h2:p2)(h3:p3):p0/\p1/\p2/\p3:=.intro h0 (.intro h1 (.intro h2 h3))
variable {p4:Prop}
theorem anE5 (h:p0/\p1/\p2/\p3/\p4)(k:p0->p1->p2->p3->p4->G):G:=k h.1 h.2.1 h.2.2.1 h.2.2.2.1 h.2.2.2.2
theorem anI5 (h0:p0)(h1:p1)(h2:p2)(h3:p3)(h4:p4):p0/\p1/\p2/\p3/\p4:=.intro h0 (.intro h1 (.intro h2 (.intro h3 h4)))
variable {p5:Prop}
theorem anE6 (h:p0/\p1/\p2/\p3/\p4/\p5)(k:p0->p1->p2->p3->p4->p5->G):G:=k h.1 h.2.1 h.2.2.1 h.2.2.2.1 h.2.2.2.2.1 h.2.2.2.2.2
theorem anI6 (h0:p0)(h1:p1)(h2:p2)(h3:p3)(h4:p4)(h5:p5):p0/\p1/\p2/\p3/\p4/\p5:=.intro h0 (.intro h1 (.intro h2 (.intro h3 (.intro h4 h5))))
variable {p6:Prop}
theorem anE7 (h:p0/\p1/\p2/\p3/\p4/\p5/\p6)(k:p0->p1->p2->p3->p4->p5->p6->G):G:=k h.1 h.2.1 h.2.2.1 h.2.2.2.1 h.2.2.2.2.1 h.2.2.2.2.2.1 h.2.2.2.2.2.2
theorem anI7 (h0:p0)(h1:p1)(h2:p2)(h3:p3)(h4:p4)(h5:p5)(h6:p6):p0/\p1/\p2/\p3/\p4/\p5/\p6:=.intro h0 (.intro h1 (.intro h2 (.intro h3 (.intro h4 (.intro h5 h6)))))
theorem anE8 (h:p0/\p1/\p2/\p3/\p4/\p5/\p6/\p7)(k:p0->p1->p2->p3->p4->p5->p6->p7->G):G:=k h.1 h.2.1 h.2.2.1 h.2.2.2.1 h.2.2.2.2.1 h.2.2.2.2.2.1 h.2.2.2.2.2.2.1 h.2.2.2.2.2.2.2
theorem anI8 (h0:p0)(h1:p1)(h2:p2)(h3:p3)(h4:p4)(h5:p5)(h6:p6)(h7:p7):p0/\p1/\p2/\p3/\p4/\p5/\p6/\p7:=.intro h0 (.intro h1 (.intro h2 (.intro h3 (.intro h4 (.intro h5 (.intro h6 h7))))))
set_option hygiene false
local macro_rules | `(tactic| obtain ⟨$ps,*⟩ := $e:term) => do
 let ps:=ps.getElems
 let N:=ps.size
 if N<3 then abL
 let z:=λ(i:Nat)=>do return adj (<- Lean.Macro.addMacroScope (.mkSimple s!"z{i}"))
 let one := λ(i : Nat) (p : Lean.Syntax) => show Lean.MacroM (acx `ident × Option (acx `tactic)) from do
   let y <- z i
   if p[1].getNumArgs == 0 && p[0][0].getNumArgs == 1 && p[0][0][0].getKind == ``Lean.Parser.Tactic.rcasesPat.one then
     if p[0][0][0][0].getId == `rfl then return (y, some (<- `(tactic| first | subst $y:ident | cases $y:ident)))
     return (⟨p[0][0][0][0]⟩,none)
   if p[1].getNumArgs == 0 && p[0][0].getNumArgs == 1 && p[0][0][0].getKind == ``Lean.Parser.Tactic.rcasesPat.ignore then return (y,none)
   return (y, some (<- `(tactic| obtain $(⟨p[0]⟩):rcasesPatMed := $y:ident)))
 let clr <- if e.raw.isIdent then `(tactic| try clear $(⟨e.raw⟩):ident) else `(tactic| skip)
 let mut alts:Array (acx `tactic):=#[]
 for j in [0:14] do
   let ex:=j<7
   let k:=if ex then 8 - j else 15 - j
   if k + 1 <= N then
     let mut bs:Array (acx `ident):=#[]
     let mut ts:Array (acx `tactic):=#[]
     for i in [0:k] do
       let (b,t) <- one i ps[i]!
       bs:=bs.push b
       if let some t:=t then ts:=ts.push t
     if N == k + 1 then
       let (b,t) <- one k ps[k]!
       bs:=bs.push b
       if let some t:=t then ts:=ts.push t
     else
       let y <- z k
       bs:=bs.push y
       ts := ts.push (<- `(tactic| obtain ⟨$(ps.extract k N),*⟩ := $y:ident))
     let f:=adj (.mkSimple (if ex then s!"exE{k}" else s!"anE{k + 1}"))
     let t <- `(tactic| (refine $f $e ?_; $clr:tactic; intro $bs*; $[$ts:tactic];*))
     alts:=alts.push t
 `(tactic| first $[| $alts:tactic]* | rcases $e:term with ⟨$ps,*⟩)
local macro_rules | `(tactic| rintro $ps*) => do
 let tup:=λ(p:Lean.Syntax)=>p.getKind == ``Lean.Parser.Tactic.rintroPat.one && p[0].getKind == ``Lean.Parser.Tactic.rcasesPat.tuple
 unless ps.any (λp=>tup p && p.raw[0][1].getNumArgs ≥ 5) do abL
 let mut ts:Array (acx `tactic):=#[]
 for p in ps do
   if tup p then
     let y:=adj (<- Lean.Macro.addMacroScope `zi)
     let q:Lean.Syntax:=Lean.mkNode ``Lean.Parser.Tactic.rcasesPatMed #[Lean.mkNullNode #[p.raw[0]]]
     ts := ts.push (<- `(tactic| (intro $y:ident; obtain $(⟨q⟩):rcasesPatMed := $y:ident)))
   else ts := ts.push (<- `(tactic| rintro $p))
 `(tactic| ($[$ts:tactic];*))
local macro_rules
 | `(tactic| refine ⟨$xs,*⟩) => do
   let a:=xs.getElems
   if a.size<3 then abL
   let mut r:Array (acx `tactic):=#[]
   for j in [0:8] do
     let n:=if j == 7 then 0 else 8 - j
     if n + 1 <= a.size then
       let b:=a.extract n a.size
       let f:=adj (.mkSimple s!"exI{n}")
       let g:=adj (.mkSimple s!"anI{b.size}")
       if b.size ≥ 3 && b.size <= 8 then
         r := r.push (<- if n == 0 then `(tactic| refine $g $b*) else `(tactic| refine $f $(a.extract 0 n)* ($g $b*)))
       if n > 0 then
         let l <- if b.size == 1 then pure b[0]! else `(⟨$b,*⟩)
         r := r.push (<- `(tactic| refine $f $(a.extract 0 n)* $l))
   `(tactic| first $[| $r:tactic]* | refine (⟨$xs,*⟩))
 | `(tactic| exact ⟨$xs,*⟩) => do
   if xs.getElems.size<3 then abL
   `(tactic| (refine ⟨$xs,*⟩; done))
set_option hygiene true
namespace L2
theorem bN {α β : Type}{A B C : α->β->Prop}{R:Prop}(h:∃ a b,A a b/\B a b/\C a b)(k:∀ a b,A a b->B a b->C a b->R):R:=h.elim λ_ h=>h.elim λ_ h=>k _ _ h.1 h.2.1 h.2.2
theorem nW {β : Type}{A B : β->Prop}{R:Prop}(h:∃ b,A b/\B b)(k:∀ b,A b->B b->R):R:=h.elim λ_ h=>k _ h.1 h.2
open PySem PySem.Spec PyProof.Rows
abbrev Key:=Sum Int Str
def qy:Key->Value->Bool
 | .inl k,v=>Value.isInt k v
 | .inr x,v=>Value.isStrOf x v
def Rb (w:World):Key->Int
 | .inl k=>hashInt k
 | .inr x=>hashStr w x
theorem cC:∀ {k:Key} {v:Value},qy k v=true->(∃ i t,k=Sum.inl i/\v=abl i t)∨(∃ x t,k=Sum.inr x/\v=adH x t)
 | .inl i, v, h => by
   obtain⟨t,e⟩:=Value.isInt_shape (k:=i) (v:=v) h;exact .inl ⟨i,t,rfl,e⟩
 | .inr x, v, h => by
   obtain⟨t,e⟩:=Value.isStrOf_shape (x:=x) (v:=v) h;exact .inr ⟨x,t,rfl,e⟩
theorem E5 (i:Int)(t:Tok):qy (.inl i) (.int i t)=true:=by simp[qy,Value.isInt]
theorem Gf (x:Str)(t:Tok):qy (.inr x) (.str x t)=true:=by simp[qy,Value.isStrOf]
theorem N8 (a b:Int):decide ((Sum.inl a:Key)=Sum.inl b)=(a == b):=by
 by_cases e:a=b
 . subst e;simp
 . have h : ¬ (Sum.inl a : Key) = Sum.inl b := λq => e (ac0 q);rw[decide_eq_false h];exact(beq_eq_false_iff_ne.mpr e).symm
theorem NT (a b:Str):decide ((Sum.inr a:Key)=Sum.inr b)=decide (a=b):=by
 by_cases e:a=b
 . subst e;simp
 . have h : ¬ (Sum.inr a : Key) = Sum.inr b := λq => e (Sum.inr.inj q);rw[decide_eq_false h,decide_eq_false e]
theorem NU (a:Int)(b:Str):decide ((Sum.inl a:Key)=Sum.inr b)=false:=decide_eq_false (λq=>nomatch q)
theorem Om (a:Str)(b:Int):decide ((Sum.inr a:Key)=Sum.inl b)=false:=decide_eq_false (λq=>nomatch q)
def cX (prog:Program)(w:World):PySem.KeyKind prog w Key where
 is:=qy
 hash:=Rb w
 inj:=λv a b ha hb=>by
   rcases cC ha with ⟨i,t,rfl,rfl⟩ | ⟨x,t,rfl,rfl⟩
   . rcases cC hb with ⟨j,u,rfl,e⟩ | ⟨y,u,rfl,e⟩
     . injection e with e1 _;rw[e1]
     . exact nomatch e
   . rcases cC hb with ⟨j,u,rfl,e⟩ | ⟨y,u,rfl,e⟩
     . exact nomatch e
     . injection e with e1 _;rw[e1]
 byValue:=λk v h=>by
   rcases cC h with ⟨i,t,rfl,rfl⟩ | ⟨x,t,rfl,rfl⟩ <;> rfl
 pyHash:=λhv h=>by
   rcases cC hv with ⟨i,t,rfl,rfl⟩ | ⟨x,t,rfl,rfl⟩
   . exact wpAny_pyHash_int h
   . exact wpAny_pyHash_str h
 eqBool:=λhu hv h=>by
   rcases cC hu with ⟨i,t,rfl,rfl⟩ | ⟨x,t,rfl,rfl⟩
   . rcases cC hv with ⟨j,u,rfl,rfl⟩ | ⟨y,u,rfl,rfl⟩
     . rw[N8] at h;exact wpAny_eqBool_int h
     . rw[NU] at h;exact SeqAt.EqAt.int_str i t y u _ _ _ _ h
   . rcases cC hv with ⟨j,u,rfl,rfl⟩ | ⟨y,u,rfl,rfl⟩
     . rw[Om] at h;exact SeqAt.EqAt.str_int x t j u _ _ _ _ h
     . rw[NT] at h;exact wpAny_eqBool_str h
 «strs»:=λk x t v h=>by
   rcases cC h with ⟨i,u,rfl,e⟩ | ⟨y,u,rfl,e⟩
   . exact nomatch e
   . injection e with e1 _;subst e1;cases v <;> rfl
theorem Cb (prog:Program)(w:World)(i:Int)(t:Tok):(cX prog w).is (.inl i) (.int i t)=true:=E5 i t
theorem CK (prog:Program)(w:World)(x:Str)(t:Tok):(cX prog w).is (.inr x) (.str x t)=true:=Gf x t
open PySem PySem.Spec PyProof.Rows
inductive V where
 | aA | bl (b:Bool) | int (i:Int) | str (x:Str) | byt (b:Array UInt8) | An (b:UInt64) | ref (a:Addr) | ty (n:String)
 deriving DecidableEq
def RelV:V->Value->Prop
 | .aA,u=>u=abj
 | .bl b,u=>u=adi b
 | .int i,u=>∃ t,u=abl i t
 | .str x,u=>∃ t,u=adH x t
 | .byt b,u=>∃ t,u=Value.bytes b t
 | .An b,u=>∃ t,u=Value.float b t
 | .ref a,u=>u=S8 a
 | .ty n,u=>u=Value.type n
abbrev aI:List V->List Value->Prop:=Paired RelV
variable {us:List Value}
theorem aI.length (r:aI xs us):xs.length=us.length:=adD r
theorem aI.get:∀ {xs:List V} {us:List Value} {i:Nat} {x:V},aI xs us->xs[i]? = some x->∃ u,us[i]? = some u/\RelV x u
 | _,_,_,_,.nil,e=>by simp at e
 | _,_,0,_,.cons r _,e=>by simp at e;subst e;exact⟨_,rfl,r⟩
 | _, _, i + 1, x, .cons _ t, e => by
   obtain⟨u,h1,h2⟩:=aI.get (i:=i) (x:=x) t (by simpa using e);exact⟨u,by simpa using h1,h2⟩
variable {u:Value}
theorem aI.set (r:RelV x u):∀ {xs:List V} {us:List Value} (i:Nat),aI xs us->aI (xs.set i x) (us.set i u)
 | _,_,_,.nil=>.nil
 | _,_,0,.cons _ t=>.cons r t
 | _,_,i+1,.cons q t=>.cons q (aI.set r i t)
theorem aI.append:∀ {xs ys:List V} {us ws:List Value},aI xs us->aI ys ws->aI (xs++ys) (us++ws)
 | _,_,_,_,.nil,s=>s
 | _,_,_,_,.cons r t,s=>.cons r (aI.append t s)
theorem aI.take:∀ {xs:List V} {us:List Value} (n:Nat),aI xs us->aI (xs.take n) (us.take n)
 | _,_,0,_=>.nil
 | _,_,_+1,.nil=>.nil
 | _,_,n+1,.cons r t=>.cons r (aI.take n t)
theorem aI.drop:∀ {xs:List V} {us:List Value} (n:Nat),aI xs us->aI (xs.drop n) (us.drop n)
 | _,_,0,r=>r
 | _,_,_+1,.nil=>.nil
 | _,_,n+1,.cons _ t=>aI.drop n t
def fe:Option V->Option Value->Prop
 | some v,some u=>RelV v u
 | none,none=>True
 | _,_=>False
def KV {κ : Type}:List (κ×V)->List (κ×Value)->Prop:=Paired λ(p : κ×V) (q : κ×Value)=>p.1=q.1/\RelV p.2 q.2
def kV:Key->V
 | .inl i=>.int i
 | .inr x=>.str x
inductive HO where
 | lst (xs:List V)
 | tup (xs:List V)
 | dK (kvs:List (Key×V)) | dT (kvs:List (List Key×V))
 | set (S:Int->Bool) (n:Nat)
 | ins (C dx:Addr) (fs:List (Str×V))
 | own (x:Addr)
 | xd (fs:List (Str×V))
 | met (f x:Addr)
 | Nl (lo hi:Int)
 | kE (o:Obj) (u:HO)
 | Bz (ps:Array Value)
 | ext (φ : Heap->Prop)
abbrev Hp:=Addr->Option HO
def upd (H:Hp)(a:Addr)(o:HO):Hp:=λb=>if b=a then some o else H b
variable {o:HO} {H:Hp}
theorem aa:upd H a o a=some o:=by unfold upd;rw[if_pos rfl]
variable {b:Addr}
theorem ai (h:b≠a):upd H a o b=H b:=by unfold upd;rw[if_neg h]
theorem LA {a:Addr}{u:HO}:upd (upd H a o) a u=upd H a u:=by
 funext b;unfold upd;split <;> rfl
theorem Kx {a:Addr}{u:HO}(h:H a=some o)(h':H b=some u)(d:o≠u):a≠b:=by
 intro e;subst e;rw[h] at h';exact d (aaw h')
theorem af (h:H a=some o)(h':H b=none):a≠b:=by
 intro e;subst e;rw[h] at h';cases h'
section
variable (P:Program) (w:World)
def bX (H:Hp)(h:Heap)(a:Addr):HO->Prop
 | .lst xs=>xs.length<=aal/\∃ (its:List Value) (n:Nat),aI xs its/\h.get? a=some { cls:=.type "list",data:=.seq its.toArray n }
 | .tup xs=>xs.length<=aal/\∃ its:List Value,aI xs its/\IsTup h a its.toArray
 | .dK kvs=>kvs.length<=aal/\(a == acg)=false/\∃ vs,KV kvs vs/\h.DictOf (cX P w) a vs
 | .dT kvs=>kvs.length<=aal/\(a == acg)=false/\∃ xs:List (List Key×Addr×Value),
     Paired (λ(p:List Key×V) (q:List Key×Addr×Value)=>p.1=q.1/\H q.2.1=some (.tup (p.1.map kV))/\RelV p.2 q.2.2) kvs xs /\
     ∃ o es ep,h.get? a=some o/\o.ExactDict/\o.data=.dict es ep/\es.toList=xs.map (entryOfKey (tupleKind (cX P w)))/\(xs.map (·.1)).Nodup
 | .set S n=>h.SetOf (intKind P w) a S n
 | .ins C dx fs=>H dx=some (.own a)/\fs.length<=1000/\dx≠a/\h.get? a=some (ac9 C dx) /\
     ∃ mA,h.Ns1 dx mA/\(∀ f,fe (fs.lookup f) (mA f))/\PySem.Within mA (fs.map (·.1))
 | .own _=>∃ o,h.get? a=some o
 | .xd fs=>∃ mA,h.Ns1 a mA/\∀ f,fe (fs.lookup f) (mA f)
 | .Nl lo hi=>∃ t u v,h.get? a=some { cls:=.type "range",data:=.fields #[.int lo t,.int hi u,.int 1 v] }
 | .kE o u=>h.get? a=some o/\bX H h a u
 | .Bz ps=>h.get? a=some { cls:=.none,data:=.fields ps }
 | .met f x=>h.get? a=some (W.methodObj (.ref f) (.ref x))
 | .ext φ=>φ h/\(∃ o,h.get? a=some o)/\∀ h1 h2:Heap,φ h1->(∀ o,h1.get? a=some o->h2.get? a=some o)->φ h2
def de (H:Hp)(h:Heap):Prop:=∀ a o,H a=some o->bX P w H h a o
end
section
variable {P:Program} {w:World} {H H':Hp} {h h':Heap} {a:Addr} {o:HO}
theorem bX.lt (x:bX P w H h a o):a<h.objs.size:=by
 cases o with
 | lst xs=>obtain⟨_,_,_,_,e⟩:=x;exact aap e
 | tup xs=>obtain⟨_,_,_,p⟩:=x;exact p.lt
 | dK kvs=>obtain⟨_,_,_,_,o,_,_,e,_⟩:=x;exact aap e
 | dT kvs=>obtain⟨_,_,_,_,o,_,_,e,_⟩:=x;exact aap e
 | set S n=>obtain⟨o,_,_,_,e,_⟩:=x;exact aap e
 | ins C dx fs=>obtain⟨_,_,_,e,_⟩:=x;exact aap e
 | own y=>obtain⟨_,e⟩:=x;exact aap e
 | xd fs=>obtain⟨_,⟨_,_,_,e,_⟩,_⟩:=x;exact aap e
 | Nl lo hi=>obtain⟨_,_,_,e⟩:=x;exact aap e
 | kE ob u=>obtain⟨e,_⟩:=x;exact aap e
 | Bz ps=>exact aap (show h.get? a=some _ from x)
 | met f y=>exact aap (show h.get? a=some _ from x)
 | ext φ=>obtain⟨_,⟨_,e⟩,_⟩:=x;exact aap e
theorem Paired.Ia {α β : Type}{F G : α->β->Prop}:∀ {l₁ : List α} {l₂ : List β},Paired F l₁ l₂->(∀ a b,F a b->G a b)->Paired G l₁ l₂
 | _,_,.nil,_=>.nil
 | _,_,.cons r t,f=>.cons (f _ _ r) (Paired.Ia t f)
theorem bX.iT (x:bX P w H h a o)(k:∀ b u,(b=a∨H b=some (.own a))->h.get? b=some u->h'.get? b=some u)
   (ho:∀ b,H b=some (.own a)->H' b=some (.own a)) (ht:∀ b xs,H b=some (.tup xs)->H' b=some (.tup xs)):bX P w H' h' a o:=by
 induction o with
 | lst xs=>obtain⟨z,its,n,r,e⟩:=x;exact⟨z,its,n,r,k _ _ (.inl rfl) e⟩
 | tup xs=>obtain⟨z,its,r,ob,e,c⟩:=x;exact⟨z,its,r,ob,k _ _ (.inl rfl) e,c⟩
 | dK kvs=>obtain⟨z,y,vs,r,ob,es,ep,e,c⟩:=x;exact⟨z,y,vs,r,ob,es,ep,k _ _ (.inl rfl) e,c⟩
 | dT kvs =>
   obtain⟨z,y,xs,r,ob,es,ep,e,c⟩:=x;exact⟨z,y,xs,Paired.Ia r λp q z=>⟨z.1,ht _ _ z.2.1,z.2.2⟩,ob,es,ep,k _ _ (.inl rfl) e,c⟩
 | set S n=>obtain⟨ob,es,ep,t,e,c⟩:=x;exact⟨ob,es,ep,t,k _ _ (.inl rfl) e,c⟩
 | ins C dx fs =>
   obtain⟨d,z,ne,e,mA,⟨od,es,ep,e2,c⟩,r⟩:=x;exact⟨ho _ d,z,ne,k _ _ (.inl rfl) e,mA,⟨od,es,ep,k _ _ (.inr d) e2,c⟩,r⟩
 | own y=>obtain⟨ob,e⟩:=x;exact⟨ob,k _ _ (.inl rfl) e⟩
 | xd fs=>obtain⟨mA,⟨od,es,ep,e,c⟩,r⟩:=x;exact⟨mA,⟨od,es,ep,k _ _ (.inl rfl) e,c⟩,r⟩
 | Nl lo hi=>obtain⟨t,u,v,e⟩:=x;exact⟨t,u,v,k _ _ (.inl rfl) e⟩
 | kE ob u ih=>obtain⟨e,q⟩:=x;exact⟨k _ _ (.inl rfl) e,ih q⟩
 | Bz ps =>
   have e:h.get? a=some { cls:=.none,data:=.fields ps }:=x;show h'.get? a=some { cls:=.none,data:=.fields ps };exact k a _ (.inl rfl) e
 | met f y =>
   have e:h.get? a=some (W.methodObj (.ref f) (.ref y)):=x;show h'.get? a=some (W.methodObj (.ref f) (.ref y));exact k a _ (.inl rfl) e
 | ext φ=>obtain⟨p,⟨o,e⟩,st⟩:=x;exact⟨st _ _ p λo q=>k _ _ (.inl rfl) q,⟨o,k _ _ (.inl rfl) e⟩,st⟩
theorem de.lt (x:de P w H h)(e:H a=some o):a<h.objs.size:=(x a o e).lt
theorem de.fresh (x:de P w H h)(e:h.objs.size<=a):H a=none:=by
 cases q:H a with
 | none=>rfl
 | some u=>exact absurd (aay (x.lt q) e) (abS _)
theorem de.kept (x:de P w H h)(k:∀ b u,h.get? b=some u->h'.get? b=some u):de P w H h':=λa o e =>
 (x a o e).iT (λb u _ q=>k b u q) (λ_ q=>q) λ_ _ q=>q
theorem de.laid (x:de P w H h)(k:∀ b u,h.get? b=some u->h'.get? b=some u)(hp:h.objs.size<=a)(new:bX P w (upd H a o) h' a o):de P w (upd H a o) h':=λb u e=>by
 have hn:=x.fresh hp;by_cases hb:b=a
 . subst hb;rw[aa] at e;cases e;exact new
 . rw[ai hb] at e;exact(x b u e).iT (λc v _ q=>k c v q) (λc q=>by rw[ai (af q hn)];exact q) λc xs q=>by rw[ai (af q hn)];exact q
end
def Rd (H:Hp)(a:Addr)(u:HO):Prop:=H a=some u∨∃ o,H a=some (.kE o u)
variable {h:Heap}
theorem Rd.ok {P:Program}{w:World}{a:Addr}{u:HO}(r:Rd H a u)(x:de P w H h):bX P w H h a u:=by
 rcases r with r | ⟨o,r⟩
 . exact x a u r
 . obtain⟨_, q⟩ := x a _ r;exact q
def F7:Option HO->Prop
 | some (.lst _)=>True
 | some (.dK _)=>True
 | some (.dT _)=>True
 | some (.set _ _)=>True
 | some (.ins _ _ _)=>True
 | some (.ext _)=>True
 | _=>False
section
variable {P:Program} {w:World} {H:Hp} {h h':Heap} {x e:Addr} {o':HO}
theorem de.write (ok:de P w H h)(mu:F7 (H x))(he:e=x∨H e=some (.own x))(k:∀ b u,b≠e->h.get? b=some u->h'.get? b=some u)(heo:∃ u,h'.get? e=some u)
   (new:bX P w (upd H x o') h' x o'):de P w (upd H x o') h':=λb u q=>by
 have nown:∀ c y,H c=some (.own y)->c≠x:=λc y r z=>by subst z;rw[r] at mu;exact mu
 have ntup:∀ c xs,H c=some (.tup xs)->c≠x:=λc xs r z=>by subst z;rw[r] at mu;exact mu
 by_cases hb:b=x
 . subst hb;rw[aa] at q;cases q;exact new
 . rw[ai hb] at q;by_cases WL:b=e
   . have q' : H b = some (.own x) := by
       rcases he with z | z
       . exact absurd (WL.trans z) hb
       . rw[WL];exact z
     rw[q] at q';cases q';obtain⟨v,hv⟩:=heo;exact⟨v,by rw[WL];exact hv⟩
   . refine (ok b u q).iT (λc v hc r => k c v ?_ r) (λc r => by rw [ai (nown c b r)]; exact r) λc xs r => by rw [ai (ntup c xs r)]; exact r
     rcases hc with rfl | hc
     . exact WL
     . rintro rfl;rcases he with z | z
       . exact nown c b hc z
       . rw[hc] at z;cases z;exact hb rfl
end
structure Un (fs ex:List Addr)(H H':Hp)(h h':Heap):Prop where
 keep:∀ b o,h.get? b=some o->H b=none->b ∉ fs->b ∉ ex->h'.get? b=some o
 slot:∀ b o,h.get? b=some o->H b=none->b∈fs->b ∉ ex->∃ sl,h'.get? b=some { o with slots:=sl }
 free:∀ b o,h.get? b=some o->H b=none->b ∉ ex->H' b=none
 there:∀ b o,h.get? b=some o->b ∉ ex->∃ o',h'.get? b=some o'
 jB:∀ b xs,H b=some (.tup xs)->H' b=some (.tup xs)
 iZ:∀ b o u,H b=some (.kE o u)->H' b=some (.kE o u)
 jJ:∀ b ps,H b=some (.Bz ps)->∃ V9,H' b=some (.Bz (ps++V9))
section
variable {fs UW ex ex':List Addr} {H H1 H2:Hp} {h h1 h2 h':Heap} {a x e:Addr} {o:HO}
theorem Un.any (u:Un fs ex H H1 h h1)(q:h.get? b=some ob)(n:H b=none)(hx:b ∉ ex):∃ sl,h1.get? b=some { ob with slots:=sl }:=by
 by_cases hb:b∈fs
 . exact u.slot b ob q n hb hx
 . exact⟨ob.slots,u.keep b ob q n hb hx⟩
theorem Un.kept (k:∀ b u,h.get? b=some u->h'.get? b=some u):Un fs ex H H h h' :=
 ⟨λb ob q _ _ _=>k b ob q,λb ob q _ _ _=>⟨ob.slots,k b ob q⟩,λ_ _ _ n _=>n,λb ob q _=>⟨ob,k b ob q⟩,λ_ _ q=>q,λ_ _ _ q=>q,λ_ ps q=>⟨#[],by rw[q];simp⟩⟩
theorem Un.refl:Un fs ex H H h h:=Un.kept λ_ _ q=>q
theorem Un.laid (k:∀ b u,h.get? b=some u->h'.get? b=some u)(hp:h.objs.size<=a)(hn:H a=none):Un fs ex H (upd H a o) h h' where
 keep:=λb u q _ _ _=>k b u q
 slot:=λb u q _ _ _=>⟨u.slots,k b u q⟩
 free:=λb u q n _=>by rw[ai (aaC (aay (aap q) hp))];exact n
 there:=λb u q _=>⟨u,k b u q⟩
 jB:=λb xs q=>by rw[ai (af q hn)];exact q
 iZ:=λb u xs q=>by rw[ai (af q hn)];exact q
 jJ:=λb ps q=>⟨#[],by rw[ai (af q hn),q];simp⟩
theorem Un.write (mu:F7 (H x))(he:e=x∨H e=some (.own x))(k:∀ b u,b≠e->h.get? b=some u->h'.get? b=some u)(heo:∃ u,h'.get? e=some u):Un fs ex H (upd H x o) h h':=by
 have hx:∀ b,H b=none->b≠x:=λb n z=>by subst z;rw[n] at mu;exact mu
 have hb:∀ b,H b=none->b≠e:=λb n z=>by
   subst z;rcases he with r | r
   . exact hx b n r
   . rw[n] at r;cases r
 have hm:∀ b u,H b=some u->¬ F7 (some u)->b≠x:=λb u q nm z=>by subst z;rw[q] at mu;exact nm mu
 refine ⟨λb u q n _ _ => k b u (hb b n) q, λb u q n _ _ => ⟨u.slots, k b u (hb b n) q⟩, λb u q n _ => by rw [ai (hx b n)]; exact n, λb u q _ => ?_,
   λb xs q=>by rw[ai (hm b _ q λz=>z)];exact q,λb u xs q=>by rw[ai (hm b _ q λz=>z)];exact q,λb ps q=>⟨#[],by rw[ai (hm b _ q λz=>z),q];simp⟩⟩
 by_cases WL:b=e
 . subst WL;exact heo
 . exact⟨u,k b u WL q⟩
end
def Km (h:Heap)(H:Hp):List Addr:=(ab7 h.objs.size).filter λa=>(H a).isSome
def nj (h:Heap)(H:Hp):Heap:=acm h (Km h H)
theorem GH (h:Heap)(H:Hp):(nj h H).objs.size=h.objs.size:=W.hideAll_size _ _
theorem HN {o:Obj}(e:h.get? b=some o)(n:H b=none):(nj h H).get? b=some o :=
 W.hideAll_get _ e λhm=>by
   have q:(H b).isSome=true:=(List.mem_filter.mp hm).2;rw[n] at q;simp at q
theorem KQ {o:Obj}(e:(nj h H).get? b=some o):h.get? b=some o/\H b=none:=by
 have e':h.get? b=some o:=W.of_hideAll (Km h H) e;refine⟨e',?_⟩;cases q:H b with
 | none=>rfl
 | some x =>
   have hm:b∈Km h H:=List.mem_filter.mpr ⟨List.mem_range.mpr (aap e'),by simp[q]⟩;have z:(nj h H).get? b=none:=W.hideAll_none (Km h H) hm;rw[z] at e;cases e
structure Mod (K:W.Frag)(mg:Str->Option Value)(base:Heap):Prop where
 vK:K.In base
 glob:base.Ns aa4 mg
 blt:∃ mb,base.Ns builtinsNs mb/\∀ x:Str,x ≠ "__name__"->mb x=aaY x
 nolimit:base.NoLimit
structure Cx where
 prog:Program
 w:World
 K:W.Frag
 mg:Str->Option Value
 base:Heap
 A:Around
 N:List Str
 s₀ : Shared
 H₀ : Hp
 env:Env
 outer:List Env
 stack:List Env
 ex:List Addr
 fn:Str->Bool
 calm:Bool
 pn:List (Addr×Obj)
 xe:Value->Shared->Prop
def cR (l:List Env):List Addr:=l.filterMap (·.frame)
abbrev Cx.fs (X:Cx):List Addr:=cR X.outer
def NK (sc:Scope)(x:Str):Prop:=sc.names.lookup x=some .local∨sc.names.lookup x=some .cell∨sc.names.lookup x=some .free
def Loc (sc:Scope)(x:Str):Prop:=sc.names.lookup x=some .local∨sc.names.lookup x=some .cell
def Look (env:Env)(h:Heap)(m:Str->Option Value)(x:Str)(u:Value):Prop :=
 (env.kindOf x=some .local/\m x=some u)∨((env.kindOf x=some .cell∨env.kindOf x=some .free)/\∃ c,env.cells.lookup x=some c/\h.IsCell c (some u))
structure Cx.Ok (X:Cx):Prop where
 mod:Mod X.K X.mg X.base
 kind:X.env.scope.kind=.function
 glob:X.env.globals=aa4
 blt:X.env.builtins=builtinsNs
 above:X.s₀.heap.objs.size<=X.env.locals
 inj:∀ x y c,X.env.cells.lookup x=some c->X.env.cells.lookup y=some c->x=y
 has:∀ x,(X.env.kindOf x=some .cell∨X.env.kindOf x=some .free)->∃ c,X.env.cells.lookup x=some c
 A8:∀ x c,X.fn x=true->X.env.cells.lookup x=some c->X.s₀.heap.objs.size<=c
 hd:X.calm=true->X.A.handled=none
 frames:X.A.frames=some X.stack
 Dn:X.stack=X.outer∨(X.stack=X.env::X.outer/\X.env.frame=some X.env.locals)
 JZ:∀ b∈X.ex,b≠X.env.locals/\∀ x c,X.env.cells.lookup x=some c->c≠b
 bs:∀ b o,X.base.get? b=some o->X.s₀.heap.get? b=some o/\X.H₀ b=none
 rG:X.base.objs.size<=X.s₀.heap.objs.size
 tW:∀ b o,X.base.get? b=some o->b ∉ X.ex
 xf:∀ b∈X.ex,b ∉ X.fs
 gC:X.s₀.heap.FunFrames X.base X.outer
 ua:∀ b∈X.fs,X.H₀ b=none
structure Inv (X:Cx)(gV:List (Addr×Obj))(Z : List (Option V))(H:Hp)(s:Shared):Prop where
 ok:X.Ok
 os:s.os=X.s₀.os
 bare:AllBare s.gens
 base:Un X.fs X.ex X.H₀ H X.s₀.heap s.heap
 loc:∃ m,s.heap.Ns X.env.locals m/\∀ (i:Nat) (x:Str) (v:V),X.N[i]? = some x->Z[i]? = some (some v)->NK X.env.scope x->∃ u,RelV v u/\Look X.env s.heap m x u
 cell:∀ x c,X.env.cells.lookup x=some c->∃ v,s.heap.IsCell c v
 free:H X.env.locals=none
 fQ:∀ x c,X.env.cells.lookup x=some c->H c=none
 pin:∀ p∈X.pn++gV,s.heap.get? p.1=some p.2/\H p.1=none/\p.1≠X.env.locals/\p.1 ∉ X.fs/\∀ v,p.2.data≠.cell v
 az:de X.prog X.w H s.heap
 len : Z.length=X.N.length
section
variable {X:Cx} {gV:List (Addr×Obj)} {Z : List (Option V)} {H H':Hp} {s:Shared} {h':Heap}
theorem Cx.Ok.Rt (ok:X.Ok){o:Obj}(e:X.base.get? b=some o):b ∉ X.fs:=λhb=>by
 have:=(ok.gC.mem hb).1
 rw[e] at this;cases this
theorem Inv.bs (I:Inv X gV Z H s):∀ b o,X.base.get? b=some o->s.heap.get? b=some o/\H b=none:=λb o e =>
 ⟨I.base.keep b o (I.ok.bs b o e).1 (I.ok.bs b o e).2 (I.ok.Rt e) (I.ok.tW b o e),I.base.free b o (I.ok.bs b o e).1 (I.ok.bs b o e).2 (I.ok.tW b o e)⟩
theorem Inv.bk (I:Inv X gV Z H s):∀ b o,X.base.get? b=some o->s.heap.get? b=some o:=λb o e=>(I.bs b o e).1
theorem Inv.mod (I:Inv X gV Z H s):Mod X.K X.mg X.base:=I.ok.mod
theorem Inv.df (I:Inv X gV Z H s):X.K.In s.heap:=I.ok.mod.vK.keeps I.bk
theorem Inv.lt (I:Inv X gV Z H s):X.env.locals<s.heap.objs.size:=let ⟨_,hn,_⟩:=I.loc;hn.lt
theorem Inv.sz (I:Inv X gV Z H s):X.s₀.heap.objs.size<=s.heap.objs.size:=aaJ I.ok.above (ado I.lt)
theorem Inv.Nz (I:Inv X gV Z H s)(h:s.heap.objs.size<=a):a ∉ X.fs:=λhb=>by
 obtain⟨_,o,ho,_⟩:=I.ok.gC.mem hb;exact absurd (aay (aap ho) (aaJ I.sz h)) (abS _)
theorem Inv.zM (I:Inv X gV Z H s):∀ x c,X.env.cells.lookup x=some c->c≠X.env.locals:=λx c e z=>by
 obtain⟨v,o,ho,hd⟩:=I.cell x c e;obtain⟨m,⟨o',es,ep,V4,WI,_⟩,_⟩:=I.loc;rw[z,V4] at ho;cases ho;rw[WI] at hd;cases hd
theorem Inv.gC (I:Inv X gV Z H s):s.heap.FunFrames X.base X.outer:=by
 have all:∀ (l:List Env),(∀ b∈cR l,b∈X.fs)->X.s₀.heap.FunFrames X.base l->s.heap.FunFrames X.base l:=by
   intro l
   induction l with
   | nil=>intro _ _;trivial
   | cons env r ih =>
     intro hs hl;obtain⟨hk,⟨L,o,hf,hn,ho,hd⟩,hr⟩:=hl;have hL:L∈X.fs:=hs L (by unfold cR;rw[abE,hf];exact abu);obtain⟨sl,e⟩:=I.base.slot L o ho (I.ok.ua L hL) hL λz=>I.ok.xf L z hL;exact⟨hk,⟨L,_,hf,hn,e,hd⟩,ih (λb hb=>hs b (by unfold cR;rw[abE,hf];exact aa0 _ hb)) hr⟩
 exact all X.outer (λ_ hb=>hb) I.ok.gC
theorem Inv.stack (I:Inv X gV Z H s):s.heap.FunFrames X.base X.stack:=by
 rcases I.ok.Dn with e | ⟨e,hf⟩
 . rw[e];exact I.gC
 . rw[e];obtain⟨m,hn,_⟩:=I.loc;refine .cons (by rw[I.ok.kind];decide) hf hn ?_ I.gC;exact adw (aaJ I.ok.rG I.ok.above)
theorem Inv.pS (I:Inv X gV Z H s):∀ b∈cR X.stack,b∈X.env.locals::X.fs:=λb hb=>by
 rcases I.ok.Dn with e | ⟨e,hf⟩
 . rw[e] at hb;exact aa0 _ hb
 . rw[e] at hb;unfold cR at hb;rw[abE,hf] at hb;exact hb
theorem Inv.mK (I:Inv X gV Z H s):∀ b∈cR X.stack,H b=none:=λb hb=>by
 rcases List.mem_cons.mp (I.pS b hb) with e | hb
 . rw[e];exact I.free
 . obtain⟨_, o, ho, _⟩ := I.ok.gC.mem hb;exact I.base.free b o ho (I.ok.ua b hb) λz=>I.ok.xf b z hb
theorem Inv.step {g':Array GenState}{t':Nat}{d':Drawn}{ch:List Addr}(I:Inv X gV Z H s)
   (WJ:∀ b∈ch,(b∈X.ex∨X.s₀.heap.objs.size<=b)/\b≠X.env.locals/\(∀ x c,X.env.cells.lookup x=some c->c≠b)/\∀ p∈X.pn++gV,p.1≠b)
   (keep:∀ b o,b≠X.env.locals->b ∉ X.fs->b ∉ ch->s.heap.get? b=some o->H b=none->h'.get? b=some o)
   (slot:∀ b o,b≠X.env.locals->b∈X.fs->b ∉ ch->s.heap.get? b=some o->H b=none->∃ sl,h'.get? b=some { o with slots:=sl }) (free:∀ b o,b ∉ ch->s.heap.get? b=some o->H b=none->H' b=none)
   (there:∀ b o,b ∉ ch->s.heap.get? b=some o->∃ o',h'.get? b=some o')
   (jB:∀ b xs,H b=some (.tup xs)->H' b=some (.tup xs)) (iZ:∀ b o u,H b=some (.kE o u)->H' b=some (.kE o u)) (jJ:∀ b ps,H b=some (.Bz ps)->∃ V9,H' b=some (.Bz (ps++V9)))
   (ns:∀ m,s.heap.Ns X.env.locals m->h'.Ns X.env.locals m) (az:de X.prog X.w H' h') (hg:AllBare g') :
   Inv X gV Z H' { s with heap:=h',gens:=g',drawn:=d',toks:=t' }:=by
 have neL:∀ b o,X.s₀.heap.get? b=some o->b≠X.env.locals:=λb o e=>aaC (aay (aap e) I.ok.above);have neC:∀ b o,X.s₀.heap.get? b=some o->b ∉ X.ex->b ∉ ch:=λb o e hx hb=>by
   rcases(WJ b hb).1 with z | z
   . exact hx z
   . exact absurd (aay (aap e) z) (abS _)
 have cellK:∀ x c,X.env.cells.lookup x=some c->∀ v,s.heap.IsCell c v->h'.IsCell c v:=λx c e v zq=>nW zq λo ho hd=>by
   have nch:c ∉ ch:=λz=>(WJ c z).2.2.1 x c e rfl;by_cases hc:c∈X.fs
   . obtain⟨sl, q⟩ := slot c o (I.zM x c e) hc nch ho (I.fQ x c e);exact⟨_,q,hd⟩
   . exact⟨o,keep c o (I.zM x c e) hc nch ho (I.fQ x c e),hd⟩
 refine⟨I.ok,I.os,hg,⟨λb o e n hb hx=>?_,λb o e n hb hx=>?_,λb o e n hx=>?_,λb o e hx=>?_,λb xs e=>jB b xs (I.base.jB b xs e),λb o xs e=>iZ b o xs (I.base.iZ b o xs e),λb ps e=>?_⟩,?_,λx c e=>?_,?_,λx c e=>?_,λp hp=>?_,az,I.len⟩
 . exact keep b o (neL b o e) hb (neC b o e hx) (I.base.keep b o e n hb hx) (I.base.free b o e n hx)
 . obtain⟨sl, e1⟩ := I.base.slot b o e n hb hx;obtain⟨sl',e2⟩:=slot b _ (neL b o e) hb (neC b o e hx) e1 (I.base.free b o e n hx);exact⟨sl',e2⟩
 . obtain⟨o', e1⟩ := I.base.there b o e hx;exact free b o' (neC b o e hx) e1 (I.base.free b o e n hx)
 . obtain⟨o', e1⟩ := I.base.there b o e hx;exact there b o' (neC b o e hx) e1
 . obtain⟨m1, e1⟩ := I.base.jJ b ps e;obtain⟨m2,e2⟩:=jJ b _ e1;exact⟨m1++m2,by rw[e2,Array.append_assoc]⟩
 . obtain ⟨m, hn, hl⟩ := I.loc;refine ⟨m,ns m hn,λi x v e1 e2 e3=>?_⟩;obtain ⟨u,r,l⟩:=hl i x v e1 e2 e3;refine ⟨u,r,?_⟩;rcases l with l | ⟨k,c,e,z⟩
   . exact .inl l
   . exact .inr ⟨k,c,e,cellK x c e _ z⟩
 . obtain⟨v, z⟩ := I.cell x c e;exact⟨v,cellK x c e v z⟩
 . obtain⟨m, ⟨o, _, _, ho, _⟩, _⟩ := I.loc;exact free _ o (λz=>(WJ _ z).2.1 rfl) ho I.free
 . obtain⟨v, o, ho, hd⟩ := I.cell x c e;exact free c o (λz=>(WJ c z).2.2.1 x c e rfl) ho (I.fQ x c e)
 . obtain⟨e, n, ne, nf, d⟩ := I.pin p hp;have nch:p.1 ∉ ch:=λz=>(WJ p.1 z).2.2.2 p hp rfl;exact⟨keep p.1 p.2 ne nf nch e n,free p.1 p.2 nch e n,ne,nf,d⟩
variable {t':Nat}
theorem Inv.un (I:Inv X gV Z H s)(u:Un X.fs [] H H' s.heap h')(az:de X.prog X.w H' h'):Inv X gV Z H' { s with heap:=h',toks:=t' }:=by
 obtain⟨m,⟨o,es,ep,ho,r⟩,_⟩:=id I.loc;obtain⟨sl,hL⟩:=u.any ho I.free (by simp);exact I.step (g':=s.gens) (d':=s.drawn) (ch:=[]) (λ_ z=>nomatch z) (λb o _ hb _ e n=>u.keep b o e n hb (by simp)) (λb o _ hb _ e n=>u.slot b o e n hb (by simp)) (λb o _ e n=>u.free b o e n (by simp)) (λb o _ e=>u.there b o e (by simp)) u.jB u.iZ u.jJ (λm' hm=>by
   obtain⟨o',es',ep',V4,r'⟩:=hm;rw[ho] at V4;cases V4;exact⟨_,es',ep',hL,r'⟩) az I.bare
theorem Inv.call {t':Nat}(I:Inv X gV Z H s)(u:Un (cR X.stack) ch H H' s.heap h')(az:de X.prog X.w H' h')(hg:AllBare g')
   (WJ:∀ b∈ch,(b∈X.ex∨X.s₀.heap.objs.size<=b)/\b≠X.env.locals/\(∀ x c,X.env.cells.lookup x=some c->c≠b)/\∀ p∈X.pn++gV,p.1≠b) :
   Inv X gV Z H' { s with heap:=h',gens:=g',drawn:=d',toks:=t' }:=by
 obtain⟨m,⟨o,es,ep,ho,r⟩,_⟩:=id I.loc;obtain⟨sl,hL⟩:=u.any ho I.free λz=>(WJ _ z).2.1 rfl;exact I.step (ch:=ch) WJ (λb o hL hb hc e n=>u.keep b o e n (λz=>(List.mem_cons.mp (I.pS b z)).elim hL hb) hc) (λb o _ _ hc e n=>u.any e n hc) (λb o hc e n=>u.free b o e n hc) (λb o hc e=>u.there b o e hc) u.jB u.iZ u.jJ (λm' hm=>by
   obtain⟨o',es',ep',V4,r'⟩:=hm;rw[ho] at V4;cases V4;exact⟨_,es',ep',hL,r'⟩) az hg
theorem Inv.turned {t':Nat}(I:Inv X gV Z H s)(k:∀ b o,b≠it->s.heap.get? b=some o->h'.get? b=some o)(hn:H it=none)(hL:it≠X.env.locals)
   (h1:it∈X.ex∨X.s₀.heap.objs.size<=it) (h2:∀ x c,X.env.cells.lookup x=some c->c≠it) (h3:∀ p∈X.pn++gV,p.1≠it):Inv X gV Z H { s with heap:=h',toks:=t' }:=by
 have nit:∀ b u,H b=some u->b≠it:=λb u e z=>by rw[z,hn] at e;cases e
 refine I.step (g' := s.gens) (d' := s.drawn) (ch := [it]) (λb hb => ?_) (λb o _ _ hc e _ => k b o (λz => hc (by simp [z])) e) (λb o _ _ hc e _ => ⟨o.slots, k b o (λz => hc (by simp [z])) e⟩) (λ_ _ _ _ n => n)
   (λb o hc e=>⟨o,k b o (λz=>hc (by simp[z])) e⟩) (λ_ _ e=>e) (λ_ _ _ e=>e) (λb ps e=>⟨#[],by rw[e];simp⟩) (λm hm=>?_) (λb u e=>?_) I.bare
 . have e : b = it := by simpa using hb
   subst e;exact⟨h1,hL,h2,h3⟩
 . obtain⟨o, es, ep, ho, r⟩ := hm;exact⟨o,es,ep,k _ o (Ne.symm hL) ho,r⟩
 . refine (I.az b u e).iT (λc v hc q=>k c v ?_ q) (λ_ q=>q) λ_ _ q=>q;rcases hc with z | z
   . rw[z];exact nit b u e
   . exact nit c _ z
theorem Inv.tok (I:Inv X gV Z H s)(t:Nat):Inv X gV Z H { s with toks:=t }:=I.un (h':=s.heap) (t':=t) Un.refl I.az
theorem Inv.kept (I:Inv X gV Z H s)(k:∀ b u,s.heap.get? b=some u->h'.get? b=some u):Inv X gV Z H { s with heap:=h',toks:=t' }:=I.un (Un.kept k) (I.az.kept k)
theorem Inv.laid {t':Nat}(I:Inv X gV Z H s)(k:∀ b u,s.heap.get? b=some u->h'.get? b=some u)(hp:s.heap.objs.size<=a)(new:bX X.prog X.w (upd H a o) h' a o) :
   Inv X gV Z (upd H a o) { s with heap:=h',toks:=t' }:=I.un (Un.laid k hp (I.az.fresh hp)) (I.az.laid k hp new)
theorem Inv.write {o:HO}{t':Nat}(I:Inv X gV Z H s)(mu:F7 (H x))(he:e=x∨H e=some (.own x))(k:∀ b u,b≠e->s.heap.get? b=some u->h'.get? b=some u)(heo:∃ u,h'.get? e=some u)
   (new:bX X.prog X.w (upd H x o) h' x o):Inv X gV Z (upd H x o) { s with heap:=h',toks:=t' }:=I.un (Un.write mu he k heo) (I.az.write mu he k heo new)
theorem Inv.qS (I:Inv X gV Z H s)(h:∀ p∈pins',s.heap.get? p.1=some p.2/\H p.1=none/\p.1≠X.env.locals/\p.1 ∉ X.fs/\∀ v,p.2.data≠.cell v):Inv X pins' Z H s :=
 ⟨I.ok,I.os,I.bare,I.base,I.loc,I.cell,I.free,I.fQ,λp hp=>(List.mem_append.mp hp).elim (λz=>I.pin p (aa5 _ z)) (h p),I.az,I.len⟩
variable {x:Str} {i:Nat}
theorem AF {N:List Str}(hN:N.Nodup){j:Nat}(a:N[i]? = some x)(b:N[j]? = some x):i=j:=by
 obtain⟨h1,e1⟩:=List.getElem?_eq_some_iff.mp a;obtain⟨h2,e2⟩:=List.getElem?_eq_some_iff.mp b;exact(List.getElem_inj hN).mp (e1.trans e2.symm)
theorem xC (I:Inv X gV Z H s)(hN:X.N.Nodup)(hi:X.N[i]? = some x)(hx:Loc X.env.scope x)(r:RelV v u)
   (h:∀ s',Inv X gV (Z.set i (some v)) H s'->(∃ a,ab8 a s.heap s'.heap/\(a=X.env.locals∨X.env.cells.lookup x=some a))->Q () s') (hf:X.fn x=true∨X.env.scope.names.lookup x=some .local:=by first | exact .inl rfl | exact .inr rfl | assumption):wpAny M A (storeName X.env x u) Q E s:=by
 obtain⟨m,hn,hl⟩:=id I.loc;have hcls:(X.env.scope.kind == .class || (X.env.scope.kind == .module && X.env.locals != X.env.globals))=false:=by rw[I.ok.kind];rfl
 have hiZ : i < Z.length:=by rw[I.len];exact(List.getElem?_eq_some_iff.mp hi).1
 have zM:=I.zM;have UB:∀ {a:Addr} {h':Heap},(∃ o,s.heap.get? a=some o/\H a=none)->ab8 a s.heap h'->de X.prog X.w H h':=λ{a h'} ha hs b ob e=>by
   obtain⟨_,_,hfree⟩:=ha;refine(I.az b ob e).iT (λc w' hc q=>(hs.2 c ?_).trans q) (λ_ q=>q) λ_ _ q=>q;rintro rfl;rcases hc with rfl | hc
   . rw[hfree] at e;cases e
   . rw[hfree] at hc;cases hc
 rcases hx with hk | hk
 . refine wpAny_storeName_local hk hn (λh' hn' hs=>?_) hcls;obtain ⟨oL,_,_,hoL,_⟩:=id hn;refine h _ ⟨I.ok,I.os,I.bare,⟨λb o e n hb hx=>?_,λb o e n hb hx=>?_,I.base.free,λb o e hx=>?_,I.base.jB,I.base.iZ,I.base.jJ⟩,⟨_,hn',λj y v' e1 e2 e3=>?_⟩,λy c e=>?_,I.free,I.fQ,λp hp=>?_,UB ⟨oL,hoL,I.free⟩ hs,by simpa using I.len⟩ ⟨_,hs,.inl rfl⟩
   . exact(hs.2 b (aaC (aay (aap e) I.ok.above))).trans (I.base.keep b o e n hb hx)
   . obtain⟨sl, e1⟩ := I.base.slot b o e n hb hx;exact⟨sl,(hs.2 b (aaC (aay (aap e) I.ok.above))).trans e1⟩
   . obtain⟨o', e1⟩ := I.base.there b o e hx;exact⟨o',(hs.2 b (aaC (aay (aap e) I.ok.above))).trans e1⟩
   . by_cases hj:j=i
     . subst hj;rw[hi] at e1;cases e1;rw[aaO hiZ] at e2;cases e2
       exact⟨u,r,.inl ⟨hk,by simp⟩⟩
     . rw[aaP (Ne.symm hj)] at e2;obtain⟨u',r',q⟩:=hl j y v' e1 e2 e3;refine⟨u',r',?_⟩;rcases q with ⟨k,e⟩ | ⟨k,c,e,z⟩
       . refine .inl ⟨k,?_⟩
         have:y≠x:=λe=>hj (AF hN e1 (e ▸ hi))
         simp[this,e]
       . exact .inr ⟨k,c,e,z.sameBut hs (zM y c e)⟩
   . obtain⟨w', z⟩ := I.cell y c e;exact⟨w',z.sameBut hs (zM y c e)⟩
   . obtain⟨e, n, ne, nf, d⟩ := I.pin p hp;exact⟨(hs.2 p.1 ne).trans e,n,ne,nf,d⟩
 . have hfn : X.fn x = true := by
     rcases hf with z | z
     . exact z
     . rw[z] at hk;cases hk
   obtain⟨c,hc⟩:=I.ok.has x (.inl hk);obtain⟨w',z⟩:=I.cell x c hc;refine wpAny_storeName_cell I.ok.kind hk hc z (λh' hc' hs=>?_);obtain⟨oc,hoc,hocd⟩:=id z;refine h { s with heap:=h' } ⟨I.ok,I.os,I.bare,⟨λb o e n hb hx=>?_,λb o e n hb hx=>?_,I.base.free,λb o e hx=>?_,I.base.jB,I.base.iZ,I.base.jJ⟩,⟨m,hn.sameBut hs (Ne.symm (zM x c hc)),λj y v' e1 e2 e3=>?_⟩,λy c' e=>?_,I.free,I.fQ,λp hp=>?_,UB ⟨oc,hoc,I.fQ x c hc⟩ hs,by simpa using I.len⟩ ⟨c,hs,.inr hc⟩
   . exact(hs.2 b (aaC (aay (aap e) (I.ok.A8 x c hfn hc)))).trans (I.base.keep b o e n hb hx)
   . obtain⟨sl, e1⟩ := I.base.slot b o e n hb hx;exact⟨sl,(hs.2 b (aaC (aay (aap e) (I.ok.A8 x c hfn hc)))).trans e1⟩
   . obtain⟨o', e1⟩ := I.base.there b o e hx;exact⟨o',(hs.2 b (aaC (aay (aap e) (I.ok.A8 x c hfn hc)))).trans e1⟩
   . by_cases hj:j=i
     . subst hj;rw[hi] at e1;cases e1;rw[aaO hiZ] at e2;cases e2
       exact⟨u,r,.inr ⟨.inl hk,c,hc,hc'⟩⟩
     . rw[aaP (Ne.symm hj)] at e2;obtain⟨u',r',q⟩:=hl j y v' e1 e2 e3;refine⟨u',r',?_⟩;rcases q with q | ⟨k,c',e,z'⟩
       . exact .inl q
       . refine .inr ⟨k,c',e,z'.sameBut hs ?_⟩;rintro rfl;exact hj (AF hN e1 (I.ok.inj _ _ _ e hc ▸ hi))
   . by_cases hcc:c'=c
     . subst hcc;exact⟨_,hc'⟩
     . obtain⟨w2, z2⟩ := I.cell y c' e;exact⟨w2,z2.sameBut hs hcc⟩
   . obtain⟨e, n, ne, nf, d⟩ := I.pin p hp;refine⟨(hs.2 p.1 ?_).trans e,n,ne,nf,d⟩;intro q;rw[q,hoc] at e;have q':oc=p.2:=aaw e;exact d w' (by rw[<- q'];exact hocd)
theorem mX (I:Inv X gV Z H s)(hN:X.N.Nodup)(hi:X.N[i]? = some x)(hx:Loc X.env.scope x)(r:RelV v u)
   (h:∀ s',Inv X gV (Z.set i (some v)) H s'->Q () s') (hf:X.fn x=true∨X.env.scope.names.lookup x=some .local:=by first | exact .inl rfl | exact .inr rfl | assumption):wpAny M A (storeName X.env x u) Q E s :=
 xC I hN hi hx r (λs' I' _=>h s' I') hf
theorem Inv.vz (I:Inv X gV Z H s)(ho:s'.os=s.os)(u:Un (cR X.stack) ch H H' s.heap s'.heap)(az:de X.prog X.w H' s'.heap)(hg:AllBare s'.gens)
   (WJ:∀ b∈ch,(b∈X.ex∨X.s₀.heap.objs.size<=b)/\b≠X.env.locals/\(∀ x c,X.env.cells.lookup x=some c->c≠b)/\∀ p∈X.pn++gV,p.1≠b):Inv X gV Z H' s':=by
 obtain⟨h',g',d',t',o'⟩:=s';have e:o'=s.os:=ho;subst e;exact I.call (g':=g') (t':=t') (d':=d') u az hg WJ
end
abbrev XK:=Value->Option Addr->Hp->Prop
abbrev St:=List (Option V)
abbrev VK:=V->Hp->Prop
abbrev TE:=St->Hp->VK->Prop
abbrev TT:=St->Hp->(Bool->Hp->Prop)->Prop
abbrev TA:=St->Hp->(List V->Hp->Prop)->Prop
structure Ends where
 nx:St->Hp->Prop
 rt:VK
 bk:St->Hp->Prop:=λ_ _=>False
 ct:St->Hp->Prop:=λ_ _=>False
abbrev TS:=Ends->St->Hp->Prop
def EP (X:Cx)(gV:List (Addr×Obj))(Z : St)(Q:VK)(u:Value)(s':Shared):Prop:=∃ v H',Inv X gV Z H' s'/\RelV v u/\Q v H'
def TP (X:Cx)(gV:List (Addr×Obj))(Z : St)(Q:Bool->Hp->Prop)(b:Bool)(s':Shared):Prop:=∃ H',Inv X gV Z H' s'/\Q b H'
def AP (X:Cx)(gV:List (Addr×Obj))(Z : St)(Q:List V->Hp->Prop)(us:List Value)(s':Shared):Prop:=∃ vs H',Inv X gV Z H' s'/\aI vs us/\Q vs H'
def SP (X:Cx)(gV:List (Addr×Obj))(D:Ends)(f:Flow)(s':Shared):Prop :=
 match f with
 | .next=>∃ Z' H',Inv X gV Z' H' s'/\D.nx Z' H'
 | .brk=>∃ Z' H',Inv X gV Z' H' s'/\D.bk Z' H'
 | .cont=>∃ Z' H',Inv X gV Z' H' s'/\D.ct Z' H'
 | .ret u=>∃ v Z' H',Inv X gV Z' H' s'/\RelV v u/\D.rt v H'
def PE (X:Cx)(e:Expr)(t:TE):Prop :=
 ∀ (gV:List (Addr×Obj)) (s:Shared) (Z : St) (H:Hp) (Q:VK),Inv X gV Z H s->t Z H Q->wpAny (model X.prog X.w) X.A (eval e X.env) (EP X gV Z Q) X.xe s
def PT (X:Cx)(e:Expr)(t:TT):Prop :=
 ∀ (gV:List (Addr×Obj)) (s:Shared) (Z : St) (H:Hp) (Q:Bool->Hp->Prop),Inv X gV Z H s->t Z H Q->wpAny (model X.prog X.w) X.A (isTrue e X.env (eval e X.env)) (TP X gV Z Q) X.xe s
def PW (X:Cx)(e:Expr)(t:TT):Prop :=
 ∀ (Tw:Sem Value) (gV:List (Addr×Obj)) (s:Shared) (Z : St) (H:Hp) (Q:Bool->Hp->Prop),Inv X gV Z H s->t Z H Q->wpAny (model X.prog X.w) X.A (isTrue e X.env Tw) (TP X gV Z Q) X.xe s
variable {e:Expr}
theorem PW.pt (h:PW X e t):PT X e t:=h _
def PA (X:Cx)(es:List Expr)(t:TA):Prop :=
 ∀ (pos:Pos) (gV:List (Addr×Obj)) (s:Shared) (Z : St) (H:Hp) (Q:List V->Hp->Prop),Inv X gV Z H s->t Z H Q->wpAny (model X.prog X.w) X.A (spliced (backTo pos (aai es X.env))) (AP X gV Z Q) X.xe s
def PS (X:Cx)(st:Stmt)(t:TS):Prop :=
 ∀ (gV:List (Addr×Obj)) (s:Shared) (Z : St) (H:Hp) (D:Ends),Inv X gV Z H s->t D Z H->wpAny (model X.prog X.w) X.A (exec st X.env) (SP X gV D) X.xe s
def gw (X:Cx)(st:List Stmt)(t:TS):Prop :=
 ∀ (gV:List (Addr×Obj)) (s:Shared) (Z : St) (H:Hp) (D:Ends),Inv X gV Z H s->t D Z H->wpAny (model X.prog X.w) X.A (execs st X.env) (SP X gV D) X.xe s
variable {s:Shared} {E:Value->Shared->Prop} {A:Around} {M:Model}
theorem aQ (h:wpAny M A t Q E s)(hQ:∀ a s,Q a s->Q' a s):wpAny M A t Q' E s:=aaH h hQ λ_ _ x=>x
section
variable {X:Cx}
@[reducible] def Rk:Option V->(V->Prop)->Prop
 | some v,k=>k v
 | none,_=>False
@[reducible] def Jv:St->Nat->(V->Prop)->Prop
 | [],_,_=>False
 | o::_,0,k=>Rk o k
 | _::r,n+1,k=>Jv r n k
@[reducible] def IL:St->Nat->V->(St->Prop)->Prop
 | [],_,_,k=>k []
 | _::r,0,v,k=>k (some v::r)
 | o::r,n+1,v,k=>IL r n v λr'=>k (o::r')
@[reducible] def KC:V->(Bool->Prop)->Prop
 | .bl b,k=>k b
 | _,_=>False
@[reducible] def Ga:V->(Int->Prop)->Prop
 | .int b,k=>k b
 | _,_=>False
@[reducible] def Oh:V->(V->Prop)->Prop
 | .int i,k=>k (.int i)
 | .bl b,k=>k (.bl b)
 | v,k=>k v
@[reducible] def D3:List V->Nat->Prop->Prop
 | [],_,p=>p
 | _::r,n+1,p=>D3 r n p
 | _::_,0,_=>False
theorem Gp (h:Oh x k):k x:=by cases x <;> exact h
theorem qQ:∀ {xs:List V} {n:Nat} {p:Prop},D3 xs n p->xs.length<=n/\p
 | [],_,_,h=>⟨aaX _,h⟩
 | _::r,n+1,p,h=>⟨ade (qQ (xs:=r) (n:=n) (p:=p) h).1,(qQ (xs:=r) (n:=n) (p:=p) h).2⟩
theorem Dc:∀ {Z : St} {i:Nat} {k:V->Prop},Jv Z i k->∃ v,Z[i]? = some (some v)/\k v
 | some v::_,0,_,h=>⟨v,rfl,h⟩
 | _ :: r, n + 1, k, h => by
   obtain⟨v,e,q⟩:=Dc (Z:=r) (i:=n) (k:=k) h;exact⟨v,by rw[List.getElem?_cons_succ];exact e,q⟩
theorem qo:∀ (Z : St) (i:Nat) (v:V) (k:St->Prop),IL Z i v k ↔ k (Z.set i (some v))
 | [],_,_,_=>Iff.rfl
 | _::_,0,_,_=>Iff.rfl
 | o::r,n+1,v,k=>qo r n v λr'=>k (o::r')
theorem ug (h:KC x k):∃ b,x=.bl b/\k b:=by
 cases x with
 | bl b=>exact⟨b,rfl,h⟩
 | _=>exact h.elim
theorem vd (h:Ga x k):∃ b,x=.int b/\k b:=by
 cases x with
 | int b=>exact⟨b,rfl,h⟩
 | _=>exact h.elim
variable {x:Str} {i:Nat}
@[reducible] def aC (i:Nat):TE:=λZ H Q=>Jv Z i λv=>Q v H
@[reducible] def tC (v:V):TE:=λ_ H Q=>Q v H
theorem FK (hN:X.N[i]? = some x)(hv:NK X.env.scope x)(hd:(x == ("__debug__" : Str))=false:=by decide)(Tp:(x == ("__classdict__" : Str))=false:=by decide):PE X (.Name x pos) (aC i):=by
 intro gV s Z H Q I h;obtain⟨v,e,h⟩:=Dc h;obtain⟨m,hn,hl⟩:=I.loc;obtain⟨u,r,l⟩:=hl i x v hN e hv;have S0:EP X gV Z Q u s:=⟨v,H,I,r,h⟩
 rcases l with ⟨hk,hm⟩ | ⟨hk,c,hc,hcell⟩
 . exact wpAny_Name (wpAny_loadName_local I.ok.kind hk hn hm S0) hd
 . rcases hk with hk | hk
   . exact wpAny_Name (wpAny_loadName_cell I.ok.kind hk hc hcell S0) hd
   . exact wpAny_Name (wpAny_loadName_free I.ok.kind hk hc hcell S0 Tp) hd
theorem aL {i j pos}:PE X (.Constant (.int i) j pos) (tC (.int i)):=λ_ _ _ H _ I h=>wpAny_Constant_int ⟨.int i,H,I.tok _,⟨_,rfl⟩,h⟩
theorem Kz {b j pos}:PE X (.Constant (.bool b) j pos) (tC (.bl b)):=λ_ _ _ H _ I h=>Constant_bool ⟨.bl b,H,I,rfl,h⟩
theorem jq:PE X (.Constant .none j pos) (tC .aA):=λ_ _ _ H _ I h=>Constant_none ⟨.aA,H,I,rfl,h⟩
theorem gK {x j pos}:PE X (.Constant (.str x) j pos) (tC (.str x)):=λ_ _ _ H _ I h=>Calls.Constant_str ⟨.str x,H,I.tok _,⟨_,rfl⟩,h⟩
def Gl (X:Cx)(x:Str):Prop:=X.env.kindOf x=some .globalImplicit
variable {Z : St} {gV:List (Addr×Obj)}
theorem eX {E:Value->Shared->Prop}(I:Inv X gV Z H s)(hg:Gl X x)(hm:X.mg x=some u)(h:Q u s)
   (hd:(x == ("__debug__" : Str))=false:=by decide):wpAny (model X.prog X.w) X.A (eval (.Name x pos) X.env) Q E s :=
 Calls.Name_function_global I.ok.kind hg (Calls.loadGlobal_global (by rw[I.ok.glob];exact I.mod.glob.keeps I.bk) hm h) hd
theorem l7 {E:Value->Shared->Prop}(I:Inv X gV Z H s)(hg:Gl X x)(hm:X.mg x=none)(hv:aaY x=some u)(h:Q u s)
   (hn:x ≠ "__name__":=by decide) (hd:(x == ("__debug__" : Str))=false:=by decide):wpAny (model X.prog X.w) X.A (eval (.Name x pos) X.env) Q E s:=by
 obtain⟨mb,h1,h2⟩:=I.mod.blt;exact Calls.Name_function_global I.ok.kind hg (Calls.loadGlobal_builtin (by rw[I.ok.glob];exact I.mod.glob.keeps I.bk) hm (by rw[I.ok.blt];exact h1.keeps I.bk) ((h2 x hn).trans hv) h) hd
theorem gu (hg:Gl X x)(hm:X.mg x=some u)(r:RelV v u)(hd:(x == ("__debug__" : Str))=false:=by decide):PE X (.Name x pos) (tC v) :=
 λ_ _ _ H _ I h=>eX I hg hm ⟨v,H,I,r,h⟩ hd
variable {a b:Expr} {ta tb:TE} {pos:Pos}
def PC (X:Cx)(op:CmpOp)(a b:Expr)(t:TE):Prop :=
 ∀ (gV:List (Addr×Obj)) (s:Shared) (Z : St) (H:Hp) (Q:VK),Inv X gV Z H s->t Z H Q ->
   wpAny (model X.prog X.w) X.A (eval a X.env) (λv s₁=>wpAny (model X.prog X.w) X.A (eval b X.env) (λu s₂=>wpAny (model X.prog X.w) X.A (aaT op v u) (EP X gV Z Q) X.xe s₂) X.xe s₁) X.xe s
def tB (t:TE):TT:=λZ H Q=>t Z H λx H1=>∃ c,x=.bl c/\Q c H1
variable {op:CmpOp}
theorem AE {t:TE}(h:PC X op a b t)(h1:adm op b=false:=by first | exact nobehind _ (by decide) (by decide) | rfl):PT X (.Compare a [op] [b] pos) (tB t):=by
 intro gV s Z H Q I hw;refine wpAny_isTrue_Compare1 (aQ (h gV s Z H _ I hw) λv s1 h1=>aQ h1 λu s2 h2=>aQ h2 λc s3 zq=>bN zq λx H1 I1 r1 q1=>?_) h1;obtain⟨d,rfl,q⟩:=q1;cases r1
 exact abd ⟨H1,I1,q⟩
variable {tA Ww:TT} {rest:List Expr}
@[reducible] def OQ (t u:TT):TT:=λZ H Q=>t Z H λc H1=>if c=true then u Z H1 Q else Q false H1
@[reducible] def Kk (t u:TT):TT:=λZ H Q=>t Z H λc H1=>if c=true then Q true H1 else u Z H1 Q
@[reducible] def sO (t:TT):TT:=λZ H Q=>t Z H λc H1=>Q (!c) H1
theorem qE (ha:PT X a tA):PW X (.BoolOp .And [a] pos) tA:=by
 intro wh gV s Z H Q I h;refine isTrue_and (aQ (ha gV s Z H Q I h) λc s1 e=>?_);cases c with
 | true=>exact isTrue_and_nil e
 | false=>exact e
theorem Bo (ha:PT X a tA):PW X (.BoolOp .Or [a] pos) tA:=by
 intro wh gV s Z H Q I h;refine isTrue_or (aQ (ha gV s Z H Q I h) λc s1 e=>?_);cases c with
 | false=>exact isTrue_or_nil e
 | true=>exact e
theorem oG (ha:PT X a tA)(hb:PW X (.BoolOp .And (b::rest) pos) Ww):PW X (.BoolOp .And (a::b::rest) pos) (OQ tA Ww):=by
 intro wh gV s Z H Q I h;refine isTrue_and (aQ (ha gV s Z H _ I h) λc s1 zq=>nW zq λH1 I1 q1=>?_);cases c with
 | true=>exact hb wh gV s1 Z H1 Q I1 q1
 | false=>exact⟨H1,I1,q1⟩
theorem zc (ha:PT X a tA)(hb:PW X (.BoolOp .Or (b::rest) pos) Ww):PW X (.BoolOp .Or (a::b::rest) pos) (Kk tA Ww):=by
 intro wh gV s Z H Q I h;refine isTrue_or (aQ (ha gV s Z H _ I h) λc s1 zq=>nW zq λH1 I1 q1=>?_);cases c with
 | true=>exact⟨H1,I1,q1⟩
 | false=>exact hb wh gV s1 Z H1 Q I1 q1
theorem E4 (ha:PT X a tA):PT X (.UnaryOp .Not a pos) (sO tA):=by
 intro gV s Z H Q I h;exact isTrue_not (ha gV s Z H (λc H1=>Q (!c) H1) I h)
@[reducible] def PJ (ta tb:TE):TE:=λZ H Q=>ta Z H λx H1=>KC x λc=>if c=true then tb Z H1 Q else Q (.bl false) H1
@[reducible] def Ra (ta tb:TE):TE:=λZ H Q=>ta Z H λx H1=>KC x λc=>if c=true then Q (.bl true) H1 else tb Z H1 Q
theorem Bf {op}{t:TE}(h:PE X a t):PE X (.BoolOp op [a] pos) t:=λgV s Z H Q I hw=>BoolOp_one (h gV s Z H Q I hw)
theorem E9 (ha:PE X a ta)(hb:PE X (.BoolOp .And (b::rest) pos) tb):PE X (.BoolOp .And (a::b::rest) pos) (PJ ta tb):=by
 intro gV s Z H Q I h;refine BoolOp_and (aQ (ha gV s Z H _ I h) λv s1 zq=>bN zq λx H1 I1 r1 q1=>?_);obtain⟨c,rfl,q1⟩:=ug q1;cases r1
 refine abd ?_;cases c with
 | true=>exact hb gV s1 Z H1 Q I1 q1
 | false=>exact⟨.bl false,H1,I1,rfl,q1⟩
theorem JD (ha:PE X a ta)(hb:PE X (.BoolOp .Or (b::rest) pos) tb):PE X (.BoolOp .Or (a::b::rest) pos) (Ra ta tb):=by
 intro gV s Z H Q I h;refine BoolOp_or (aQ (ha gV s Z H _ I h) λv s1 zq=>bN zq λx H1 I1 r1 q1=>?_);obtain⟨c,rfl,q1⟩:=ug q1;cases r1
 refine abd ?_;cases c with
 | false=>exact hb gV s1 Z H1 Q I1 q1
 | true=>exact⟨.bl true,H1,I1,rfl,q1⟩
@[reducible] def RQ (t:TT) (ta tb:TE):TE:=λZ H Q=>t Z H λc H1=>if c=true then ta Z H1 Q else tb Z H1 Q
theorem sJ {c:Expr}(hc:PT X c tA)(ha:PE X a ta)(hb:PE X b tb):PE X (.IfExp c a b pos) (RQ tA ta tb):=by
 intro gV s Z H Q I h;refine wpAny_IfExp (aQ (hc gV s Z H _ I h) λd s1 zq=>nW zq λH1 I1 q1=>?_);cases d with
 | true=>exact ha gV s1 Z H1 Q I1 q1
 | false=>exact hb gV s1 Z H1 Q I1 q1
end
def aq (K:W.Frag)(H:Hp)(a:Addr)(xs:List V):Prop :=
 Rd H a (.lst xs) ∨
   ∃ (o:Obj) (its:Array Value) (n:Nat),K.lookup a=some o/\o.cls=.type "list"/\o.dict=none/\o.data=.seq its n/\its.size<=aal/\aI xs its.toList
def aJ (K:W.Frag)(H:Hp)(a:Addr)(xs:List V):Prop :=
 Rd H a (.tup xs) ∨
   ∃ (o:Obj) (its:Array Value) (n:Nat),K.lookup a=some o/\o.cls=.type "tuple"/\o.data=.seq its n/\its.size<=aal/\aI xs its.toList
def RF:Value->Option V
 | .none=>some .aA
 | .bool b=>some (.bl b)
 | .int i _=>some (.int i)
 | .str x _=>some (.str x)
 | .bytes b _=>some (.byt b)
 | .float b _=>some (.An b)
 | .ref a=>some (.ref a)
 | .type n=>some (.ty n)
 | _=>none
theorem RelV.abs (r:RelV x u):RF u=some x:=by
 cases x with
 | aA=>cases r;rfl
 | bl _=>cases r;rfl
 | int _=>obtain⟨t,rfl⟩:=r;rfl
 | str _=>obtain⟨t,rfl⟩:=r;rfl
 | byt _=>obtain⟨t,rfl⟩:=r;rfl
 | An _=>obtain⟨t,rfl⟩:=r;rfl
 | ref _=>cases r;rfl
 | ty _=>cases r;rfl
theorem RelV.inj (r:RelV x u)(q:RelV y u):x=y:=aaw (r.abs.symm.trans q.abs)
theorem aI.inj:∀ {xs ys:List V} {us:List Value},aI xs us->aI ys us->xs=ys
 | _,_,_,.nil,.nil=>rfl
 | _,_,_,.cons r t,.cons r' t'=>by rw[r.inj r',aI.inj t t']
section
variable {X:Cx} {gV:List (Addr×Obj)} {Z : St} {H:Hp} {s:Shared} {a:Addr} {xs ys:List V}
theorem aq.of {K:W.Frag}(h:H a=some (.lst xs)):aq K H a xs:=.inl (.inl h)
theorem aJ.of {K:W.Frag}(h:H a=some (.tup xs)):aJ K H a xs:=.inl (.inl h)
theorem Inv.list (I:Inv X gV Z H s)(h:aq X.K H a xs):∃ its:List Value,aI xs its/\PlainL s.heap a its.toArray/\xs.length<=aal:=by
 rcases h with h | ⟨o,its,n,hk,hc,hd,hs,hz,r⟩
 . obtain⟨z, its, n, r, e⟩ := h.ok I.az;exact⟨its,r,⟨_,n,e,rfl,rfl,rfl⟩,z⟩
 . refine⟨its.toList, r, ⟨o, n, I.df a o hk, hc, hd, by simpa using hs⟩, ?_⟩;have e:=r.length;simp only[ab1] at e;omega
theorem Inv.tuple (I:Inv X gV Z H s)(h:aJ X.K H a xs):∃ its:List Value,aI xs its/\IsTup s.heap a its.toArray/\xs.length<=aal:=by
 rcases h with h | ⟨o,its,n,hk,hc,hs,hz,r⟩
 . obtain⟨z, its, r, p⟩ := h.ok I.az;exact⟨its,r,p,z⟩
 . refine⟨its.toList, r, ⟨o, I.df a o hk, hc, n, by simpa using hs⟩, ?_⟩;have e:=r.length;simp only[ab1] at e;omega
theorem Inv.tu (I:Inv X gV Z H s)(h:aq X.K H a xs)(h':aq X.K H a ys):xs=ys:=by
 obtain⟨its,r,⟨o,n,e,_,_,d⟩,_⟩:=I.list h;obtain⟨its',r',⟨o',n',e',_,_,d'⟩,_⟩:=I.list h';rw[e] at e';cases e';rw[d] at d';injection d' with d1 _
 have:its=its':=by simpa using congrArg Array.toList d1
 subst this;exact r.inj r'
theorem Inv.yf (I:Inv X gV Z H s)(h:aJ X.K H a xs)(h':aJ X.K H a ys):xs=ys:=by
 obtain⟨its,r,⟨o,e,_,n,d⟩,_⟩:=I.tuple h;obtain⟨its',r',⟨o',e',_,n',d'⟩,_⟩:=I.tuple h';rw[e] at e';cases e';rw[d] at d';injection d' with d1 _
 have:its=its':=by simpa using congrArg Array.toList d1
 subst this;exact r.inj r'
end
abbrev Cx.fX (X:Cx)(E:Value->Shared->Prop):Cx:={ X with xe:=E }
abbrev Cx.eZ (X:Cx):Cx:=X.fX λ_ _=>False
theorem Cx.Ok.fX {X:Cx}(ok:X.Ok)(E:Value->Shared->Prop):(X.fX E).Ok :=
 ⟨ok.mod,ok.kind,ok.glob,ok.blt,ok.above,ok.inj,ok.has,ok.A8,ok.hd,ok.frames,ok.Dn,ok.JZ,ok.bs,ok.rG,ok.tW,ok.xf,ok.gC,ok.ua⟩
theorem Cx.Ok.eE {X:Cx}(ok:(X.fX E).Ok):X.Ok :=
 ⟨ok.mod,ok.kind,ok.glob,ok.blt,ok.above,ok.inj,ok.has,ok.A8,ok.hd,ok.frames,ok.Dn,ok.JZ,ok.bs,ok.rG,ok.tW,ok.xf,ok.gC,ok.ua⟩
section
variable {X:Cx} {gV:List (Addr×Obj)} {Z : St} {H:Hp} {s:Shared} {E:Value->Shared->Prop}
theorem Inv.fX (I:Inv X gV Z H s)(E:Value->Shared->Prop):Inv (X.fX E) gV Z H s:=⟨I.ok.fX E,I.os,I.bare,I.base,I.loc,I.cell,I.free,I.fQ,I.pin,I.az,I.len⟩
theorem Inv.eE (I:Inv (X.fX E) gV Z H s):Inv X gV Z H s:=⟨I.ok.eE,I.os,I.bare,I.base,I.loc,I.cell,I.free,I.fQ,I.pin,I.az,I.len⟩
theorem SP.eE (h:SP (X.fX E) gV D f s'):SP X gV D f s':=by
 cases f with
 | next=>obtain⟨Z',H',I,q⟩:=h;exact⟨Z',H',I.eE,q⟩
 | brk=>obtain⟨Z',H',I,q⟩:=h;exact⟨Z',H',I.eE,q⟩
 | cont=>obtain⟨Z',H',I,q⟩:=h;exact⟨Z',H',I.eE,q⟩
 | ret u=>obtain⟨v,Z',H',I,r,q⟩:=h;exact⟨v,Z',H',I.eE,r,q⟩
theorem PT.eZ {t:TT}(h:PT X.eZ e t):PT X e t:=λgV s Z H Q I hw =>
 aaH (h gV s Z H Q (I.fX _) hw) (λ_ _ zq=>nW zq λH' I' q=>⟨H',I'.eE,q⟩) λ_ _ z=>aaW z
theorem gw.eZ {st:List Stmt}{t:TS}(h:gw X.eZ st t):gw X st t:=λgV s Z H D I hw =>
 aaH (h gV s Z H D (I.fX _) hw) (λ_ _ q=>q.eE) λ_ _ z=>aaW z
end
section
variable {X:Cx} {st:Stmt} {rest:List Stmt} {t u:TS} {e:Expr} {te:TE} {pos:Pos}
@[reducible] def di:TS:=λD Z H=>D.nx Z H
@[reducible] def bR (t u:TS):TS:=λD Z H=>t { D with nx:=u D } Z H
theorem cB:gw X [] di:=λ_ _ Z H _ I h=>abH ⟨Z,H,I,h⟩
theorem aR (h1:PS X st t)(h2:gw X rest u):gw X (st::rest) (bR t u):=by
 intro gV s Z H D I h;refine adu (aQ (h1 gV s Z H { D with nx:=u D } I h) λf s1 q=>?_);cases f with
 | next =>
   obtain⟨Z',H',I',q⟩:=q;exact h2 gV s1 Z' H' D I' q
 | ret v=>exact q
 | brk=>exact q
 | cont=>exact q
theorem fE (h1:PS X st t):gw X [st] t:=by
 intro gV s Z H D I h;refine adu (aQ (h1 gV s Z H D I h) λf s1 q=>?_);cases f with
 | next=>exact abH q
 | ret v=>exact q
 | brk=>exact q
 | cont=>exact q
variable {Z : St} {gV:List (Addr×Obj)}
theorem Inv.quiet (I:Inv X gV Z H s):interactive X.env=false:=by simp[interactive,I.ok.kind]
@[reducible] def y4 (te:TE):TS:=λD Z H=>te Z H λ_ H1=>D.nx Z H1
theorem gi (he:PE X e te)(hs:acW e none pos.line X.env=pure false:=by rfl):PS X (.Expr e pos) (y4 te):=by
 intro gV s Z H D I h;exact wpAny_Expr_any (aQ (he gV s Z H _ I h) λv s1 zq=>bN zq λx H1 I1 r1 q1=>⟨Z,H1,I1,q1⟩) I.quiet hs
@[reducible] def fZ (te:TE):TS:=λD Z H=>te Z H D.rt
theorem iO (he:PE X e te):PS X (.Return (some e) pos) (fZ te):=by
 intro gV s Z H D I h;exact wpAny_Return_some (aQ (he gV s Z H _ I h) λv s1 zq=>bN zq λx H1 I1 r1 q1=>⟨x,Z,H1,I1,r1,q1⟩)
@[reducible] def Qg:TS:=λD _ H=>D.rt .aA H
theorem CM:PS X (.Return none pos) Qg:=λ_ _ Z H _ I h=>wpAny_Return_none ⟨.aA,Z,H,I,rfl,h⟩
@[reducible] def d_ (c:TT) (t u:TS):TS:=λD Z H=>c Z H λb H1=>if b=true then t D Z H1 else u D Z H1
theorem Ki {c:Expr}{a b:List Stmt}{tc:TT}(hc:PT X c tc)(ha:gw X a t)(hb:gw X b u):PS X (.If c a b pos) (d_ tc t u):=by
 intro gV s Z H D I h;refine wpAny_If (aQ (hc gV s Z H _ I h) λd s1 zq=>nW zq λH1 I1 q1=>?_);cases d with
 | true=>exact ha gV s1 Z H1 D I1 q1
 | false=>exact hb gV s1 Z H1 D I1 q1
def MZ:TS:=λ_ _ _=>False
theorem Jo:PS X st MZ:=λ_ _ _ _ _ _ h=>h.elim
end
abbrev TG:=V->St->Hp->(St->Hp->Prop)->Prop
abbrev xo:=List V->St->Hp->(St->Hp->Prop)->Prop
def PG (X:Cx)(Ud:Expr)(t:TG):Prop :=
 ∀ (gV:List (Addr×Obj)) (s:Shared) (Z : St) (H:Hp) (v:V) (u:Value) (Q:St->Hp->Prop),Inv X gV Z H s->RelV v u->t v Z H Q ->
   wpAny (model X.prog X.w) X.A (assign Ud X.env u) (λ_ s'=>∃ Z' H',Inv X gV Z' H' s'/\Q Z' H') X.xe s
def Fv (X:Cx)(ts:List Expr)(t:xo):Prop :=
 ∀ (gV:List (Addr×Obj)) (s:Shared) (Z : St) (H:Hp) (vs:List V) (us:List Value) (Q:St->Hp->Prop),Inv X gV Z H s->aI vs us->t vs Z H Q ->
   wpAny (model X.prog X.w) X.A (assignInOrder ((acS ts X.env).map (·.2)) us) (λ_ s'=>∃ Z' H',Inv X gV Z' H' s'/\Q Z' H') X.xe s
abbrev Ig:=V->V->V->Hp->(Hp->Prop)->Prop
def Nr (X:Cx)(t:Ig):Prop :=
 ∀ (gV:List (Addr×Obj)) (s:Shared) (Z : St) (H:Hp) (o i v:V) (ov iv u:Value) (Q:Hp->Prop),Inv X gV Z H s->RelV o ov->RelV i iv->RelV v u->t o i v H Q ->
   wpAny (model X.prog X.w) X.A (setItem ov iv u) (λ_ s'=>∃ H',Inv X gV Z H' s'/\Q H') X.xe s
section
variable {X:Cx} {pos:Pos}
variable {x:Str} {i:Nat}
@[reducible] def bh (i:Nat):TG:=λv Z H Q=>IL Z i v λZ1=>Q Z1 H
theorem bO (hN:X.N.Nodup)(hi:X.N[i]? = some x)(hx:Loc X.env.scope x)(hf:X.fn x=true∨X.env.scope.names.lookup x=some .local:=by first | exact .inl rfl | exact .inr rfl | assumption):PG X (.Name x pos) (bh i):=by
 intro gV s Z H v u Q I r h;exact wpAny_assign_Name (mX I hN hi hx r (λs' I'=>⟨_,H,I',(qo _ _ _ _).1 h⟩) hf)
def MK:xo:=λvs Z H Q=>vs=[]/\Q Z H
def Kh (t:TG)(u:xo):xo:=λvs Z H Q=>∃ v r,vs=v::r/\t v Z H λZ' H'=>u r Z' H' Q
theorem wt:Fv X [] MK:=by
 intro gV s Z H vs us Q I r h;obtain⟨e,h⟩:=h;subst e;cases r
 exact assignInOrder_nil ⟨Z,H,I,h⟩
theorem km {es:List Expr}{t:TG}{u:xo}(h1:PG X e t)(h2:Fv X es u)
   (hs:(acS (e::es) X.env).map (·.2)=assign e X.env::(acS es X.env).map (·.2):=by rfl):Fv X (e::es) (Kh t u):=by
 intro gV s Z H vs us Q I r h;obtain⟨v,vr,e1,h⟩:=h;subst e1;cases r with
 | cons r rr =>
   rw[hs];refine assignInOrder_cons (aQ (h1 gV s Z H _ _ _ I r h) λ_ s1 zq=>?_);obtain⟨Z1,H1,I1,q1⟩:=zq;exact h2 gV s1 Z1 H1 _ _ Q I1 rr q1
def HW (K:W.Frag)(n:Nat)(t:xo):TG:=λv Z H Q=>∃ a xs,v=.ref a/\aJ K H a xs/\xs.length=n/\t xs Z H Q
theorem OC (hc:X.calm=true)(h:Fv X es t)
   (hn:(acS es X.env).length=n:=by rfl) (S_:(acS es X.env).findIdx? (·.1)=none:=by rfl):PG X (.Tuple es k pos) (HW X.K n t):=by
 intro gV s Z H v u Q I r hw;obtain⟨a,xs,e1,hq,hl,hw⟩:=hw;subst e1;cases r
 obtain⟨its,rv,ht,hz⟩:=I.tuple hq;refine assign_Tuple_tuple (I.ok.hd hc) ht (by simp[hn,<- hl,rv.length]) S_ λh' hx=>?_;have I1:Inv X gV Z H { s with heap:=h' }:=I.kept (t':=s.toks) λb o e=>hx b o (aaC (aap e)) e;exact h gV _ Z H xs _ Q I1 (by simpa using rv) hw
@[reducible] def Rn (to ti:TE) (t:Ig):TG:=λv Z H Q=>to Z H λo H1=>ti Z H1 λi H2=>t o i v H2 λH3=>Q Z H3
theorem OP {o i:Expr}{to ti:TE}{t:Ig}(ho:PE X o to)(hi:PE X i ti)(hs:Nr X t)
   (ha : ∀ v, assign (.Subscript o i pos) X.env v = (do
     let ov <- holding [v] (eval o X.env)
     let iv <- holding [v,ov] (eval i X.env)
     standAt pos
     holding [v,ov,iv] (setItem ov iv v)
     release [v,ov,iv] []):=by intro _;rfl):PG X (.Subscript o i pos) (Rn to ti t):=by
 intro gV s Z H v u Q I r h;rw[ha];refine aad (aa9 (aQ (ho gV s Z H _ I h) λov s1 zq=>bN zq λx H1 I1 r1 q1=>?_));refine aad (aa9 (aQ (hi gV s1 Z H1 _ I1 q1) λiv s2 zq=>bN zq λy H2 I2 r2 q2=>?_));refine aad (acu (aad (aa9 (aQ (hs gV s2 Z H2 x y v ov iv u _ I2 r1 r2 r q2) λ_ s3 zq=>nW zq λH3 I3 q3=>?_))));exact wpAny_release ⟨Z,H3,I3,q3⟩
variable {tg:Expr}
@[reducible] def dq (te:TE) (g:TG):TS:=λD Z H=>te Z H λx H1=>g x Z H1 D.nx
theorem O5 {te : TE}{g : TG}(he : PE X e te)(hg : PG X tg g)(hs : swapsWithSole [tg] e pos.line X.env = pure false := by rfl)(hw : swappedStores [tg] e X.env = pure none := by rfl)
   (h1:(acS [tg] X.env).map (·.2)=[assign tg X.env]:=by rfl):PS X (.Assign [tg] e pos) (dq te g):=by
 intro gV s Z H D I h;refine wpAny_Assign_stores (aQ (he gV s Z H _ I h) λv s1 zq=>bN zq λx H1 I1 r1 q1=>?_) hs hw;rw[h1];exact aQ (hg gV s1 Z H1 x v _ I1 r1 q1) λ_ s2 q=>q
theorem c8 {te : TE}{Ts : Pos}(hN : X.N.Nodup)(hi : X.N[i]? = some x)(hx : Loc X.env.scope x)(he : PE X e te)(hs : acW e (some (.Name x Ts)) pos.line X.env = pure false := by rfl)(hf : X.fn x = true ∨ X.env.scope.names.lookup x = some .local := by first | exact .inl rfl | exact .inr rfl | assumption) :
   PS X (.Assign [.Name x Ts] e pos) (dq te (bh i)):=by
 intro gV s Z H D I h;refine wpAny_Assign_Name (aQ (he gV s Z H _ I h) λv s1 zq=>bN zq λy H1 I1 r1 q1=>?_) hs;exact mX I1 hN hi hx r1 (λs2 I2=>⟨_,H1,I2,(qo _ _ _ _).1 q1⟩) hf
end
section
variable {X:Cx} {pos:Pos}
def Ow (c:TT)(tb:TS):TS:=λD Z H=>∃ W:Nat->St->Hp->Prop,(∃ m,W m Z H)/\∀ m Z H,W m Z H ->
 c Z H λb H1=>if b=true then ∃ N:St->Hp->Prop,(∀ Z' H',N Z' H'->∃ m',m'<m/\W m' Z' H')/\tb { D with nx:=N,ct:=N,bk:=D.nx } Z H1 else D.nx Z H1
variable {tb:TS}
theorem j8 {c:Expr}{body:List Stmt}{tc:TT}(hp:PassesOwn (model X.prog X.w) X.A X.env X.xe)(hc:PT X c tc)(hb:gw X body tb):PS X (.While c body [] pos) (Ow tc tb):=by
 intro gV s Z H D I h;obtain⟨W,⟨m0,w0⟩,U8⟩:=h;refine wpAny_While (codeAny_whileLoop (λn s'=>∃ Z' H',Inv X gV Z' H' s'/\W n Z' H') ?_ m0 ⟨Z,H,I,w0⟩);rintro n s1 ⟨Z1,H1,I1,w1⟩;refine abW hp (aQ (hc gV s1 Z1 H1 _ I1 (U8 n Z1 H1 w1)) λb s2 zq=>nW zq λH2 I2 q2=>?_);cases b with
 | true =>
   obtain⟨N,hN,q2⟩:=q2;rw[if_pos rfl];refine abW hp (aQ (hb gV s2 Z1 H2 _ I2 q2) λf s3 q3=>?_);cases f with
   | next =>
     obtain⟨Z3,H3,I3,n3⟩:=q3;obtain⟨m',hm,w3⟩:=hN Z3 H3 n3;exact⟨m',hm,Z3,H3,I3,w3⟩
   | cont =>
     obtain⟨Z3,H3,I3,n3⟩:=q3;obtain⟨m',hm,w3⟩:=hN Z3 H3 n3;exact⟨m',hm,Z3,H3,I3,w3⟩
   | brk=>exact q3
   | ret v=>exact q3
 | false =>
   rw[if_neg aan];exact abH ⟨Z1,H2,I2,q2⟩
end
structure It where
 go:Nat->Hp->Prop
 rT:Nat->Hp->V->Hp->Prop
 stop:Nat->Hp->Prop
def pI (X:Cx)(gV:List (Addr×Obj))(H:Hp)(b:Addr):Prop :=
 H b=none/\b≠X.env.locals/\b ∉ X.fs/\(b∈X.ex∨X.s₀.heap.objs.size<=b)/\(∀ x c,X.env.cells.lookup x=some c->c≠b)/\∀ p∈X.pn++gV,p.1≠b
variable {Z : St} {gV:List (Addr×Obj)}
theorem Inv.tO (I:Inv X gV Z H s)(hb:s.heap.objs.size<=b)(hn:H' b=none):pI X gV H' b:=by
 refine⟨hn,abP (aay I.lt hb),I.Nz hb,.inr (aaJ I.sz hb),λx c e z=>?_,λp hp z=>?_⟩
 . obtain⟨v, q⟩ := I.cell x c e;exact absurd (aay q.lt (by rw[z];exact hb)) (abS _)
 . exact absurd (aay (aap (I.pin p hp).1) (by rw[z];exact hb)) (abS _)
structure Turn (P:Program)(w:World)(K:W.Frag)(tg:Expr)(J:It)(fp:List Addr)(it:Addr)(tn:Nat->Heap->Prop):Prop where
 mem:it∈fp
 obj:∀ i h,tn i h->∀ b∈fp,∃ o,h.get? b=some o/\∀ v,o.data≠.cell v
 keep:∀ i h h',tn i h->(∀ b∈fp,∀ o,h.get? b=some o->h'.get? b=some o)->tn i h'
 item:∀ (X:Cx),X.prog=P->X.w=w->X.K=K->X.calm=true->∀ (i:Nat) (gV:List (Addr×Obj)) (s:Shared) (Z : St) (H:Hp) (E:Value->Shared->Prop),Inv X gV Z H s->(∀ b∈fp,pI X gV H b)->tn i s.heap->J.go i H ->
   wpAny (model P w) X.A (pyNext (.ref it)) (λr s1=>∃ u,r=some u /\
     wpAny (model P w) X.A (adI tg (.ref it) u) (λ_ s2=>∃ x H',Inv X gV Z H' s2/\RelV x u/\J.rT i H x H'/\tn (i+1) s2.heap/\∀ b∈fp,H' b=none) E s1) E s
 done:∀ (X:Cx),X.prog=P->X.w=w->X.K=K->X.calm=true->∀ (i:Nat) (gV:List (Addr×Obj)) (s:Shared) (Z : St) (H:Hp) (E:Value->Shared->Prop),Inv X gV Z H s->(∀ b∈fp,pI X gV H b)->tn i s.heap->J.stop i H ->
   wpAny (model P w) X.A (pyNext (.ref it)) (λr s1=>r=none/\Inv X gV Z H s1) E s
 self:∀ (A:Around) (i:Nat) (s:Shared) (Q:Value->Shared->Prop) (E:Value->Shared->Prop),tn i s.heap->Q (.ref it) s->wpAny (model P w) A (pyIter (.ref it)) Q E s
abbrev TI:=St->Hp->(It->Hp->Prop)->Prop
def QI (X:Cx)(gV:List (Addr×Obj))(Z : St)(tg:Expr)(R:It->Hp->Prop)(itv:Value)(s2:Shared):Prop :=
 ∃ (it:Addr) (fp:List Addr) (tn:Nat->Heap->Prop) (J:It) (H':Hp),itv=.ref it/\Inv X gV Z H' s2/\Turn X.prog X.w X.K tg J fp it tn/\tn 0 s2.heap/\(∀ b∈fp,pI X gV H' b)/\R J H'
def PI (X:Cx)(tg iter:Expr)(wi:TI):Prop :=
 ∀ (gV:List (Addr×Obj)) (s:Shared) (Z : St) (H:Hp) (R:It->Hp->Prop),Inv X gV Z H s->wi Z H R ->
   wpAny (model X.prog X.w) X.A (eval iter X.env) (λv s1=>wpAny (model X.prog X.w) X.A (pyIter v) (QI X gV Z tg R) X.xe s1) X.xe s
theorem Ee {M:Model}{A:Around}{E:Value->Shared->Prop}{tg:Expr}{it:Addr}{u:Value}{o:Obj}{n:String}{vs:Array Value}{Q:Unit->Shared->Prop}(ho:s.heap.get? it=some o)(hc:o.cls=.type n)(hd:o.data=.fields vs)
   (hn : ["enumerate","zip","dict_itemiterator","dict_reverseitemiterator","odict_iterator","itertools.zip_longest","itertools.pairwise"].contains n=false) (hQ:Q () s):wpAny M A (adI tg (.ref it) u) Q E s:=by
 unfold adI
 cases tg <;> first
   | exact aak hQ
   | (cases u <;> first
       | exact aak hQ
       | (refine aad (wpAny_load ho ?_)
          rw[hc,hd];show wpAny M A (if (["enumerate","zip","dict_itemiterator","dict_reverseitemiterator","odict_iterator","itertools.zip_longest","itertools.pairwise"].contains n && vs[0]? == some (rawInt _))=true then _ else _) Q E s;rw[if_neg (by intro h;rw[hn,Bool.false_and] at h;cases h)];exact aak hQ))
def xO (K:W.Frag)(a:Addr):It :=
 ⟨λi H=>∃ xs x,aq K H a xs/\xs[i]? = some x,λi H x H'=>H'=H/\∀ xs,aq K H a xs->xs[i]? = some x,λi H=>∃ xs,aq K H a xs/\xs.length<=i⟩
def Kq (K:W.Frag)(a:Addr):It :=
 ⟨λi H=>∃ xs x,aJ K H a xs/\xs[i]? = some x,λi H x H'=>H'=H/\∀ xs,aJ K H a xs->xs[i]? = some x,λi H=>∃ xs,aJ K H a xs/\xs.length<=i⟩
def oJ (lo:Int)(n:Nat):It:=⟨λi _=>i<n,λi H x H'=>H'=H/\x=.int (lo+i),λi _=>n<=i⟩
variable {tg:Expr}
theorem E8 {P:Program}{w:World}{K:W.Frag}(a it:Addr):Turn P w K tg (xO K a) [it] it (λi h=>h.IsListIter it a i) where
 mem:=by simp
 obj:=λi h st b hb=>by
   have e:b=it:=by simpa using hb
   subst e;obtain⟨o,e,c,d⟩:=st;exact⟨o,e,λv z=>by rw[d] at z;cases z⟩
 keep:=λi h h' st k=>st.at λo e=>k it (by simp) o e
 item:=by
   intro X hP hw hK hc i gV s Z H E I hf st hg;subst hP hw hK;obtain⟨xs,x,hq,hx⟩:=hg;obtain⟨its,rv,p,hz⟩:=I.list hq;obtain⟨u,hu,ru⟩:=rv.get hx;obtain⟨f0,f1,f2,f3,f4,f5⟩:=hf it (by simp);refine wpAny_pyNext_list_item st p.isList (x:=u) (by simpa using hu) λh' st' sb=>?_;have I1:Inv X gV Z H { s with heap:=h' }:=I.turned (t':=s.toks) (λb o hb e=>(sb.2 b hb).trans e) f0 f1 f3 f4 f5;obtain⟨o,e,c,d⟩:=id st';exact⟨u,rfl,Ee (s:={ s with heap:=h' }) e c d (by decide) ⟨x,H,I1,ru,⟨rfl,λys hy=>by rw[I.tu hy hq];exact hx⟩,st',λb hb=>(hf b hb).1⟩⟩
 done:=by
   intro X hP hw hK hc i gV s Z H E I hf st hg;subst hP hw hK;obtain⟨xs,hq,hx⟩:=hg;obtain⟨its,rv,p,hz⟩:=I.list hq;obtain⟨f0,f1,f2,f3,f4,f5⟩:=hf it (by simp);have hl:=rv.length;exact wpAny_pyNext_list_end (I.ok.hd hc) st p.isList (by simp;omega) λh' eb=>⟨rfl,I.turned (t':=s.toks) (λb o hb e=>eb b o hb e) f0 f1 f3 f4 f5⟩
 self:=λ_ _ _ _ _ st h=>wpAny_pyIter_listiter st h
theorem DV {P:Program}{w:World}{K:W.Frag}(a it:Addr):Turn P w K tg (Kq K a) [it] it (λi h=>h.IsTupleIter it a i) where
 mem:=by simp
 obj:=λi h st b hb=>by
   have e:b=it:=by simpa using hb
   subst e;obtain⟨o,e,c,d⟩:=st;exact⟨o,e,λv z=>by rw[d] at z;cases z⟩
 keep:=λi h h' st k=>st.at λo e=>k it (by simp) o e
 item:=by
   intro X hP hw hK hc i gV s Z H E I hf st hg;subst hP hw hK;obtain⟨xs,x,hq,hx⟩:=hg;obtain⟨its,rv,p,hz⟩:=I.tuple hq;obtain⟨u,hu,ru⟩:=rv.get hx;obtain⟨f0,f1,f2,f3,f4,f5⟩:=hf it (by simp);refine wpAny_pyNext_tuple_item st (show s.heap.IsTuple a its.toArray from p) (x:=u) (by simpa using hu) λh' st' sb=>?_;have I1:Inv X gV Z H { s with heap:=h' }:=I.turned (t':=s.toks) (λb o hb e=>(sb.2 b hb).trans e) f0 f1 f3 f4 f5;obtain⟨o,e,c,d⟩:=id st';exact⟨u,rfl,Ee (s:={ s with heap:=h' }) e c d (by decide) ⟨x,H,I1,ru,⟨rfl,λys hy=>by rw[I.yf hy hq];exact hx⟩,st',λb hb=>(hf b hb).1⟩⟩
 done:=by
   intro X hP hw hK hc i gV s Z H E I hf st hg;subst hP hw hK;obtain⟨xs,hq,hx⟩:=hg;obtain⟨its,rv,p,hz⟩:=I.tuple hq;obtain⟨f0,f1,f2,f3,f4,f5⟩:=hf it (by simp);have hl:=rv.length;exact wpAny_pyNext_tuple_end (I.ok.hd hc) st (show s.heap.IsTuple a its.toArray from p) (by simp;omega) λh' eb=>⟨rfl,I.turned (t':=s.toks) (λb o hb e=>eb b o hb e) f0 f1 f3 f4 f5⟩
 self:=λ_ _ _ _ _ st h=>wpAny_pyIter_tupleiter st h
theorem DF {P:Program}{w:World}{K:W.Frag}(it:Addr)(lo:Int)(n:Nat):Turn P w K tg (oJ lo n) [it] it (λi h=>IsRangeIter h it (lo+(i:Nat)*1) ((n:Int) - (i:Nat)) 1) where
 mem:=by simp
 obj:=λi h st b hb=>by
   have e:b=it:=by simpa using hb
   subst e;exact⟨_,st,λv z=>by
     have z':Data.fields _=Data.cell v:=z;cases z'⟩
 keep:=λi h h' st k=>k it (by simp) _ st
 item:=by
   intro X hP hw hK hc i gV s Z H E I hf st hg;subst hP hw hK;obtain⟨f0,f1,f2,f3,f4,f5⟩:=hf it (by simp);have W:=Walks.range (prog:=X.prog) (w:=X.w) (I.ok.hd hc) it lo 1 n;refine W.item i s _ _ hg st λv h' tk hv st' kk=>?_;obtain⟨t,rfl⟩:=hv;have I1:Inv X gV Z H { s with heap:=h',toks:=tk }:=I.turned (λb o hb e=>kk b o (by simpa using hb) e) f0 f1 f3 f4 f5;refine⟨_,rfl,Ee (s:={ s with heap:=h',toks:=tk }) (n:="range_iterator") st' rfl rfl (by decide) ⟨.int (lo+i),H,I1,⟨t,?_⟩,⟨rfl,rfl⟩,st',λb hb=>(hf b hb).1⟩⟩;rw[Int.mul_one]
 done:=by
   intro X hP hw hK hc i gV s Z H E I hf st hg;subst hP hw hK;obtain⟨f0,f1,f2,f3,f4,f5⟩:=hf it (by simp);exact wpAny_pyNext_range_end (I.ok.hd hc) st (by have:n<=i:=hg;omega) λh' eb=>⟨rfl,I.turned (t':=s.toks) (λb o hb e=>eb b o hb e) f0 f1 f3 f4 f5⟩
 self:=λ_ _ _ _ _ st h=>wpAny_pyIter_rangeiter st h
section
variable {X:Cx} {tg:Expr}
theorem zk {R:It->Hp->Prop}{E:Value->Shared->Prop}{lo hi:Int}{t u v:Tok}{tk:Nat}(I:Inv X gV Z H s)(h1 : -(2 ^ 62)<=lo)(h2:lo<2 ^ 62)(h3 : -(2 ^ 62)<=hi)(h4:hi<2 ^ 62)
   (q:R (oJ lo (hi - lo).toNat) H):wpAny (model X.prog X.w) X.A (pyIter (.ref s.heap.objs.size)) (QI X gV Z tg R) E { s with heap:=s.heap.push { cls:=.type "range",data:=.fields #[.int lo t,.int hi u,.int 1 v] },toks:=tk }:=by
 refine wpAny_pyIter_range (IsRange.new ..) (small_one h1 h2 h3 h4) ?_;have I1:Inv X gV Z H { s with heap:=s.heap.push { cls:=.type "range",data:=.fields #[.int lo t,.int hi u,.int 1 v] },toks:=tk }:=I.kept λb o e=>aaf _ e
 refine⟨(s.heap.push { cls:=.type "range",data:=.fields #[.int lo t,.int hi u,.int 1 v] }).objs.size,[(s.heap.push { cls:=.type "range",data:=.fields #[.int lo t,.int hi u,.int 1 v] }).objs.size],_,_,H,rfl,
   I1.kept (t':=tk) λb o e=>aaf _ e,DF _ lo (hi - lo).toNat,?_,λb hb=>?_,q⟩
 . have e1 : lo + ((0 : Nat) : Int) * 1 = lo := by simp
   have e2:(((hi - lo).toNat:Nat):Int) - ((0:Nat):Int)=Builtin.Range.rangeSize lo hi 1:=by rw[rangeSize_one];split <;> omega
   show IsRangeIter _ _ (lo+((0:Nat):Int)*1) ((((hi - lo).toNat:Nat):Int) - ((0:Nat):Int)) 1;rw[e1,e2];exact aau _ rfl
 . have e : b = (s.heap.push { cls := .type "range", data := .fields #[.int lo t, .int hi u, .int 1 v] }).objs.size := by simpa using hb
   subst e;exact I1.tO (aah _) (I1.az.fresh (aah _))
def nq (ta:TA):TI:=λZ H R=>ta Z H λvs H1=>∃ j:Int,vs=[.int j]/\-(2 ^ 62)<=j/\j<2 ^ 62/\R (oJ 0 j.toNat) H1
def JC (ta:TA):TI:=λZ H R=>ta Z H λvs H1=>∃ i j:Int,vs=[.int i,.int j]/\(-(2 ^ 62)<=i/\i<2 ^ 62/\-(2 ^ 62)<=j/\j<2 ^ 62)/\R (oJ i (j - i).toNat) H1
theorem fo {a:Expr}{ta:TA}{p pos:Pos}(hg:Gl X "range")(hm:X.mg "range" = none)(ha:PA X [a] ta)(hs:aai [a] X.env=[(false,eval a X.env)]:=by rfl):PI X tg (.Call (.Name "range" p) [a] [] pos) (nq ta):=by
 intro gV s Z H R I h;refine Call_ (l7 I hg hm boot_range (abG (aQ (ha pos gV s Z H _ I h) λus s1 zq=>bN zq λvs H1 I1 r1 q1=>?_) hs rfl));obtain⟨j,e,q1,q2,q⟩:=q1;subst e;cases r1 with
 | cons r rr =>
   cases rr
   obtain⟨t,rfl⟩:=r;exact call_range_1 (zk I1 (by omega) (by omega) q1 q2 (by simpa using q))
theorem FD {a b : Expr}{ta : TA}{p pos : Pos}(hg : Gl X "range")(hm : X.mg "range" = none)(ha : PA X [a, b] ta)(hs : aai [a, b] X.env = [(false, eval a X.env), (false, eval b X.env)] := by rfl)(UJ : aai [b] X.env = [(false, eval b X.env)] := by rfl) :
   PI X tg (.Call (.Name "range" p) [a,b] [] pos) (JC ta):=by
 intro gV s Z H R I h;refine Call_ (l7 I hg hm boot_range (abG (aQ (ha pos gV s Z H _ I h) λus s1 zq=>bN zq λvs H1 I1 r1 q1=>?_) (by rw[hs,UJ]) (by rw[UJ];rfl)));obtain⟨i,j,e,⟨q1,q2,q3,q4⟩,q⟩:=q1;subst e;cases r1 with
 | cons r rr =>
   cases rr with
   | cons r' rr =>
     cases rr
     obtain⟨t,rfl⟩:=r;obtain⟨t',rfl⟩:=r';exact call_range_2 (zk I1 q1 q2 q3 q4 q)
def zL (J:It)(g:TG)(tb:TS)(D:Ends)(Z : St)(H1:Hp):Prop:=∃ W:Nat->Nat->St->Hp->Prop,(∃ m,W 0 m Z H1)/\∀ i m Z H,W i m Z H ->
 (J.stop i H/\D.nx Z H)∨(J.go i H/\∃ N:St->Hp->Prop,(∀ Z' H',N Z' H'->∃ m',m'<m/\W (i+1) m' Z' H')/\∀ x H',J.rT i H x H'->g x Z H' λZ2 H2=>tb { D with nx:=N,ct:=N,bk:=D.nx } Z2 H2)
@[reducible] def Ih (wi:TI) (g:TG) (tb:TS):TS:=λD Z H=>wi Z H λJ H1=>zL J g tb D Z H1
def iL (fp:List Addr)(h:Heap):List (Addr×Obj):=fp.filterMap λb=>(h.get? b).map λo=>(b,o)
theorem jc {fp:List Addr}{o:Obj}(hb:b∈fp)(e:h.get? b=some o):(b,o)∈iL fp h:=List.mem_filterMap.mpr ⟨b,hb,by rw[e];rfl⟩
theorem xM (hp:p∈iL fp h):p.1∈fp/\h.get? p.1=some p.2:=by
 obtain⟨b,hb,e⟩:=List.mem_filterMap.mp hp;cases q:h.get? b with
 | none=>rw[q] at e;cases e
 | some o =>
   rw[q] at e;have e':(b,o)=p:=aaw e;subst e';exact⟨hb,q⟩
theorem Inv.pinned (I:Inv X gV Z H s)(hf:∀ b∈fp,pI X gV H b)(ho:∀ b∈fp,∃ o,s.heap.get? b=some o/\∀ v,o.data≠.cell v):Inv X (gV++iL fp s.heap) Z H s :=
 I.qS λp hp=>(List.mem_append.mp hp).elim (λz=>I.pin p (aax _ z)) λz=>by
   obtain⟨hb,e⟩:=xM z;obtain⟨f0,f1,f2,_⟩:=hf p.1 hb;obtain⟨o,e',d⟩:=ho p.1 hb;rw[e] at e';cases e';exact⟨e,f0,f1,f2,d⟩
theorem Inv.mO (I:Inv X (gV++pl) Z H s):Inv X gV Z H s:=I.qS λp hp=>I.pin p (aax _ (aa5 _ hp))
variable {tb:TS}
theorem A7 {iter:Expr}{body:List Stmt}{wi:TI}{g:TG}{pos:Pos}(hp:PassesOwn (model X.prog X.w) X.A X.env X.xe)(hc:X.calm=true)(hi:PI X tg iter wi)(hg:PG X tg g)(hb:gw X body tb)
   (hs:∀ x,foldedSetIterable iter X.env x=pure x:=by intro _;rfl):PS X (.For tg iter body [] pos) (Ih wi g tb):=by
 intro gV s Z H D I h;refine wpAny_For (aQ (hi gV s Z H _ I h) λv s1 h1=>aQ h1 λitv s2 h2=>?_) hs;obtain⟨it,fp,tn,J,H2,e,I2,T,WO,f2,W,⟨m0,w0⟩,U8⟩:=h2;subst e
 -- what stays true of the iterator's objects through the loop
 have U_:∀ {H':Hp},(∀ b∈fp,H' b=none)->∀ b∈fp,pI X gV H' b:=λhn b hb=>⟨hn b hb,(f2 b hb).2⟩;refine codeAny_forLoop_any (λn s'=>∃ i Z' H',Inv X gV Z' H' s'/\tn i s'.heap/\(∀ b∈fp,H' b=none)/\W i n Z' H') ?_ m0 ⟨0,Z,H2,I2,WO,λb hb=>(f2 b hb).1,w0⟩;rintro n s3 ⟨i,Z3,H3,I3,st3,fr3,w3⟩;rcases U8 i n Z3 H3 w3 with ⟨stop,qn⟩ | ⟨go,N,hN,step⟩
 . refine abW hp (aQ (T.done X rfl rfl rfl hc i gV s3 Z3 H3 X.xe I3 (U_ fr3) st3 stop) λr s4 zq=>?_);obtain⟨hr,I4⟩:=zq;subst hr;exact abH ⟨Z3,H3,I4,qn⟩
 . refine abW hp (aQ (T.item X rfl rfl rfl hc i gV s3 Z3 H3 X.xe I3 (U_ fr3) st3 go) λr s4 zq=>nW zq λu hr h4=>?_);subst hr;refine abW hp (aQ h4 λ_ s5 zq=>?_);obtain⟨x,H5,I5,r5,y5,st5,fr5⟩:=zq;have I5':=I5.pinned (U_ fr5) (T.obj _ _ st5);refine abW hp (aQ (hg _ s5 Z3 H5 x u _ I5' r5 (step x H5 y5)) λ_ s6 zq=>?_);obtain⟨Z6,H6,I6,q6⟩:=zq;refine abW hp (aQ (hb _ s6 Z6 H6 _ I6 q6) λf s7 q7=>?_);have again:∀ {Z7:St} {H7:Hp},Inv X (gV++iL fp s5.heap) Z7 H7 s7->N Z7 H7->∃ m,m<n/\∃ i Z' H',Inv X gV Z' H' s7/\tn i s7.heap/\(∀ b∈fp,H' b=none)/\W i m Z' H':=λ{Z7 H7} I7 n7=>by
     obtain⟨m',hm,w7⟩:=hN Z7 H7 n7;refine⟨m',hm,i+1,Z7,H7,I7.mO,T.keep _ _ _ st5 λb hb o e=>(I7.pin (b,o) (aax _ (aax _ (jc hb e)))).1,λb hb=>?_,w7⟩;obtain⟨o,e,d⟩:=T.obj _ _ st5 b hb;exact(I7.pin (b,o) (aax _ (aax _ (jc hb e)))).2.1
   cases f with
   | next=>obtain⟨Z7,H7,I7,n7⟩:=q7;exact again I7 n7
   | cont=>obtain⟨Z7,H7,I7,n7⟩:=q7;exact again I7 n7
   | brk=>obtain⟨Z7,H7,I7,q7⟩:=q7;exact⟨Z7,H7,I7.mO,q7⟩
   | ret v=>obtain⟨x7,Z7,H7,I7,r7,q7⟩:=q7;exact⟨x7,Z7,H7,I7.mO,r7,q7⟩
end
theorem ff {K:W.Frag}{a:Addr}{xs:List V}{g:TG}{tb:TS}{D:Ends}(Pv:Nat->St->Hp->Prop)(h0:Pv 0 Z H)(hl:∀ i Z H,i<=xs.length->Pv i Z H->aq K H a xs)
   (hs:∀ i x Z H,xs[i]? = some x->Pv i Z H->g x Z H λZ2 H2=>tb { D with nx:=Pv (i+1),ct:=Pv (i+1),bk:=D.nx } Z2 H2) (hd:∀ Z H,Pv xs.length Z H->D.nx Z H) :
   ∃ W:Nat->Nat->St->Hp->Prop,(∃ m,W 0 m Z H)/\∀ i m Z H,W i m Z H ->
     ((xO K a).stop i H/\D.nx Z H)∨((xO K a).go i H/\∃ N:St->Hp->Prop,(∀ Z' H',N Z' H'->∃ m',m'<m/\W (i+1) m' Z' H')/\∀ x H',(xO K a).rT i H x H'->g x Z H' λZ2 H2=>tb { D with nx:=N,ct:=N,bk:=D.nx } Z2 H2):=by
 refine⟨λi m Z H=>m=xs.length - i/\i<=xs.length/\Pv i Z H,⟨xs.length,by simp,aaX _,h0⟩,?_⟩;rintro i m Z H ⟨rfl,hi,p⟩;have q:=hl i Z H hi p;by_cases SV:i<xs.length
 . refine .inr ⟨⟨xs, xs[i], q, by simp[SV]⟩, Pv (i + 1), λZ' H' p' => ⟨xs.length - (i + 1), by omega, rfl, SV, p'⟩, λx H' y => ?_⟩;obtain⟨e,y⟩:=y;subst e;exact hs i x Z _ (y xs q) p
 . have e : i = xs.length := by omega
   subst e;exact .inl ⟨⟨xs,q,aah _⟩,hd Z H p⟩
theorem iP {lo:Int}{n:Nat}{g:TG}{tb:TS}{D:Ends}(Pv:Nat->St->Hp->Prop)(h0:Pv 0 Z H)
   (hs:∀ i Z H,i<n->Pv i Z H->g (.int (lo+i)) Z H λZ2 H2=>tb { D with nx:=Pv (i+1),ct:=Pv (i+1),bk:=D.nx } Z2 H2) (hd:∀ Z H,Pv n Z H->D.nx Z H) :
   ∃ W:Nat->Nat->St->Hp->Prop,(∃ m,W 0 m Z H)/\∀ i m Z H,W i m Z H ->
     ((oJ lo n).stop i H/\D.nx Z H)∨((oJ lo n).go i H/\∃ N:St->Hp->Prop,(∀ Z' H',N Z' H'->∃ m',m'<m/\W (i+1) m' Z' H')/\∀ x H',(oJ lo n).rT i H x H'->g x Z H' λZ2 H2=>tb { D with nx:=N,ct:=N,bk:=D.nx } Z2 H2):=by
 refine⟨λi m Z H=>m=n - i/\i<=n/\Pv i Z H,⟨n,by simp,aaX _,h0⟩,?_⟩;rintro i m Z H ⟨rfl,hi,p⟩;by_cases SV:i<n
 . refine .inr ⟨SV, Pv (i + 1), λZ' H' p' => ⟨n - (i + 1), by omega, rfl, SV, p'⟩, λx H' y => ?_⟩;obtain⟨e,y⟩:=y;subst e y;exact hs i Z _ SV p
 . have e : i = n := by omega
   subst e;exact .inl ⟨aah _,hd Z H p⟩
abbrev R2:=V->V->Hp->VK->Prop
def bS (X:Cx)(f:Value->Value->Sem Value)(r:R2):Prop :=
 ∀ (gV:List (Addr×Obj)) (s:Shared) (Z : St) (H:Hp) (x y:V) (v u:Value) (Q:VK),Inv X gV Z H s->RelV x v->RelV y u->r x y H Q ->
   wpAny (model X.prog X.w) X.A (f v u) (EP X gV Z Q) X.xe s
def Ky (X:Cx)(f:Value->Sem Value)(r:V->Hp->VK->Prop):Prop :=
 ∀ (gV:List (Addr×Obj)) (s:Shared) (Z : St) (H:Hp) (x:V) (v:Value) (Q:VK),Inv X gV Z H s->RelV x v->r x H Q ->
   wpAny (model X.prog X.w) X.A (f v) (EP X gV Z Q) X.xe s
def cG (X:Cx)(f:Value)(r:List V->Hp->VK->Prop):Prop :=
 ∀ (gV:List (Addr×Obj)) (s:Shared) (Z : St) (H:Hp) (xs:List V) (us:List Value) (Q:VK),Inv X gV Z H s->aI xs us->r xs H Q ->
   wpAny (model X.prog X.w) X.A (call f us) (EP X gV Z Q) X.xe s
def Q5 (X:Cx)(r:V->Hp->(Bool->Hp->Prop)->Prop):Prop :=
 ∀ (gV:List (Addr×Obj)) (s:Shared) (Z : St) (H:Hp) (x:V) (v:Value) (Q:Bool->Hp->Prop),Inv X gV Z H s->RelV x v->r x H Q ->
   wpAny (model X.prog X.w) X.A (truthy v) (TP X gV Z Q) X.xe s
@[reducible] def bF (r:R2) (ta tb:TE):TE:=λZ H Q=>ta Z H λx H1=>tb Z H1 λy H2=>r x y H2 Q
@[reducible] def RS (r:V->Hp->VK->Prop) (ta:TE):TE:=λZ H Q=>ta Z H λx H1=>r x H1 Q
def rI (C:Int->Int->Prop)(g:Int->Int->V):R2:=λx y H Q=>∃ i j,x=.int i/\y=.int j/\C i j/\Q (g i j) H
@[reducible] def nY (g:Int->Int->V):R2:=λx y H Q=>Ga x λi=>Ga y λj=>Oh (g i j) λv=>Q v H
theorem E6 (h:nY g x y H Q):∃ i j,x=.int i/\y=.int j/\Q (g i j) H:=by
 obtain⟨i,e,h⟩:=vd h;obtain⟨j,e2,h⟩:=vd h;exact⟨i,j,e,e2,Gp h⟩
@[reducible] def rU (g:Int->V):V->Hp->VK->Prop:=λx H Q=>Ga x λi=>Oh (g i) λv=>Q v H
section
variable {X:Cx} {a b c:Expr} {ta tb tc:TE} {pos:Pos}
theorem Iv (ha:PE X a ta)(hb:PE X b tb){R:V->V->Hp->Prop}(I:Inv X gV Z H s)
   (h:ta Z H λx H1=>tb Z H1 λy H2=>R x y H2) {Q:Value->Shared->Prop} {f:Value->Value->Sem Value}
   (hf:∀ v u s2 x y H2,Inv X gV Z H2 s2->RelV x v->RelV y u->R x y H2->wpAny (model X.prog X.w) X.A (f v u) Q X.xe s2) :
   wpAny (model X.prog X.w) X.A (eval a X.env) (λv s₁=>wpAny (model X.prog X.w) X.A (eval b X.env) (λu s₂=>wpAny (model X.prog X.w) X.A (f v u) Q X.xe s₂) X.xe s₁) X.xe s:=by
 refine aQ (ha gV s Z H _ I h) λv s1 zq=>bN zq λx H1 I1 r1 q1=>?_;refine aQ (hb gV s1 Z H1 _ I1 q1) λu s2 zq=>bN zq λy H2 I2 r2 q2=>?_;exact hf v u s2 x y H2 I2 r1 r2 q2
variable {r:R2}
theorem cF (ho:bS X (abB op) r)(ha:PE X a ta)(hb:PE X b tb):PE X (.BinOp a op b pos) (bF r ta tb):=by
 intro gV s Z H Q I h;exact wpAny_BinOp (Iv ha hb I h λv u s2 x y H2 I2 rx ry q=>ho gV s2 Z H2 x y v u Q I2 rx ry q)
theorem J_ {op:UnaryOp}{r:V->Hp->VK->Prop}(ho:Ky X (unaryOp op) r)(ha:PE X a ta):PE X (.UnaryOp op a pos) (RS r ta):=by
 intro gV s Z H Q I h;exact UnaryOp_ (aQ (ha gV s Z H _ I h) λv s1 zq=>bN zq λx H1 I1 r1 q1=>ho gV s1 Z H1 x v Q I1 r1 q1)
theorem GA {f:Value->Value->Sem Value}{C:Int->Int->Prop}{g:Int->Int->Int}
   (rule:∀ (i j:Int) (t u:Tok) (s:Shared) (Q:Value->Shared->Prop) (E:Value->Shared->Prop),C i j->Q (.int (g i j) s.toks) { s with toks:=s.toks+1 }->wpAny (model X.prog X.w) X.A (f (.int i t) (.int j u)) Q E s) :
   bS X f (rI C λi j=>.int (g i j)):=by
 intro gV s Z H x y v u Q I rx ry h;obtain⟨i,j,rfl,rfl,hc,q⟩:=h;obtain⟨t,rfl⟩:=rx;obtain⟨t',rfl⟩:=ry;exact rule i j t t' s _ _ hc ⟨.int (g i j),H,I.tok _,⟨_,rfl⟩,q⟩
theorem EN {f:Value->Value->Sem Value}{g:Int->Int->Int}
   (rule:∀ (i j:Int) (t u:Tok) (s:Shared) (Q:Value->Shared->Prop) (E:Value->Shared->Prop),Q (.int (g i j) s.toks) { s with toks:=s.toks+1 }->wpAny (model X.prog X.w) X.A (f (.int i t) (.int j u)) Q E s) :
   bS X f (nY λi j=>.int (g i j)):=by
 intro gV s Z H x y v u Q I rx ry h;obtain⟨i,j,rfl,rfl,q⟩:=E6 h;obtain⟨t,rfl⟩:=rx;obtain⟨t',rfl⟩:=ry;exact rule i j t t' s _ _ ⟨.int (g i j),H,I.tok _,⟨_,rfl⟩,q⟩
theorem El {f:Value->Value->Sem Value}{g:Int->Int->Bool}
   (rule:∀ (i j:Int) (t u:Tok) (s:Shared) (Q:Value->Shared->Prop) (E:Value->Shared->Prop),Q (.bool (g i j)) s->wpAny (model X.prog X.w) X.A (f (.int i t) (.int j u)) Q E s) :
   bS X f (nY λi j=>.bl (g i j)):=by
 intro gV s Z H x y v u Q I rx ry h;obtain⟨i,j,rfl,rfl,q⟩:=E6 h;obtain⟨t,rfl⟩:=rx;obtain⟨t',rfl⟩:=ry;exact rule i j t t' s _ _ ⟨.bl (g i j),H,I,rfl,q⟩
def HL (i j:Int):Prop:=0<j/\j<1073741824
def A5 (i j:Int):Prop:=(-(2 ^ 64)<i/\i<2 ^ 64)∨(-(2 ^ 64)<j/\j<2 ^ 64)
theorem A5.ok (h:A5 i j):IntMulOk i j:=by
 rcases h with ⟨h1,h2⟩ | ⟨h1,h2⟩
 . exact .of_left (intBits_le_64 h1 h2)
 . exact .of_right (intBits_le_64 h1 h2)
theorem Ej (k:Nat):(0:Int)<=2 ^ k:=by
 rw[two_pow_cast];exact abf _
theorem Oi:bS X (abB .Add) (nY λi j=>.int (i+j)):=EN λ_ _ _ _ _ _ _ q=>add_int q
theorem jQ:bS X (abB .Sub) (nY λi j=>.int (i - j)):=EN λ_ _ _ _ _ _ _ q=>sub_int q
theorem Oy:bS X (abB .Mult) (rI A5 λi j=>.int (i*j)):=GA λ_ _ _ _ _ _ _ hc q=>mul_int q hc.ok
theorem De:bS X (abB .FloorDiv) (rI HL λi j=>.int (i/j)):=GA λi j _ _ _ _ _ hc q=>by
 have h1:(0:Int)<j:=hc.1;have h2:j<1073741824:=hc.2;exact floordiv_int (by omega) (by rw[Int.fdiv_eq_ediv_of_nonneg i (by omega)];exact q) (.inl (PyProof.noPylong_small (by omega)))
theorem uH:bS X (abB .Mod) (rI (λ_ j=>0<j) λi j=>.int (i%j)):=GA λi j _ _ _ _ _ hc q=>by
 have h1:(0:Int)<j:=hc;exact mod_int' (by omega) (by rw[Int.fmod_eq_emod_of_nonneg i (by omega)];exact q)
theorem E_:bS X (abB .RShift) (rI (λ_ j=>0<=j) λi j=>.int (i/2 ^ j.toNat)):=GA λi j _ _ _ _ _ hc q =>
 rshift_int hc (by rw[Int.fdiv_eq_ediv_of_nonneg i (Ej _)];exact q)
theorem vo:bS X (abB .BitAnd) (nY λi j=>.int (aaK i j)):=EN λ_ _ _ _ _ _ _ q=>and_int q
theorem Qu:bS X (abB .BitOr) (nY λi j=>.int (Builtin.bitOr i j)):=EN λ_ _ _ _ _ _ _ q=>or_int q
theorem QC {f:Value->Sem Value}{g:Int->Int}
   (rule:∀ (i:Int) (t:Tok) (s:Shared) (Q:Value->Shared->Prop) (E:Value->Shared->Prop),Q (.int (g i) s.toks) { s with toks:=s.toks+1 }->wpAny (model X.prog X.w) X.A (f (.int i t)) Q E s) :
   Ky X f (rU λi=>.int (g i)):=by
 intro gV s Z H x v Q I rx h;obtain⟨i,rfl,q⟩:=vd h
 replace q:=Gp q
 obtain⟨t,rfl⟩:=rx;exact rule i t s _ _ ⟨.int (g i),H,I.tok _,⟨_,rfl⟩,q⟩
theorem EY:Ky X (unaryOp .USub) (rU λi=>.int (-i)):=QC λ_ _ _ _ _ q=>neg_int q
theorem Nx:Ky X (unaryOp .Invert) (rU λi=>.int (aav i)):=QC λ_ _ _ _ _ q=>invert_int q
end
def EC:V->V->Bool
 | .aA,.aA=>true | .aA,.int _=>true | .int _,.aA=>true | .aA,.bl _=>true | .bl _,.aA=>true | .aA,.str _=>true | .str _,.aA=>true
 | .int _,.int _=>true | .bl _,.bl _=>true | .str _,.str _=>true | .byt _,.byt _=>true
 | .int _,.str _=>true | .str _,.int _=>true | .bl _,.str _=>true | .str _,.bl _=>true
 | _,_=>false
def QN:R2:=λx y H Q=>EC x y=true/\Q (.bl (decide (x=y))) H
def QJ:R2:=λx y H Q=>EC x y=true/\Q (.bl (!decide (x=y))) H
theorem Df:decide (V.int i=V.int j)=(i == j):=by
 rw[adk]
 simp
theorem Fe:decide (V.bl i=V.bl j)=(i == j):=by
 rw[adk]
 simp
theorem C7:decide (V.str i=V.str j)=(i == j):=by
 rw[adk]
 simp
theorem C6:decide (V.byt i=V.byt j)=(i.toList == j.toList):=by
 rw[adk];cases i
 cases j
 simp
section
variable {X:Cx} {a b c:Expr} {ta tb tc:TE} {pos:Pos}
theorem bt (I:Inv X gV Z H s)(q:Q (.bl k) H)(e:k=k'):EP X gV Z Q (.bool k') s:=by
 subst e;exact⟨.bl k,H,I,rfl,q⟩
theorem PD:bS X (aaT .Eq) QN:=by
 intro gV s Z H x y v u Q I rx ry h;obtain⟨hs,q⟩:=h;cases x with
 | aA =>
   cases rx
   cases y with
   | aA=>cases ry;exact PySem.EqNone.eq_none_none (bt I q (by simp))
   | bl j=>cases ry;exact PySem.EqNone.eq_none_bool (bt I q (by simp))
   | int j=>obtain⟨t',rfl⟩:=ry;exact PySem.EqNone.eq_none_int (bt I q (by simp))
   | str j=>obtain⟨t',rfl⟩:=ry;exact PySem.EqNone.eq_none_str (bt I q (by simp))
   | _=>exact absurd (show false=true from hs) aan
 | bl i =>
   cases rx
   cases y with
   | aA=>cases ry;exact PySem.EqNone.eq_bool_none (bt I q (by simp))
   | bl j=>cases ry;exact eq_bool (bt I q Fe)
   | str j=>obtain⟨t',rfl⟩:=ry;exact PySem.EqMixed.eq_bool_str (bt I q (by simp))
   | _=>exact absurd (show false=true from hs) aan
 | int i =>
   obtain⟨t,rfl⟩:=rx;cases y with
   | aA=>cases ry;exact PySem.EqNone.eq_int_none (bt I q (by simp))
   | int j=>obtain⟨t',rfl⟩:=ry;exact eq_int (bt I q Df)
   | str j=>obtain⟨t',rfl⟩:=ry;exact PySem.EqMixed.eq_int_str (bt I q (by simp))
   | _=>exact absurd (show false=true from hs) aan
 | str i =>
   obtain⟨t,rfl⟩:=rx;cases y with
   | aA=>cases ry;exact PySem.EqNone.eq_str_none (bt I q (by simp))
   | bl j=>cases ry;exact PySem.EqMixed.eq_str_bool (bt I q (by simp))
   | int j=>obtain⟨t',rfl⟩:=ry;exact PySem.EqMixed.eq_str_int (bt I q (by simp))
   | str j=>obtain⟨t',rfl⟩:=ry;exact eq_str (bt I q C7)
   | _=>exact absurd (show false=true from hs) aan
 | byt i =>
   obtain⟨t,rfl⟩:=rx;cases y with
   | byt j=>obtain⟨t',rfl⟩:=ry;exact W.eq_bytes (bt I q C6)
   | _=>exact absurd (show false=true from hs) aan
 | _=>cases y <;> exact absurd (show false=true from hs) aan
theorem P1:bS X (aaT .NotEq) QJ:=by
 intro gV s Z H x y v u Q I rx ry h;obtain⟨hs,q⟩:=h;cases x with
 | aA =>
   cases rx
   cases y with
   | aA=>cases ry;exact PySem.EqNone.ne_none_none (bt I q (by simp))
   | bl j=>cases ry;exact PySem.EqNone.ne_none_bool (bt I q (by simp))
   | int j=>obtain⟨t',rfl⟩:=ry;exact PySem.EqNone.ne_none_int (bt I q (by simp))
   | str j=>obtain⟨t',rfl⟩:=ry;exact PySem.EqNone.ne_none_str (bt I q (by simp))
   | _=>exact absurd (show false=true from hs) aan
 | bl i =>
   cases rx
   cases y with
   | aA=>cases ry;exact PySem.EqNone.ne_bool_none (bt I q (by simp))
   | bl j=>cases ry;exact ne_bool (bt I q (congrArg not Fe))
   | str j=>obtain⟨t',rfl⟩:=ry;exact PySem.EqMixed.ne_bool_str (bt I q (by simp))
   | _=>exact absurd (show false=true from hs) aan
 | int i =>
   obtain⟨t,rfl⟩:=rx;cases y with
   | aA=>cases ry;exact PySem.EqNone.ne_int_none (bt I q (by simp))
   | int j=>obtain⟨t',rfl⟩:=ry;exact ne_int (bt I q (congrArg not Df))
   | str j=>obtain⟨t',rfl⟩:=ry;exact PySem.EqMixed.ne_int_str (bt I q (by simp))
   | _=>exact absurd (show false=true from hs) aan
 | str i =>
   obtain⟨t,rfl⟩:=rx;cases y with
   | aA=>cases ry;exact PySem.EqNone.ne_str_none (bt I q (by simp))
   | bl j=>cases ry;exact PySem.EqMixed.ne_str_bool (bt I q (by simp))
   | int j=>obtain⟨t',rfl⟩:=ry;exact PySem.EqMixed.ne_str_int (bt I q (by simp))
   | str j=>obtain⟨t',rfl⟩:=ry;exact ne_str (bt I q (congrArg not C7))
   | _=>exact absurd (show false=true from hs) aan
 | byt i =>
   obtain⟨t,rfl⟩:=rx;cases y with
   | byt j=>obtain⟨t',rfl⟩:=ry;exact W.ne_bytes (bt I q (congrArg not C6))
   | _=>exact absurd (show false=true from hs) aan
 | _=>cases y <;> exact absurd (show false=true from hs) aan
theorem EA:bS X (aaT .Lt) (nY λi j=>.bl (decide (i<j))):=El λ_ _ _ _ _ _ _ q=>lt_int q
theorem yU:bS X (aaT .LtE) (nY λi j=>.bl (decide (i<=j))):=El λ_ _ _ _ _ _ _ q=>le_int q
theorem JM:bS X (aaT .Gt) (nY λi j=>.bl (decide (j<i))):=El λ_ _ _ _ _ _ _ q=>gt_int q
theorem Py:bS X (aaT .GtE) (nY λi j=>.bl (decide (j<=i))):=El λ_ _ _ _ _ _ _ q=>ge_int q
theorem M7:bS X (aaT .Is) (λx y H Q=>y=.aA/\Q (.bl (decide (x=.aA))) H):=by
 intro gV s Z H x y v u Q I rx ry h;obtain⟨rfl,q⟩:=h;cases ry
 refine is_none_gen (bt I q ?_)
 cases x <;> first
   | (cases rx;rfl)
   | (obtain⟨t,rfl⟩:=rx;rfl)
theorem L6:bS X (aaT .IsNot) (λx y H Q=>y=.aA/\Q (.bl (!decide (x=.aA))) H):=by
 intro gV s Z H x y v u Q I rx ry h;obtain⟨rfl,q⟩:=h;cases ry
 refine isnot_none_gen (bt I q ?_)
 cases x <;> first
   | (cases rx;rfl)
   | (obtain⟨t,rfl⟩:=rx;rfl)
variable {r:R2} {f:Value->Value->Sem Value}
theorem bS.or (h:bS X f r)(h':bS X f r'):bS X f (λx y H Q=>r x y H Q∨r' x y H Q):=by
 intro gV s Z H x y v u Q I rx ry q;rcases q with q | q
 . exact h gV s Z H x y v u Q I rx ry q
 . exact h' gV s Z H x y v u Q I rx ry q
variable {op:CmpOp}
theorem dI (b:Expr)(h:op≠.In:=by decide)(h2:op≠.NotIn:=by decide):adm op b=false:=by
 have e1:(op == CmpOp.In)=false:=by cases op <;> first | rfl | exact absurd rfl h
 have e2:(op == CmpOp.NotIn)=false:=by cases op <;> first | rfl | exact absurd rfl h2
 cases b <;> simp[adm,e1,e2]
theorem lY (ho:bS X (aaT op) r)(ha:PE X a ta)(hb:PE X b tb)(hm:adm op b=false):PE X (.Compare a [op] [b] pos) (bF r ta tb):=by
 intro gV s Z H Q I h;exact wpAny_Compare1 (Iv ha hb I h λv u s2 x y H2 I2 rx ry q=>ho gV s2 Z H2 x y v u Q I2 rx ry q) hm
@[reducible] def dB (t:TE):TT:=λZ H Q=>t Z H λx H'=>KC x λk=>Q k H'
theorem dS (ho:bS X (aaT op) r)(ha:PE X a ta)(hb:PE X b tb)(hm:adm op b=false):PT X (.Compare a [op] [b] pos) (dB (bF r ta tb)):=by
 intro gV s Z H Q I h;refine wpAny_isTrue_Compare1 (aQ (ha gV s Z H _ I h) λv s1 zq=>bN zq λx H1 I1 r1 q1=>aQ (hb gV s1 Z H1 _ I1 q1) λu s2 zq=>bN zq λy H2 I2 r2 q2 =>
   aQ (ho gV s2 Z H2 x y v u _ I2 r1 r2 q2) λc s3 zq=>bN zq λz H3 I3 r3 q3=>?_) hm
 obtain⟨k,e,q3⟩:=ug q3;subst e;cases r3
 exact abd ⟨H3,I3,q3⟩
def BB (r r':R2)(ta tb tc:TE):TE:=λZ H Q=>ta Z H λx H1=>tb Z H1 λy H2=>r x y H2 λz H3=>∃ k,z=.bl k /\
 (if k=true then tc Z H3 λw' H4=>r' y w' H4 Q else Q (.bl false) H3)
theorem Hm {op':CmpOp}{r':R2}(ho:bS X (aaT op) r)(V4:bS X (aaT op') r')(ha:PE X a ta)(hb:PE X b tb)(hc:PE X c tc)
   (hm:lastMarks [op,op'] [b,c]=false:=by with_unfolding_all rfl):PE X (.Compare a [op,op'] [b,c] pos) (BB r r' ta tb tc):=by
 intro gV s Z H Q I h;refine Compare_chain (aQ (ha gV s Z H _ I h) λv s1 zq=>bN zq λx H1 I1 r1 q1=>chain_link (aQ (hb gV s1 Z H1 _ I1 q1) λu s2 zq=>bN zq λy H2 I2 r2 q2 =>
   aQ (ho gV s2 Z H2 x y v u _ I2 r1 r2 q2) λd s3 ⟨z,H3,I3,r3,k,e,q3⟩=>?_)) hm
 subst e;cases r3
 refine abd ?_;cases k with
 | false=>exact ite_ff ⟨.bl false,H3,I3,rfl,q3⟩
 | true=>exact ite_tt (chain_last (aQ (hc gV s3 Z H3 _ I3 q3) λw' s4 ⟨z',H4,I4,r4,q4⟩=>V4 gV s4 Z H4 y z' u w' Q I4 r2 r4 q4))
theorem Ip {op':CmpOp}{r':R2}(ho:bS X (aaT op) r)(V4:bS X (aaT op') r')(ha:PE X a ta)(hb:PE X b tb)(hc:PE X c tc)
   (hm:lastMarks [op,op'] [b,c]=false:=by with_unfolding_all rfl):PT X (.Compare a [op,op'] [b,c] pos) (dB (BB r r' ta tb tc)):=by
 intro gV s Z H Q I h;refine isTrue_chain (aQ (ha gV s Z H _ I h) λv s1 zq=>bN zq λx H1 I1 r1 q1=>test_link (aQ (hb gV s1 Z H1 _ I1 q1) λu s2 zq=>bN zq λy H2 I2 r2 q2 =>
   aQ (ho gV s2 Z H2 x y v u _ I2 r1 r2 q2) λd s3 ⟨z,H3,I3,r3,k,e,q3⟩=>?_)) hm
 subst e;cases r3
 refine abd ?_;cases k with
 | false =>
   exact ite_ff ⟨H3,I3,q3⟩
 | true =>
   refine ite_tt (test_last (aQ (hc gV s3 Z H3 _ I3 q3) λw' s4 zq=>bN zq λz' H4 I4 r4 q4=>aQ (V4 gV s4 Z H4 y z' u w' _ I4 r2 r4 q4) λd' s5 zq=>bN zq λz2 H5 I5 r5 q5=>?_));obtain⟨k2,e2,q5⟩:=ug q5;subst e2;cases r5
   exact abd ⟨H5,I5,q5⟩
def Jg (K:W.Frag)(x:V)(H:Hp)(k:Bool):Prop :=
 match x with
 | .aA=>k=false
 | .bl b=>k=b
 | .int i=>k=(i != 0)
 | .str y=>y.length<=aal/\k=((y.length:Int) != 0)
 | .byt y=>y.size<=aal/\k=((y.size:Int) != 0)
 | .ref p=>(∃ xs,aq K H p xs/\k = !xs.isEmpty)∨(∃ xs,aJ K H p xs/\k = !xs.isEmpty)∨∃ kvs,H p=some (.dK kvs)/\k = !kvs.isEmpty
 | _=>False
theorem Ed (r:KV kvs vs):(!vs.isEmpty) = !kvs.isEmpty:=by
 cases r <;> rfl
theorem t_ (r:aI xs its):(!its.toArray.isEmpty) = !xs.isEmpty:=by
 cases r <;> simp
theorem lJ:(aal:Nat)<2 ^ 63:=by rw[aaI];decide
theorem Ol:Q5 X (λx H Q=>∃ k,Jg X.K x H k/\Q k H):=by
 intro gV s Z H x v Q I rx h;obtain⟨k,e,q⟩:=h;have hl:=lJ;have hs:aal=16777216:=aaI;cases x with
 | aA =>
   cases rx
   have e':k=false:=e;subst e';exact truthy_none ⟨H,I,q⟩
 | bl b =>
   cases rx
   have e':k=b:=e;subst e';exact abd ⟨H,I,q⟩
 | int i =>
   obtain⟨t,rfl⟩:=rx;have e':k=(i != 0):=e;subst e';exact PySem.P.truthy_int ⟨H,I,q⟩
 | str y =>
   obtain⟨t,rfl⟩:=rx;obtain⟨hy,e'⟩:y.length<=aal/\k=((y.length:Int) != 0):=e;subst e';exact PySem.P.truthy_str (by omega) ⟨H,I.tok _,q⟩
 | byt y =>
   obtain⟨t,rfl⟩:=rx;obtain⟨hy,e'⟩:y.size<=aal/\k=((y.size:Int) != 0):=e;subst e';exact W.truthy_bytes (by omega) ⟨H,I.tok _,q⟩
 | ref p =>
   cases rx
   have e':(∃ xs,aq X.K H p xs/\k = !xs.isEmpty)∨(∃ xs,aJ X.K H p xs/\k = !xs.isEmpty)∨∃ kvs,H p=some (.dK kvs)/\k = !kvs.isEmpty:=e;rcases e' with ⟨xs,hx,e'⟩ | ⟨xs,hx,e'⟩ | ⟨kvs,hx,e'⟩
   . subst e';obtain⟨its,r,pl,hz⟩:=I.list hx;have SO:=r.length;exact wpAny_truthy_list pl.isList (by simp only[aam];omega) ⟨H,I.tok _,by rw[t_ r];exact q⟩
   . subst e';obtain⟨its,r,pl,hz⟩:=I.tuple hx;have SO:=r.length;exact truthy_tuple pl (by simp only[aam];omega) ⟨H,I.tok _,by rw[t_ r];exact q⟩
   . subst e';obtain⟨hz,hS,vs,r,m⟩:kvs.length<=aal/\(p == acg)=false/\∃ vs,KV kvs vs/\s.heap.DictOf (cX X.prog X.w) p vs:=I.az p _ hx;have SO:kvs.length=vs.length:=adD r;exact wpAny_truthy_dict hS m (by omega) ⟨H,I.tok _,by rw[Ed r];exact q⟩
 | _=>exact(show False from e).elim
theorem HS (ha : PE X a ta)(he : ∀ Tw, isTrue a X.env Tw = (do let v <- Tw; standAt a.pos; holding [v] (truthy v))) :
   PT X a (λZ H Q=>ta Z H λx H'=>∃ k,Jg X.K x H' k/\Q k H'):=by
 intro gV s Z H Q I h;exact isTrue_plain (aQ (ha gV s Z H _ I h) λv s1 zq=>bN zq λx H1 I1 r1 q1=>Ol gV s1 Z H1 x v Q I1 r1 q1) (he _)
theorem Ec:bS X (abB .Add) (λx y H Q=>∃ i j,x=.str i/\y=.str j/\i.length+j.length<=aal/\Q (.str (i++j)) H):=by
 intro gV s Z H x y v u Q I rx ry h;obtain⟨i,j,rfl,rfl,hz,q⟩:=h;obtain⟨t,rfl⟩:=rx;obtain⟨t',rfl⟩:=ry;exact add_str (λt' tk=>⟨.str (i++j),H,I.tok _,⟨_,rfl⟩,q⟩) hz
theorem vals1 (r:aI [x] us):∃ u,us=[u]/\RelV x u:=by
 cases r with
 | cons r1 r2=>cases r2;exact⟨_,rfl,r1⟩
theorem vals2 (r:aI [x,y] us):∃ u w',us=[u,w']/\RelV x u/\RelV y w':=by
 cases r with
 | cons r1 r2 =>
   cases r2 with
   | cons r3 r4=>cases r4;exact⟨_,_,rfl,r1,r3⟩
theorem Fk (hc:X.calm=true):cG X (.builtin "max") (λxs H Q=>∃ i j,xs=[.int i,.int j]/\Q (.int (if j > i then j else i)) H):=by
 intro gV s Z H xs us Q I r h;obtain⟨i,j,rfl,q⟩:=h;obtain⟨u,w',rfl,⟨t,rfl⟩,⟨t',rfl⟩⟩:=vals2 r;refine max_two_ints (I.ok.hd hc) λh' tk k=>⟨_,H,I.kept k,?_,q⟩;by_cases hj:j > i
 . rw[if_pos hj,if_pos hj];exact⟨_,rfl⟩
 . rw[if_neg hj,if_neg hj];exact⟨_,rfl⟩
theorem GN:cG X (.type "int") (λxs H Q=>(∃ i,xs=[.int i]/\Q (.int i) H)∨∃ k,xs=[.bl k]/\Q (.int (if k then 1 else 0)) H):=by
 intro gV s Z H xs us Q I r h;rcases h with ⟨i,rfl,q⟩ | ⟨k,rfl,q⟩
 . obtain⟨u, rfl, t, rfl⟩ := vals1 r;exact call_int_int ⟨.int i,H,I,⟨_,rfl⟩,q⟩
 . obtain⟨u, rfl, r1⟩ := vals1 r;cases r1
   exact call_int_bool ⟨.int (if k then 1 else 0),H,I.tok _,⟨_,rfl⟩,q⟩
def MR (K:W.Frag)(x:V)(H:Hp)(n:Nat):Prop :=
 match x with
 | .str y=>y.length<=aal/\n=y.length
 | .byt y=>y.size<=aal/\n=y.size
 | .ref p=>(∃ xs,aq K H p xs/\n=xs.length)∨∃ xs,aJ K H p xs/\n=xs.length
 | _=>False
theorem Jf:cG X (.builtin "len") (λxs H Q=>∃ x n,xs=[x]/\MR X.K x H n/\Q (.int n) H):=by
 intro gV s Z H xs us Q I r h;obtain⟨x,n,rfl,e,q⟩:=h;obtain⟨u,rfl,rx⟩:=vals1 r;have hl:=lJ;have hs:aal=16777216:=aaI;cases x with
 | str y =>
   obtain⟨t,rfl⟩:=rx;obtain⟨hy,e'⟩:y.length<=aal/\n=y.length:=e;subst e';exact len_str (by omega) ⟨.int _,H,I.tok _,⟨_,rfl⟩,q⟩
 | byt y =>
   obtain⟨t,rfl⟩:=rx;obtain⟨hy,e'⟩:y.size<=aal/\n=y.size:=e;subst e';exact W.len_bytes (by omega) ⟨.int _,H,I.tok _,⟨_,rfl⟩,q⟩
 | ref p =>
   cases rx
   have e':(∃ xs,aq X.K H p xs/\n=xs.length)∨∃ xs,aJ X.K H p xs/\n=xs.length:=e;rcases e' with ⟨xs,hx,e'⟩ | ⟨xs,hx,e'⟩
   . subst e';obtain⟨its,r',pl,hz⟩:=I.list hx;have SO:=r'.length;exact Calls.call_len_list pl.isList (by simp only[aam];omega) ⟨.int xs.length,H,I.tok _,⟨_,by simp only[aam];rw[SO]⟩,q⟩
   . subst e';obtain⟨its,r',pl,hz⟩:=I.tuple hx;have SO:=r'.length;exact len_tuple pl (by simp only[aam];omega) ⟨.int xs.length,H,I.tok _,⟨_,by simp only[aam];rw[SO]⟩,q⟩
 | _=>exact(show False from e).elim
end
structure tw (h:Heap)(x dx C:Addr)(mA:Str->Option Value):Prop where
 obj:h.get? x=some (ac9 C dx)
 ns:h.Ns1 dx mA
 ne:dx≠x
theorem Gw (n:h.Ns1 dx mA):∃ od,h.get? dx=some od/\∀ name,W.lookIn name od=some (mA name):=by
 obtain⟨o,es,ep,ho,hd,hk,_,hm⟩:=n;refine⟨o,ho,λname=>?_⟩;have e:=hm name;unfold nsFind findBy at e;rw[<- Array.find?_toList] at e;unfold W.lookIn;rw[hd];dsimp only;split
 . rename_i y q;rw[q] at e;exact congrArg some e
 . rename_i q;rw[q] at e;have a:es.toList.any (·.refKey)=false:=by
     rw[List.any_eq_false];intro y hy;obtain⟨z,t,hkey⟩:=hk y (Array.mem_toList_iff.mp hy);simp[DictEntry.refKey,hkey]
   have a' : ¬ es.toList.any (·.refKey)=true:=by rw[a];exact aan
   rw[if_neg a'];exact congrArg some e
variable {C:Addr}
theorem tw.look (I:tw h x dx C mA):∃ od,W.InstAt h x (ac9 C dx) C (some od)/\∀ name,W.lookIn name od=some (mA name) :=
 let ⟨od,ho,hl⟩:=Gw I.ns
 ⟨od,⟨I.obj,rfl,rfl,ho⟩,hl⟩
section
variable {prog:Program} {w:World} {A:Around} {E:Value->Shared->Prop} {s:Shared} {K:W.Frag} {x dx C f:Addr} {mA:Str->Option Value} {name:Str} {v:Value}
theorem get_map (X:K.In s.heap)(I:tw s.heap x dx C mA)(hg:W.plainGet K C name=true)(hh:W.hasDictIn K C=true)
   (ha:aa_ K (.ref C) name=some none) (hv:mA name=some v) (hv':W.handedIn v=true) (h:Q v { s with toks:=s.toks+1 }) :
   wpAny (model prog w) A (getAttr (.ref x) name expr) Q E s:=by
 obtain⟨od,J,hl⟩:=I.look;exact W.get_value X J (W.plainGet_of hg).1 (W.findObj_own hh ha rfl (by rw[hl,hv])) hv' h
theorem IB (X:K.In s.heap)(I:tw s.heap x dx C mA)(hg:W.plainGet K C name=true)
   (hf:aa_ K (.ref C) name=some (some (.ref f))) (ht:W.isFn K (.ref f)=true) (hv:mA name=none) (h:Q (.ref f,[.ref x]) s) :
   wpAny (model prog w) A (acX (.ref x) name pl) Q E s:=by
 obtain⟨od,J,hl⟩:=I.look;exact W.method_fn X J (W.plainGet_of hg).1 (W.plainGet_of hg).2 hf (beq_iff_eq.mp ht) (by show(W.lookIn name od).map (·.isSome)=some false;rw[hl,hv];rfl) h
theorem qu (X:K.In s.heap)(I:tw s.heap x dx C mA)
   (hs:aa_ K (.ref C) "__setattr__" = some (some (.builtin "object.__setattr__"))) (hp:W.plainOver K C=true) (ht:W.takerIn K C name=some none) (hh:W.hasDictIn K C=true)
   (hw:PySem.Within mA ns) (hsz:ns.length<=aal)
   (h:∀ h',tw h' x dx C (λy=>if y=name then some v else mA y)->ab8 dx s.heap h'->Q () { s with heap:=h',toks:=s.toks+2 }) :
   wpAny (model prog w) A (setAttr (.ref x) name v) Q E s:=by
 obtain⟨od,J,hl⟩:=I.look;refine W.set_plain X J hs (W.osa_open (s:={ s with toks:=s.toks+1 }) (r:=none) X J hp ht λb=>?_);obtain⟨cd,hc,WI⟩:=W.any_some hh;have hx:s.heap.get? x=some ⟨.ref C,some dx,.plain,#[]⟩:=I.obj;refine aad (aak (aad (aad (wpAny_loadPart hx (aad (W.Looks.here (s:={ s with toks:=s.toks+1 }) (W.looks_clsIn X hc) ?_))))));rw[WI];refine aak (a:=some dx) (aad (aak (aad ?_)));refine wpAny_nsSet1 (s:={ s with toks:=s.toks+1 }) I.ns λh' hn2 UJ=>?_;obtain⟨oD,esD,epD,hoD,hdD,hcD⟩:=hn2.count (PySem.Within.cons name v hw);refine aad (wpAny_lookBehind hoD (by rw[hdD];exact pastItsLine_dict (aaJ hcD (by rw[aaA];omega))) ?_);exact aak (h _ ⟨(UJ.2 _ (Ne.symm I.ne)).trans I.obj,hn2,I.ne⟩ UJ)
theorem HR (X:K.In s.heap)(hm:W.makesIn K C=true)
   (hi:aa_ K (.ref C) "__init__" = some (some (.ref f))) (hf:W.typeIn K (.ref f)=some (.type "function"))
   (h:codeAny (model prog w) (A.under (.builtin "type.__call__" ⟨.ref C::vs,kw⟩)) (.call (.ref f) ⟨.ref (s.heap.objs.size+1)::vs,kw⟩) (W.InitBack (s.heap.objs.size+1) R)
     { s with heap:=(s.heap.push ab_).push (ac9 C s.heap.objs.size) }) :
   codeAny (model prog w) A (.call (.ref C) ⟨vs,kw⟩) R s:=by
 obtain⟨hh,g,d,t,os⟩:=s;exact W.make_core (W.makes_of X hm) (W.looks_findIn X hi) (λself=>W.bind_fn X self hf) (.inl rfl) h
end
def av (f:Str)(v:V):List (Str×V)->List (Str×V)
 | []=>[(f,v)]
 | (g,x)::r=>if g=f then (g,v)::r else (g,x)::av f v r
theorem fP (f g : Str)(v : V) : ∀ fs : List (Str × V), (av f v fs).lookup g = if g = f then some v else fs.lookup g
 | [] => by
   show abv g [(f,v)]=_;by_cases h:g=f
   . have hb : (g == f) = true := beq_iff_eq.mpr h;simp only[abv,hb,if_pos h]
   . have hb : (g == f) = false := beq_eq_false_iff_ne.mpr h;simp only[abv,hb,if_neg h]
 | (k, x) :: r => by
   have ih:=fP f g v r;rw[show av f v ((k,x)::r)=(if k=f then (k,v)::r else (k,x)::av f v r) from rfl];by_cases hk:k=f
   . rw[if_pos hk];by_cases h:g=k
     . have hb : (g == k) = true := beq_iff_eq.mpr h;simp only[abv,hb,if_pos (h.trans hk)]
     . have hb : (g == k) = false := beq_eq_false_iff_ne.mpr h;simp only[abv,hb,if_neg (λe:g=f=>h (e.trans hk.symm))]
   . rw[if_neg hk];by_cases h:g=k
     . have hb : (g == k) = true := beq_iff_eq.mpr h;simp only[abv,hb,if_neg (λe:g=f=>hk (h.symm.trans e))]
     . have hb : (g == k) = false := beq_eq_false_iff_ne.mpr h;simp only[abv,hb];exact ih
theorem pY (f:Str)(v:V):∀ fs:List (Str×V),f∈(av f v fs).map (·.1)/\∀ g,g∈fs.map (·.1)->g∈(av f v fs).map (·.1)
 | []=>⟨by simp[av],λg h=>by simp at h⟩
 | (k, x) :: r => by
   obtain⟨i1,i2⟩:=pY f v r;rw[show av f v ((k,x)::r)=(if k=f then (k,v)::r else (k,x)::av f v r) from rfl];by_cases hk:k=f
   . rw[if_pos hk];subst hk;exact⟨by simp,λg h=>by simpa using h⟩
   . rw [if_neg hk];refine ⟨?_,λg h=>?_⟩
     . rw[aaN];exact aa0 _ i1
     . rw[aaN] at h ⊢;rcases List.mem_cons.mp h with e | e
       . exact List.mem_cons.mpr (.inl e)
       . exact aa0 _ (i2 g e)
theorem lA (f:Str)(v:V):∀ fs:List (Str×V),(av f v fs).length<=fs.length+1
 | []=>by simp[av]
 | (k, x) :: r => by
   have ih:=lA f v r;rw[show av f v ((k,x)::r)=(if k=f then (k,v)::r else (k,x)::av f v r) from rfl];by_cases hk:k=f
   . rw[if_pos hk,aaA,aaA];omega
   . rw[if_neg hk,aaA,aaA];omega
theorem fe.some_of {v:V}{o:Option Value}(r:fe (some v) o):∃ u,o=some u/\RelV v u:=by
 cases o with
 | none=>exact(show False from r).elim
 | some u=>exact⟨u,rfl,r⟩
theorem fe.none_of {o:Option Value}(r:fe none o):o=none:=by
 cases o with
 | none=>rfl
 | some u=>exact(show False from r).elim
theorem Gn (r:RelV v u):W.handedIn u=true:=by
 cases v with
 | aA=>cases (show u=abj from r);rfl
 | bl b=>cases (show u=adi b from r);rfl
 | int i=>obtain⟨t,e⟩:=(show ∃ t,u=abl i t from r);cases e;rfl
 | str x=>obtain⟨t,e⟩:=(show ∃ t,u=adH x t from r);cases e;rfl
 | byt b=>obtain⟨t,e⟩:=(show ∃ t,u=Value.bytes b t from r);cases e;rfl
 | An b=>obtain⟨t,e⟩:=(show ∃ t,u=Value.float b t from r);cases e;rfl
 | ref a=>cases (show u=S8 a from r);rfl
 | ty n=>cases (show u=Value.type n from r);rfl
section
variable {P:Program} {w:World} {H H':Hp} {h h':Heap} {a C dx:Addr} {fs UW:List (Str×V)}
theorem qC (az:de P w H h)(e:H a=some (.ins C dx fs)):∃ mA,tw h a dx C mA/\(∀ f,fe (fs.lookup f) (mA f))/\PySem.Within mA (fs.map (·.1))/\fs.length<=1000/\H dx=some (.own a):=by
 obtain⟨d,z,ne,ob,mA,n,r,q⟩:=(show bX P w H h a (.ins C dx fs) from az a _ e)
 exact⟨mA,⟨ob,n,ne⟩,r,q,z,d⟩
end
structure eg (K:W.Frag)(C:Addr):Prop where
 pg:W.plainGet K C adl=true
 hd:W.hasDictIn K C=true
 po:W.plainOver K C=true
 sa:aa_ K (.ref C) "__setattr__" = some (some (.builtin "object.__setattr__"))
theorem eg.get {K:W.Frag}(c:eg K C)(f:Str):W.plainGet K C f=true:=c.pg
def aX (K:W.Frag)(C:Addr)(f:Str):Prop:=aa_ K (.ref C) f=some none
theorem aX.P9 {K:W.Frag}{f:Str}(n:aX K C f):W.takerIn K C f=some none:=by
 unfold W.takerIn;rw[show aa_ K (.ref C) f=some none from n];rfl
structure BC (K:W.Frag)(C:Addr)(m:Str)(f:Addr):Prop where
 at_:aa_ K (.ref C) m=some (some (.ref f))
 fn:W.isFn K (.ref f)=true
 kp:abc K (.ref f)=true
section
variable {X:Cx} {gV:List (Addr×Obj)} {Z : St} {H:Hp} {s:Shared} {a C dx:Addr} {fs:List (Str×V)} {f:Str} {v:V} {A:Around} {E:Value->Shared->Prop}
theorem EE {b:Bool}{Q:Value->Shared->Prop}(I:Inv X gV Z H s)(e:H a=some (.ins C dx fs))(c:eg X.K C)(n:aX X.K C f)(l:fs.lookup f=some v)
   (h:∀ u s',Inv X gV Z H s'->RelV v u->Q u s'):wpAny (model X.prog X.w) A (getAttr (.ref a) f b) Q E s:=by
 obtain⟨mA,O,r,_,_,_⟩:=qC I.az e;obtain⟨u,hu,ru⟩:=fe.some_of (v:=v) (o:=mA f) (by rw[<- l];exact r f);exact get_map I.df O (c.get f) c.hd n hu (Gn ru) (h u _ (I.tok _) ru)
theorem uk (I:Inv X gV Z H s)(e:H a=some (.ins C dx fs))(c:eg X.K C)(k:BC X.K C m g)(l:fs.lookup m=none)
   (h:Q (.ref g,[.ref a]) s):wpAny (model X.prog X.w) A (acX (.ref a) m pl) Q E s:=by
 obtain⟨mA,O,r,_,_,_⟩:=qC I.az e;have hn:mA m=none:=fe.none_of (by rw[<- l];exact r m);exact IB I.df O (c.get m) k.at_ k.fn hn h
theorem DQ (I:Inv X gV Z H s)(e:H a=some (.ins C dx fs))(c:eg X.K C)(n:aX X.K C f)(hl:fs.length<1000)(ry:RelV y u)
   (h:∀ s',Inv X gV Z (upd H a (.ins C dx (av f y fs))) s'->Q () s'):wpAny (model X.prog X.w) A (setAttr (.ref a) f u) Q E s:=by
 obtain⟨mA,O,r,wi,_,ho⟩:=qC I.az e;have hz:(fs.map (·.1)).length<=aal:=by rw[aac,aaI];omega
 refine qu I.df O c.sa c.po n.P9 c.hd wi hz λh' O' sb=>h _ ?_;have hd:∃ o,h'.get? dx=some o:=let ⟨o,_,_,e',_⟩:=O'.ns;⟨o,e'⟩;refine I.write (x:=a) (e:=dx) (by rw[e];exact aas) (.inr ho) (λb q hb z=>(sb.2 b hb).trans z) hd ?_;refine⟨by rw[ai O.ne];exact ho,?_,O.ne,O'.obj,_,O'.ns,λg=>?_,λg hg=>?_⟩
 . have:=lA f y fs;omega
 . show fe ((av f y fs).lookup g) (if g = f then some u else mA g);rw[fP];by_cases q:g=f
   . rw[if_pos q,if_pos q];exact ry
   . rw[if_neg q,if_neg q];exact r g
 . by_cases q:g=f
   . rw[q];exact(pY f y fs).1
   . refine(pY f y fs).2 g (wi g λz=>hg ?_);show(if g=f then some u else mA g)=none;rw[if_neg q];exact z
theorem Inv.made (I:Inv X gV Z H s):Inv X gV Z (upd (upd H s.heap.objs.size (.own (s.heap.objs.size+1))) (s.heap.objs.size+1) (.ins C s.heap.objs.size []))
   { s with heap:=(s.heap.push ab_).push (ac9 C s.heap.objs.size) }:=by
 have e1:(s.heap.push ab_).get? s.heap.objs.size=some ab_:=aau s.heap rfl;have e2:((s.heap.push ab_).push (ac9 C s.heap.objs.size)).get? (s.heap.objs.size+1)=some (ac9 C s.heap.objs.size):=by
   have:=aau (s.heap.push ab_) (o:=ac9 C s.heap.objs.size) rfl
   rwa [abY] at this
 have e3:(s.heap.push ab_).Ns s.heap.objs.size (λ_=>none):=⟨ab_,#[],_,e1,rfl,(λe he=>absurd he (by simp)),λ_=>rfl⟩
 have I1:=I.laid (a:=s.heap.objs.size) (o:=.own (s.heap.objs.size+1)) (h':=s.heap.push ab_) (t':=s.toks) (λb u q=>aaf _ q) (aah _) ⟨_,e1⟩;refine I1.laid (a:=s.heap.objs.size+1) (o:=.ins C s.heap.objs.size []) (t':=s.toks) (λb u q=>aaf _ q) (acz (abY _ _)) ?_;have ne:s.heap.objs.size≠s.heap.objs.size+1:=aaC (ab5 _);refine⟨by rw[ai ne,aa],aaX _,ne,e2,λ_=>none,(Heap.Ns1.of_empty e3).at λo q=>aaf _ q,λ_=>aas,λy hy=>absurd rfl hy⟩
theorem KO {f:Str}{s:Shared}(hb:abZ e f env (eval e env)=eval e env)
   (h:wpAny (model prog w) A (eval e env) (λo s₁=>wpAny (model prog w) A (getAttr o f true) Q E s₁) E s):wpAny (model prog w) A (eval (.Attribute e f pos) env) Q E s :=
 Attribute_any_ h (by rw[arm_eval_Attribute,hb])
end
def NV (K:W.Frag)(f:Str):V->Hp->VK->Prop:=λx H1 Q=>∃ a C dx fs v,x=.ref a/\H1 a=some (.ins C dx fs)/\eg K C/\aX K C f/\fs.lookup f=some v/\Q v H1
@[reducible] def Ot (K:W.Frag) (ta:TE) (f:Str):TE:=λZ H Q=>ta Z H λx H1=>NV K f x H1 Q
def J1 (K:W.Frag)(f:Str)(y:V)(D:Ends)(Z : St):V->Hp->Prop:=λx H2=>∃ a C dx fs,x=.ref a/\H2 a=some (.ins C dx fs)/\eg K C/\aX K C f/\fs.length<1000/\D.nx Z (upd H2 a (.ins C dx (av f y fs)))
@[reducible] def Nd (K:W.Frag) (ta tv:TE) (f:Str):TS:=λD Z H=>tv Z H λy H1=>ta Z H1 λx H2=>J1 K f y D Z x H2
section
variable {X:Cx} {o e value:Expr} {f:Str} {pos Ts TH:Pos} {ta tv:TE}
theorem Nf (he:PE X e ta)(hb:abZ e f X.env (eval e X.env)=eval e X.env):PE X (.Attribute e f pos) (Ot X.K ta f):=by
 intro gV s Z H Q I h;refine KO hb (aQ (he gV s Z H _ I h) λu s1 zq=>?_);obtain⟨x,H1,I1,rx,a,C,dx,fs,v,ex,ea,c,n,l,q⟩:=zq;subst ex;obtain rfl:u=S8 a:=rx;exact EE I1 ea c n l λu' s2 I2 ru=>⟨v,H1,I2,ru,q⟩
theorem O2 (ha:PE X o ta)(hv:PE X value tv)(hs:acW value (some (.Attribute o f Ts)) pos.line X.env=pure false):PS X (.Assign [.Attribute o f Ts] value pos) (Nd X.K ta tv f):=by
 intro gV s Z H D I h;refine plainObj_wpAny_Assign_Attribute (aQ (hv gV s Z H _ I h) λu s1 zq=>bN zq λy H1 I1 ry q=>aQ (ha gV s1 Z H1 _ I1 q) λov s2 zq=>?_) hs;obtain⟨x,H2,I2,rx,a,C,dx,fs,ex,ea,c,n,l,q2⟩:=zq;subst ex;obtain rfl:ov=S8 a:=rx;exact DQ I2 ea c n l ry λs3 I3=>⟨Z,_,I3,q2⟩
end
section
variable {X:Cx} {gV:List (Addr×Obj)} {Z : St} {H:Hp} {s:Shared} {A:Around} {E:Value->Shared->Prop} {Q:Value->Shared->Prop} {c:Value} {b:Bool}
inductive bM (K:W.Frag) (H:Hp):V->Value->Prop where
 | aA:bM K H .aA (.type "NoneType")
 | bl (x:Bool):bM K H (.bl x) (.type "bool")
 | int (i:Int):bM K H (.int i) (.type "int")
 | str (x:Str):bM K H (.str x) (.type "str")
 | An (x:UInt64):bM K H (.An x) (.type "float")
 | lst {a:Addr} {xs:List V} (e:H a=some (.lst xs)):bM K H (.ref a) (.type "list")
 | kE {a:Addr} {o:Obj} {xs:List V} (e:H a=some (.kE o (.lst xs))):bM K H (.ref a) (.type "list")
 | tup {a:Addr} {xs:List V} (e:H a=some (.tup xs)):bM K H (.ref a) (.type "tuple")
 | dK {a:Addr} {kvs:List (Key×V)} (e:H a=some (.dK kvs)):bM K H (.ref a) (.type "dict")
 | dT {a:Addr} {kvs:List (List Key×V)} (e:H a=some (.dT kvs)):bM K H (.ref a) (.type "dict")
 | ins {a C dx:Addr} {fs:List (Str×V)} (e:H a=some (.ins C dx fs)) (cl:eg K C) (ha:aa_ K (.ref C) "__class__" = some (some (.builtin "object.__class__")))
     (hn:W.specialIn K (.builtin "object.__class__") "__get__" = some (some (.builtin "getset_descriptor.__get__"))) (htk:W.takesIn K (.builtin "object.__class__")=some true)
     (hm:W.mroIn K C (.type "object")=some true):bM K H (.ref a) (.ref C)
theorem FA (I:Inv X gV Z H s)(rx:RelV x u)(ty:bM X.K H x t)(e:acj X.K t c=some b)(h:∀ tk,Q (.bool b) { s with toks:=tk }) :
   wpAny (model X.prog X.w) A (call (.builtin "isinstance") [u,c]) Q E s:=by
 cases ty with
 | aA=>cases (show u=abj from rx);exact ack W.kitx_none I.df aas e (λz=>nomatch z) h
 | bl y=>cases (show u=adi y from rx);exact ack W.kitx_bool I.df aas e (λz=>nomatch z) h
 | int i=>obtain⟨t,q⟩:=(show ∃ t,u=abl i t from rx);cases q;exact ack W.kitx_int I.df aas e (λz=>nomatch z) h
 | str y=>obtain⟨t,q⟩:=(show ∃ t,u=adH y t from rx);cases q;exact ack W.kitx_str I.df aas e (λz=>nomatch z) h
 | An y=>obtain⟨t,q⟩:=(show ∃ t,u=Value.float y t from rx);cases q;exact ack W.kitx_float I.df aas e (λz=>nomatch z) h
 | @lst a xs ea =>
   cases (show u=S8 a from rx)
   obtain⟨_,_,n,_,h1⟩:=(show bX X.prog X.w H s.heap a (.lst xs) from I.az a _ ea)
   exact ack W.kitx_list I.df ⟨_,h1,rfl⟩ e (λz=>nomatch z) h
 | @kE a ob xs ea =>
   cases (show u=S8 a from rx)
   obtain⟨_,_,_,n,_,h1⟩:=(show bX X.prog X.w H s.heap a (.kE ob (.lst xs)) from I.az a _ ea)
   exact ack W.kitx_list I.df ⟨_,h1,rfl⟩ e (λz=>nomatch z) h
 | @tup a xs ea =>
   cases (show u=S8 a from rx)
   obtain⟨_,_,_,p⟩:=(show bX X.prog X.w H s.heap a (.tup xs) from I.az a _ ea)
   obtain⟨o,h1,h2,_⟩:=p;exact ack W.kitx_tuple I.df ⟨o,h1,h2⟩ e (λz=>nomatch z) h
 | @dK a kvs ea =>
   cases (show u=S8 a from rx)
   obtain⟨_,_,vs,_,p⟩:=(show bX X.prog X.w H s.heap a (.dK kvs) from I.az a _ ea)
   obtain⟨o,es,ep,h1,h2,_⟩:=p;exact ack W.kitx_dict I.df ⟨o,h1,h2.1⟩ e (λz=>nomatch z) h
 | @dT a kvs ea =>
   cases (show u=S8 a from rx)
   obtain⟨_,_,xs,_,o,es,ep,h1,h2,_⟩:=(show bX X.prog X.w H s.heap a (.dT kvs) from I.az a _ ea)
   exact ack W.kitx_dict I.df ⟨o,h1,h2.1⟩ e (λz=>nomatch z) h
 | @ins a C dx fs ea cl ha hn htk hm =>
   cases (show u=S8 a from rx)
   obtain⟨mA,O,_⟩:=qC I.az ea;obtain⟨od,J,_⟩:=O.look;exact ack (W.kitx_own (cl.get _) cl.hd ha hn htk hm) I.df J e (λz=>nomatch z) h
end
structure bG (k:Nat)(A:Around):Prop where
 hd:A.handled=none
 dp:A.depth+1*k+5<recursionLimit
 un:A.units+16*k+200<cLine
 gd:A.guards=some []
theorem bG.mono (r:bG k A)(h:j<=k):bG j A:=⟨r.hd,by have:=r.dp;omega,by have:=r.un;omega,r.gd⟩
theorem bG.deeper (r:bG (k+1) A)(env:Env):bG k (A.deeper env) :=
 ⟨r.hd,by have:=r.dp;show A.depth+1+1*k+5<_;omega,by have:=r.un;show A.units+3+16*k+200<_;omega,r.gd⟩
variable {kw:List (Str×Value)}
theorem DH:(A.under (.builtin "type.__call__" ⟨.ref C::us,kw⟩)).depth=A.depth+1:=by
 first | rfl | simp[Around.under,Code.weight,Code.isCreation,Code.isGuard,Code.isCaller,Code.frames,Code.isFrame,guardIds]
theorem ES:(A.under (.builtin "type.__call__" ⟨.ref C::us,kw⟩)).units=A.units+1:=by
 first | rfl | simp[Around.under,Code.cUnits,Code.frames,Code.isFrame]
theorem BR:(A.under (.builtin "type.__call__" ⟨.ref C::us,kw⟩)).guards=A.guards:=by
 have e:(Code.builtin "type.__call__" ⟨.ref C::us,kw⟩).guards=[]:=by first | rfl | simp[Code.guards,Code.isGuard,guardIds]
 simp only[Around.under,e,pushGuards]
theorem bG.make (r:bG (k+1) A)(C:Addr)(us:List Value)(kw:List (Str×Value)):bG k (A.under (.builtin "type.__call__" ⟨.ref C::us,kw⟩)) :=
 ⟨r.hd,by have:=r.dp;rw[DH];omega,by have:=r.un;rw[ES];omega,by rw[BR];exact r.gd⟩
theorem bG.depth (r:bG k A):A.depth<recursionLimit:=by have:=r.dp;omega
theorem bG.units (r:bG k A):A.units+64<cLine:=by have:=r.un;omega
@[reducible] def aO:TA:=λ_ H Q=>Q [] H
@[reducible] def aD (ta:TE) (tr:TA):TA:=λZ H Q=>ta Z H λx H1=>tr Z H1 λxs H2=>Q (x::xs) H2
section
variable {X:Cx} {e:Expr} {es:List Expr} {te:TE} {t:TA} {pos:Pos}
theorem ax:PA X [] aO:=λ_ _ _ _ H Q I h=>Calls.spliced_nil ⟨[],H,I,.nil,h⟩
theorem ah (ha:PE X e te)(hr:PA X es t)(hs:aai (e::es) X.env=(false,eval e X.env)::aai es X.env:=by rfl):PA X (e::es) (aD te t):=by
 intro pos gV s Z H Q I h;rw[hs];show wpAny _ _ (spliced ((false,eval e X.env)::backTo pos (aai es X.env))) _ _ s;refine Calls.spliced_cons (aQ (ha gV s Z H _ I h) λu s1 zq=>bN zq λx H1 I1 r1 q1=>?_);exact aQ (hr pos gV s1 Z H1 _ I1 q1) λus s2 zq=>bN zq λxs H2 I2 r2 q2=>⟨x::xs,H2,I2,.cons r1 r2,q2⟩
@[reducible] def DU (t:TA):TE:=λZ H Q=>t Z H λxs H1=>D3 xs 100 (∀ p,H1 p=none->Q (.ref p) (upd H1 p (.tup xs)))
@[reducible] def kg (t:TA):TE:=λZ H Q=>t Z H λxs H1=>D3 xs 100 (∀ p,H1 p=none->Q (.ref p) (upd H1 p (.lst xs)))
theorem mH {x1}(h:PA X es t):PE X (.Tuple es x1 pos) (DU t):=by
 intro gV s Z H Q I hq;refine wpAny_Tuple_spliced (aQ (h pos gV s Z H _ I hq) λus s1 zq=>bN zq λxs H1 I1 r z0=>?_);obtain⟨z1,q⟩:=qQ z0;have z:xs.length<=aal:=aaJ z1 (by rw[aaI];decide);refine⟨by rw[<- r.length];exact z,?_⟩;have hf:H1 s1.heap.objs.size=none:=I1.az.fresh (aah _);refine⟨.ref s1.heap.objs.size,upd H1 s1.heap.objs.size (.tup xs),I1.laid (t':=s1.toks) (λb u e=>aaf _ e) (aah _) ?_,rfl,q _ hf⟩;exact⟨z,us,r,⟨_,aau _ rfl,rfl,_,rfl⟩⟩
theorem mI (h:PA X es t):PE X (.List es pos) (kg t):=by
 intro gV s Z H Q I hq;refine wpAny_List_spliced (aQ (h pos gV s Z H _ I hq) λus s1 zq=>bN zq λxs H1 I1 r z0=>?_);obtain⟨z1,q⟩:=qQ z0;have z:xs.length<=aal:=aaJ z1 (by rw[aaI];decide);refine⟨by rw[<- r.length];exact z,?_⟩;have hf:H1 s1.heap.objs.size=none:=I1.az.fresh (aah _);refine⟨.ref s1.heap.objs.size,upd H1 s1.heap.objs.size (.lst xs),I1.laid (t':=s1.toks) (λb u e=>aaf _ e) (aah _) ?_,rfl,q _ hf⟩;exact⟨z,us,0,r,aau _ rfl⟩
end
abbrev Sp:=List V->Hp->VK->XK->Prop
abbrev dQ:=List Env->Hp->Shared->XK->Value->Shared->Prop
structure tD (P:Program)(w:World)(K:W.Frag)(mg:Str->Option Value)(base:Heap)(A:Around)(outer:List Env)(s:Shared)(H:Hp):Prop where
 frames:A.frames=some outer
 mod:Mod K mg base
 bs:∀ b o,base.get? b=some o->s.heap.get? b=some o/\H b=none
 rG:base.objs.size<=s.heap.objs.size
 gC:s.heap.FunFrames base outer
 ua:∀ b∈cR outer,H b=none
 az:de P w H s.heap
 bare:AllBare s.gens
def CE (outer:List Env)(P:Program)(w:World)(H:Hp)(s:Shared)(Q:VK)(u:Value)(s':Shared):Prop :=
 ∃ v H',s'.os=s.os/\AllBare s'.gens/\Un (cR outer) [] H H' s.heap s'.heap/\de P w H' s'.heap/\RelV v u/\Q v H'
def CR (CX:dQ)(outer:List Env)(P:Program)(w:World)(H:Hp)(s:Shared)(Q:VK)(E:XK)(r:Result)(s':Shared):Prop :=
 match r with
 | .ok (.ret u)=>CE outer P w H s Q u s'
 | .ok _=>False
 | .error e=>CX outer H s E e s'
structure c6 (P:Program)(w:World)(K:W.Frag)(mg:Str->Option Value)(base:Heap)(CX:dQ)(k:Nat)(f:Addr)(fd:aa3)(ps:List Str)(sp:Sp):Prop where
 len:∀ vs H Q E,sp vs H Q E->vs.length=ps.length
 run:∀ (A:Around) (outer:List Env) (s:Shared) (H:Hp) (args:Args) (us:List Value) (vs:List V) (Q:VK) (E:XK),bG k A->tD P w K mg base A outer s H->BindsTo s fd args (ps.zip us)->aI vs us->sp vs H Q E ->
   codeAny (model P w) A (.call (.ref f) args) (CR CX outer P w H s Q E) s
theorem c6.mono {P:Program}{w:World}{K:W.Frag}{mg:Str->Option Value}{base:Heap}{CX:dQ}{j k:Nat}{f:Addr}{fd:aa3}{ps:List Str}{sp:Sp}(F:c6 P w K mg base CX j f fd ps sp)(h:j<=k) :
   c6 P w K mg base CX k f fd ps sp:=⟨F.len,λA outer s H args us vs Q E hr=>F.run A outer s H args us vs Q E (hr.mono h)⟩
theorem tD.make {P:Program}{w:World}{K:W.Frag}{mg:Str->Option Value}{base:Heap}{outer:List Env}(e:tD P w K mg base A outer s H)(C:Addr)(us:List Value)(kw:List (Str×Value)) :
   tD P w K mg base (A.under (.builtin "type.__call__" ⟨.ref C::us,kw⟩)) outer s H:=⟨by first | exact e.frames | (simpa [Around.under,Code.envs,Code.isFrame,pushEnvs] using e.frames),e.mod,e.bs,e.rG,e.gC,e.ua,e.az,e.bare⟩
section
variable {X:Cx} {gV:List (Addr×Obj)} {Z : St} {H:Hp} {s s':Shared}
theorem Inv.zm (I:Inv X gV Z H s):tD X.prog X.w X.K X.mg X.base X.A X.stack s H :=
 ⟨I.ok.frames,I.ok.mod,I.bs,aaJ I.ok.rG I.sz,I.stack,I.mK,I.az,I.bare⟩
theorem Inv.after (I:Inv X gV Z H s)(h:CE X.stack X.prog X.w H s Q u s'):EP X gV Z Q u s':=by
 obtain⟨v,H',os,bare,un,az,r,q⟩:=h;obtain⟨hh,g,d,t,os'⟩:=s';obtain rfl:os'=s.os:=os;exact⟨v,H',I.call (h':=hh) (g':=g) (d':=d) (t':=t) (ch:=[]) un az bare (λb z=>absurd z (by simp)),r,q⟩
end
def J2 (sp:Sp)(U7:List V)(E:XK)(t:TA):TE:=λZ H Q=>t Z H λvs H1=>sp (vs++U7) H1 Q E
def JR (C:Addr)(sp:Sp)(U7:List V)(E:XK)(t:TA):TE:=λZ H Q=>t Z H λvs H1=>∀ x dx,H1 x=none->H1 dx=none->dx≠x ->
 sp (.ref x::(vs++U7)) (upd (upd H1 dx (.own x)) x (.ins C dx [])) (λv H2=>v=.aA/\Q (.ref x) H2) E
def Binds (K:W.Frag)(fd:aa3)(ps:List Str)(ds:List Value):Prop :=
 ∀ (s:Shared) (us:List Value),K.In s.heap->(us++ds).length=ps.length->BindsTo s fd ⟨us,[]⟩ (ps.zip (us++ds))
theorem Binds.all {K:W.Frag}{fd:aa3}{ps:List Str}(h:∀ us:List Value,us.length=ps.length->abR fd ⟨us,[]⟩=pure (ps.zip us)):Binds K fd ps []:=λs us _ hl=>by
 rw[aaL] at hl ⊢;exact .of_eq (h us hl)
def dY (CX:dQ)(X:Cx)(E:XK):Prop:=∀ (gV:List (Addr×Obj)) (Z : St) (H:Hp) (s:Shared) (e:Value) (s':Shared),Inv X gV Z H s->CX X.stack H s E e s'->X.xe e s'
section
variable {X:Cx} {CX:dQ} {k:Nat} {f C:Addr} {fd:aa3} {ps:List Str} {sp:Sp} {U7:List V} {ds:List Value} {E:XK} {x m:Str} {p pos SW:Pos} {e o:Expr} {es:List Expr} {ta:TE} {t:TA}
theorem zE {gV:List (Addr×Obj)}{Z : St}{H:Hp}{s:Shared}{us:List Value}(F:c6 X.prog X.w X.K X.mg X.base CX k f fd ps sp)(hr:bG k X.A)(hb:Binds X.K fd ps ds)(hd:aI U7 ds)(hx:dY CX X E)
   (I:Inv X gV Z H s) (r:aI vs us) (h:sp (vs++U7) H Q E):wpAny (model X.prog X.w) X.A (call (.ref f) us) (EP X gV Z Q) X.xe s:=by
 have r2:aI (vs++U7) (us++ds):=r.append hd;have hl:(us++ds).length=ps.length:=by rw[<- r2.length];exact F.len _ _ _ _ h
 refine acR (abV (F.run X.A X.stack s H ⟨us,[]⟩ (us++ds) (vs++U7) Q E hr I.zm (hb s us I.df hl) r2 h) λr s' hq=>?_);cases r with
 | error e=>exact hx gV Z H s e s' I hq
 | ok fl =>
   cases fl with
   | ret u=>exact I.after hq
   | next=>exact aaW hq
   | brk=>exact aaW hq
   | cont=>exact aaW hq
theorem KU (F:c6 X.prog X.w X.K X.mg X.base CX k f fd ps sp)(hr:bG k X.A)(hg:Gl X x)(hm:X.mg x=some (.ref f))(hk:abc X.K (.ref f)=true)(hb:Binds X.K fd ps ds)(hd:aI U7 ds)(hx:dY CX X E)
   (ha:PA X (e::es) t) (Tn:(x == ("__debug__" : Str))=false:=by decide) (he:aai (e::es) X.env=(false,eval e X.env)::aai es X.env:=by rfl) (SS:(backTo pos (aai es X.env)).any (·.1)=false:=by rfl) :
   PE X (.Call (.Name x p) (e::es) [] pos) (J2 sp U7 E t):=by
 intro gV s Z H Q I h;refine abw (eX I hg hm ?_ Tn);refine adx (h₀:=X.base) I.ok.mod.vK hk (aQ (ha pos gV s Z H _ I h) λus s1 zq=>bN zq λvs H1 I1 r q=>⟨I1.df,?_⟩) he SS;exact zE F hr hb hd hx I1 r q
structure Mk (K:W.Frag)(C f:Addr):Prop where
 makes:W.makesIn K C=true
 init:aa_ K (.ref C) "__init__" = some (some (.ref f))
 fn:W.isFn K (.ref f)=true
 kp:abc K (.ref C)=true
theorem IG {gV:List (Addr×Obj)}{Z : St}{H:Hp}{s:Shared}{us:List Value}(M:Mk X.K C f)(F:c6 X.prog X.w X.K X.mg X.base CX k f fd ps sp)(hr:bG (k+1) X.A)(hb:Binds X.K fd ps ds)(hd:aI U7 ds)
   (hx:dY CX X E) (I:Inv X gV Z H s) (r:aI vs us)
   (h:∀ x dx,H x=none->H dx=none->dx≠x->sp (.ref x::(vs++U7)) (upd (upd H dx (.own x)) x (.ins C dx [])) (λv H2=>v=.aA/\Q (.ref x) H2) E) :
   wpAny (model X.prog X.w) X.A (call (.ref C) us) (EP X gV Z Q) X.xe s:=by
 have hq:=h (s.heap.objs.size+1) s.heap.objs.size (I.az.fresh (abn _)) (I.az.fresh (aah _)) (aaC (ab5 _));have I2:=Inv.made (C:=C) I;have r2:aI (V.ref (s.heap.objs.size+1)::(vs++U7)) (S8 (s.heap.objs.size+1)::(us++ds)):=.cons rfl (r.append hd);have hl:(S8 (s.heap.objs.size+1)::us++ds).length=ps.length:=by
   have e:=r2.length;rw[F.len _ _ _ _ hq] at e;exact e.symm
 refine acR (HR (f:=f) I.df M.makes M.init (beq_iff_eq.mp M.fn) (abV (F.run _ X.stack _ _ ⟨S8 (s.heap.objs.size+1)::us,[]⟩ (S8 (s.heap.objs.size+1)::(us++ds)) _ _ E (hr.make C us [])
   (I2.zm.make C us []) (hb _ (S8 (s.heap.objs.size+1)::us) I2.df hl) r2 hq) λr s' hq'=>?_))
 cases r with
 | error e=>exact hx gV Z _ _ e s' I2 hq'
 | ok fl =>
   cases fl with
   | ret u =>
     obtain⟨v,H',I3,rv,ev,q3⟩:=I2.after hq';subst ev;exact⟨rv,⟨V.ref (s.heap.objs.size+1),H',I3,rfl,q3⟩⟩
   | next=>exact aaW hq'
   | brk=>exact aaW hq'
   | cont=>exact aaW hq'
theorem CL (M:Mk X.K C f)(F:c6 X.prog X.w X.K X.mg X.base CX k f fd ps sp)(hr:bG (k+1) X.A)(hg:Gl X x)(hm:X.mg x=some (.ref C))(hb:Binds X.K fd ps ds)(hd:aI U7 ds)(hx:dY CX X E)
   (ha:PA X (e::es) t) (Tn:(x == ("__debug__" : Str))=false:=by decide) (he:aai (e::es) X.env=(false,eval e X.env)::aai es X.env:=by rfl) (SS:(backTo pos (aai es X.env)).any (·.1)=false:=by rfl) :
   PE X (.Call (.Name x p) (e::es) [] pos) (JR C sp U7 E t):=by
 intro gV s Z H Q I h;refine abw (eX I hg hm ?_ Tn);refine adx (h₀:=X.base) I.ok.mod.vK M.kp (aQ (ha pos gV s Z H _ I h) λus s1 zq=>bN zq λvs H1 I1 r q=>⟨I1.df,?_⟩) he SS;exact IG M F hr hb hd hx I1 r q
end
structure ao (N P:List Str)(sc:Scope):Prop where
 kind:sc.kind=.function
 co:sc.isCoroutine=false
 gen:sc.isGenerator=false
 nd:N.Nodup
 pre:N.take P.length=P
 par:∀ x∈P,sc.names.lookup x=some .local∨sc.names.lookup x=some .cell
 MW:∀ y∈sc.names,y.2≠.free
variable {x:Str} {kindOf:Str->Option NameKind}
theorem xr:∀ {binds:List (Str×Value)} {m:Str->Option Value},(∀ v,(x,v) ∉ binds)->bindL kindOf binds m x=m x
 | [],_,_=>rfl
 | (n, v) :: r, m, h => by
   unfold bindL;rw[xr λw hw=>h w (aa0 _ hw)];split
   . have : x ≠ n := by rintro rfl; exact h v abu
     simp[this]
   . rfl
theorem xn:∀ {binds:List (Str×Value)} {m:Str->Option Value},(∀ v,(x,v) ∉ binds)->bindC kindOf binds m x=m x
 | [],_,_=>rfl
 | (n, v) :: r, m, h => by
   unfold bindC;rw[xn λw hw=>h w (aa0 _ hw)];split
   . rfl
   . have : x ≠ n := by rintro rfl; exact h v abu
     simp[this]
theorem xU:∀ {P:List Str} {vs:List Value} {i:Nat} {m:Str->Option Value},P.Nodup->P[i]? = some x->vs[i]? = some v->kindOf x=some .local ->
   bindL kindOf (P.zip vs) m x=some v
 | [],_,_,_,_,h,_,_=>by simp at h
 | _::_,[],_,_,_,_,h,_=>by simp at h
 | p :: P, w :: vs, 0, m, nd, h1, h2, hk => by
   simp at h1 h2;subst h1;subst h2;show bindL kindOf ((p,w)::P.zip vs) m p=_;unfold bindL;rw[xr λv hv=>(List.nodup_cons.mp nd).1 (List.of_mem_zip hv).1,if_pos hk]
   simp
 | p :: P, w :: vs, i + 1, m, nd, h1, h2, hk => by
   show bindL kindOf ((p,w)::P.zip vs) m x=_;unfold bindL;exact xU (i:=i) (List.nodup_cons.mp nd).2 (by simpa using h1) (by simpa using h2) hk
theorem xH:∀ {P:List Str} {vs:List Value} {i:Nat} {m:Str->Option Value},P.Nodup->P[i]? = some x->vs[i]? = some v->kindOf x≠some .local ->
   bindC kindOf (P.zip vs) m x=some v
 | [],_,_,_,_,h,_,_=>by simp at h
 | _::_,[],_,_,_,_,h,_=>by simp at h
 | p :: P, w :: vs, 0, m, nd, h1, h2, hk => by
   simp at h1 h2;subst h1;subst h2;show bindC kindOf ((p,w)::P.zip vs) m p=_;unfold bindC;rw[xn λv hv=>(List.nodup_cons.mp nd).1 (List.of_mem_zip hv).1,if_neg hk]
   simp
 | p :: P, w :: vs, i + 1, m, nd, h1, h2, hk => by
   show bindC kindOf ((p,w)::P.zip vs) m x=_;unfold bindC;exact xH (i:=i) (List.nodup_cons.mp nd).2 (by simpa using h1) (by simpa using h2) hk
def start (N:List Str)(vs:List V):St:=vs.map some++aat (N.length - vs.length) none
def bU (CX:dQ)(P:Program)(w:World)(K:W.Frag)(mg:Str->Option Value)(base:Heap)(N:List Str)(qual:Str)(scope:Scope)(f:Addr)(cd:Value)(A:Around)(outer:List Env)(s:Shared)(H:Hp)(E:XK):Cx where
 prog:=P
 w:=w
 K:=K
 mg:=mg
 base:=base
 A:=A.deeper (envOfC qual scope s.heap.objs.size f cd)
 N:=N
 s₀:=s
 H₀:=H
 env:=envOfC qual scope s.heap.objs.size f cd
 outer:=outer
 stack:=envOfC qual scope s.heap.objs.size f cd::outer
 ex:=[]
 calm:=true
 fn:=λ_=>true
 pn:=[]
 xe:=λe s'=>wpAny (model P w) (A.deeper (envOfC qual scope s.heap.objs.size f cd)) (leaving (envOfC qual scope s.heap.objs.size f cd) e) (λ_ s''=>CX outer H s E e s'') (λe' s''=>CX outer H s E e' s'') s'
theorem zQ {sc:Scope}{n:Nat}(h:sc.names.lookup x=some .cell):∃ c,(cellsFrom n sc.names []).lookup x=some c:=by
 have q:=W.cellsFrom_some sc.names n [] (.inl h);exact Option.isSome_iff_exists.mp q
theorem Hk {CX:dQ}{P:Program}{w:World}{K:W.Frag}{mg:Str->Option Value}{base:Heap}{N ps:List Str}{qual:Str}{scope:Scope}{f:Addr}{cd:Value}{A:Around}{outer:List Env}{s s1:Shared}{H:Hp}{E:XK}{us:List Value}{vs:List V}
   (S:ao N ps scope) (hd:A.handled=none) (e0:tD P w K mg base A outer s H) (hl:vs.length=ps.length) (r:aI vs us)
   (x:InCallC s s.heap.objs.size (bindL (envOfC qual scope s.heap.objs.size f cd).kindOf (ps.zip us) λ_=>none) (cellsFrom (s.heap.objs.size+1) scope.names []) (bindC (envOfC qual scope s.heap.objs.size f cd).kindOf (ps.zip us) λ_=>none) s1) :
   Inv (bU CX P w K mg base N qual scope f cd A outer s H E) [] (start N vs) H s1:=by
 have SS:ps.length<=N.length:=by have:=congrArg List.length S.pre;rw[aaz] at this;omega
 obtain⟨h1,tk,rfl,hk⟩:=x.done;have noA:∀ b:Addr,b ∉ (bU CX P w K mg base N qual scope f cd A outer s H E).ex:=λb z=>absurd (show b∈([]:List Addr) from z) (by simp)
 refine ⟨⟨e0.mod,S.kind,rfl,rfl,aah _,λy z c h1 h2=>?_,λy hy=>?_,λy c _ h=>?_,λ_=>hd,Around.frames_deeper e0.frames,.inr ⟨rfl,rfl⟩,λb z=>absurd z (noA b),e0.bs,e0.rG,λb _ _=>noA b,λb z=>absurd z (noA b),e0.gC,e0.ua⟩,
   rfl,e0.bare,Un.kept hk,⟨_,x.toInCall.ns,λi y v h1 h2 h3=>?_⟩,λy c h=>⟨_,x.cell y c h⟩,e0.az.fresh (aah _),λy c h=>?_,λp hp=>absurd (show p∈([]:List (Addr×Obj)) from hp) (by simp),e0.az.kept hk,?_⟩
 . exact name_of_addr x.apart (ab0 h1) (ab0 h2)
 . have hy : scope.names.lookup y = some .cell ∨ scope.names.lookup y = some .free := hy;rcases hy with hy | hy
   . exact zQ hy
   . exact absurd rfl (S.MW _ (ab0 hy))
 . exact ado (x.above y c (ab0 h))
 . have hi : i < vs.length := by
     unfold start at h2;by_cases hi:i<vs.length
     . exact hi
     . rw[aaq (by simpa using hi)] at h2;rw[abF] at h2;split at h2 <;> cases h2
   have ha:vs[i]? = some v:=by
     unfold start at h2;rw[aao (by simpa using hi),aag] at h2;cases e:vs[i]? with
     | none=>rw[e] at h2;cases h2
     | some a=>rw[e] at h2;cases h2;rfl
   obtain⟨u,hu,rv⟩:=r.get ha;have hp:ps[i]? = some y:=by
     rw[<- S.pre,List.getElem?_take_of_lt (by omega)];exact h1
   have ndP:ps.Nodup:=by rw[<- S.pre];exact S.nd.sublist (List.take_sublist _ _)
   refine⟨u,rv,?_⟩;rcases S.par y (aaj hp) with k | k
   . exact .inl ⟨k,xU ndP hp hu k⟩
   . obtain⟨c, e⟩ := zQ (n := s.heap.objs.size + 1) k;refine .inr ⟨.inl k,c,e,?_⟩;have q:=x.cell y c e;rw[xH ndP hp hu (by show scope.names.lookup y≠_;rw[k];decide)] at q;exact q
 . exact e0.az.fresh (ado (x.above y c (ab0 h)))
 . unfold start;show _=N.length;rw[aab,aac,aaB];omega
theorem qO {CX:dQ}{P:Program}{w:World}{K:W.Frag}{mg:Str->Option Value}{base:Heap}{k:Nat}{f:Addr}{name qual:Str}{params:Arguments}{body:List Stmt}{scope:Scope}{dV kV SU pm SN ct oc:Value}{an od:Option Addr}
   {Tj:Array (Option Value)} {N ps:List Str} {sp:Sp} (lk:K.lookup f=some ⟨oc,od,.func (W.fnOf name qual params body scope dV kV SU pm an SN ct),Tj⟩) (Tp:abN K SN qual=true) (S:ao N ps scope)
   (len:∀ vs H Q E,sp vs H Q E->vs.length=ps.length)
   (SR:∀ (A:Around) (outer:List Env) (s:Shared) (H:Hp) (vs:List V) (Q:VK) (E:XK),bG k (A.deeper (envOfC qual scope s.heap.objs.size f SN))->sp vs H Q E ->
     ∃ t,gw (bU CX P w K mg base N qual scope f SN A outer s H E) body t/\t { nx:=λ_ H'=>Q .aA H',rt:=Q } (start N vs) H) :
   c6 P w K mg base CX (k+1) f (W.fnOf name qual params body scope dV kV SU pm an SN ct) ps sp:=by
 refine⟨len,λA outer s H args us vs Q E hr e0 hb r UC=>?_⟩;have hl:=len _ _ _ _ UC;have KX:K.In s.heap:=e0.mod.vK.keeps λb o e=>(e0.bs b o e).1;have lim:s.heap.NoLimit:=e0.mod.nolimit.keeps λb o e=>(e0.bs b o e).1;have hkind:∀ y∈ps.zip us,scope.names.lookup y.1=some .local∨(scope.names.lookup y.1=some .cell/\((cellsFrom (s.heap.objs.size+1) scope.names []).lookup y.1).isSome=true):=λ⟨n,v⟩ hy=>by
   rcases S.par n (List.of_mem_zip hy).1 with q | q
   . exact .inl q
   . exact .inr ⟨q,W.cellsFrom_some _ _ _ (.inl q)⟩
 refine codeAny_call_function hr.depth (KX _ _ lk) rfl S.co S.gen rfl (W.codeRec_of KX Tp) (hb _ _ _ _ ?_);refine wpAny_newFunctionEnv_cells S.kind hkind λenv he s1 x=>?_;subst he;refine⟨lim.keeps x.toInCall.keep,codeAny_func ?_⟩;obtain⟨t,ht,hq⟩:=SR A outer s H vs Q E (hr.deeper _) UC;have I:Inv (bU CX P w K mg base N qual scope f SN A outer s H E) [] (start N vs) H s1:=Hk S hr.hd e0 hl r x;refine aaH (ht [] s1 (start N vs) H _ I hq) (λfl s' hs=>?_) λe s' hs=>hs;have S0:∀ {Z':St} {H':Hp} {v:V} {u:Value},Inv (bU CX P w K mg base N qual scope f SN A outer s H E) [] Z' H' s'->RelV v u->Q v H'->CE outer P w H s Q u s' :=
   λ{Z' H' v u} J rv q=>⟨v,H',J.os,J.bare,J.base,J.az,rv,q⟩
 cases fl with
 | ret u =>
   obtain⟨v,Z',H',J,rv,q⟩:=hs;exact S0 J rv q
 | next =>
   obtain⟨Z',H',J,q⟩:=hs;exact S0 (v:=V.aA) (u:=abj) J rfl q
 | brk =>
   obtain⟨_,_,_,q⟩:=hs;exact aaW q
 | cont =>
   obtain⟨_,_,_,q⟩:=hs;exact aaW q
section
variable {X:Cx} {x:Str} {p pos:Pos} {e:Expr} {es:List Expr} {t:TA} {id T:String} {r:List V->Hp->VK->Prop}
@[reducible] def si (r:List V->Hp->VK->Prop) (t:TA):TE:=λZ H Q=>t Z H λvs H1=>r vs H1 Q
theorem cJ (hc : cG X (.builtin id) r)(hg : Gl X x)(hm : X.mg x = none)(hv : aaY x = some (.builtin id))(ha : PA X (e :: es) t)(hn : x ≠ "__name__" := by decide)(Tn : (x == ("__debug__" : Str)) = false := by decide)
   (he:aai (e::es) X.env=(false,eval e X.env)::aai es X.env:=by rfl) (SS:(backTo pos (aai es X.env)).any (·.1)=false:=by rfl):PE X (.Call (.Name x p) (e::es) [] pos) (si r t):=by
 intro gV s Z H Q I h;refine abw (l7 I hg hm hv ?_ hn Tn);exact PyProof.Rows.callWith_builtin1 (aQ (ha pos gV s Z H _ I h) λus s1 zq=>bN zq λvs H1 I1 r1 q1=>hc gV s1 Z H1 vs us Q I1 r1 q1) he SS
theorem iK (hc : cG X (.type T) r)(hg : Gl X x)(hm : X.mg x = none)(hv : aaY x = some (.type T))(ha : PA X (e :: es) t)(hn : x ≠ "__name__" := by decide)(Tn : (x == ("__debug__" : Str)) = false := by decide)
   (he:aai (e::es) X.env=(false,eval e X.env)::aai es X.env:=by rfl) (SS:(backTo pos (aai es X.env)).any (·.1)=false:=by rfl):PE X (.Call (.Name x p) (e::es) [] pos) (si r t):=by
 intro gV s Z H Q I h;refine abw (l7 I hg hm hv ?_ hn Tn);exact abG (aQ (ha pos gV s Z H _ I h) λus s1 zq=>bN zq λvs H1 I1 r1 q1=>hc gV s1 Z H1 vs us Q I1 r1 q1) he SS
end
end L2
namespace HT
open PySem PyProof.Rows
section
variable {prog:Program} {w:World} {A:Around} {E:Value->Shared->Prop} {s:Shared}
theorem Lp (ht:IsTup s.heap t vs.toArray)(hb:IsTup s.heap b ws.toArray)(hv:vs≠[])
   (h1:ws=[]->Q (.ref t) s) (h2:ws≠[]->Q (.ref s.heap.objs.size) { s with heap:=s.heap.push { cls:=.type "tuple",data:=.seq (vs++ws).toArray } })
   (hsz:vs.length+ws.length<=aal):wpAny (model prog w) A (abB .Add (.ref t) (.ref b)) Q E s:=by
 obtain⟨⟨cls,dd,data,sl⟩,ho,hc,n,hd⟩:=id ht;obtain⟨⟨cls2,dd2,data2,sl2⟩,ho2,hc2,n2,Uu⟩:=id hb;simp only at hc hd hc2 Uu;subst hc hd hc2 Uu;have e:vs.toArray++ws.toArray=(vs++ws).toArray:=by simp
 by_cases hw:ws=[]
 . exact concat_meets ⟨_,ho,rfl⟩ ⟨_,ho2,rfl⟩ noFill_tuple_add seq_tuple_add PySem.F.slot_tuple_add PySem.F.entry_tuple_add (PySem.F.args_tuple_add_2 _ _)
     (tuple_addW1 t b vs.toArray ws.toArray n n2 dd dd2 sl sl2 (by simpa using hv) (by simp[hw])) ⟨ho,ho2,h1 hw⟩
 . refine concat_meets ⟨_,ho,rfl⟩ ⟨_,ho2,rfl⟩ noFill_tuple_add seq_tuple_add PySem.F.slot_tuple_add PySem.F.entry_tuple_add (PySem.F.args_tuple_add_2 _ _)
     (tuple_addW2 t b vs.toArray ws.toArray n n2 dd dd2 sl sl2 (by simpa using hv) (by simpa using hw) (by rw[aam,aam];exact hsz)) ⟨ho,ho2,?_⟩
   rw[e];exact h2 hw
def ba (n d:Nat):Option Int->Nat
 | none=>d
 | some v=>if v<0 then (v+(n:Int)).toNat else min v.toNat n
theorem jk (n d k:Nat):ba n d (some (k:Int))=min k n:=by
 show(if (k:Int)<0 then ((k:Int)+(n:Int)).toNat else min (k:Int).toNat n)=min k n;rw[if_neg (by omega),aaE]
theorem Mn (n d:Nat)(hd:d<=n)(o:Option Int):ba n d o<=n:=by
 cases o with
 | none=>exact hd
 | some v =>
   show(if v<0 then (v+(n:Int)).toNat else min v.toNat n)<=n;by_cases hv:v<0
   . rw[if_pos hv];omega
   . rw[if_neg hv];exact Nat.min_le_right _ _
theorem C2 (v:Int)(n d:Nat):(if v<0 then max (v+(n:Int)) 0 else min v (n:Int))=((ba n d (some v):Nat):Int):=by
 show(if v<0 then max (v+(n:Int)) 0 else min v (n:Int))=(((if v<0 then (v+(n:Int)).toNat else min v.toNat n):Nat):Int)
 by_cases hv:v<0
 . simp only[if_pos hv];omega
 . simp only[if_neg hv];omega
theorem Ez (lo hi:Option Int)(n:Nat):acC lo hi 1 (n:Int)=(((ba n 0 lo:Nat):Int),((ba n n hi:Nat):Int)):=by
 have h1 : ¬ ((1:Int)<0):=by omega
 unfold acC;simp only[h1,if_false];refine Prod.ext ?_ ?_
 . cases lo with
   | none=>rfl
   | some v=>exact C2 v n 0
 . cases hi with
   | none=>rfl
   | some v=>exact C2 v n n
theorem En (i j:Nat):abM (i:Int) (j:Int) 1=j - i:=by
 unfold abM;have h1:(1:Int) > 0:=by omega
 simp only[h1,if_true,Int.ediv_one];split <;> omega
theorem vv (p:IsPart v o)(h:Q o s):wpAny (model prog w) A (Builtin.Slice.slicePartIndex v) Q E s:=by
 cases p with
 | none=>exact slicePart_none h
 | int i t=>exact slicePart_int h
theorem sU {sl:Addr}{vl vu:Value}{lo hi:Option Int}{n:Nat}{Q:Int×Int×Nat->Shared->Prop}(hs:s.heap.IsSliceOf sl vl vu .none)(pl:IsPart vl lo)(pu:IsPart vu hi)
   (h:Q (((ba n 0 lo:Nat):Int),1,ba n n hi - ba n 0 lo) s):wpAny (model prog w) A (Builtin.Slice.sliceApplied (.ref sl) (pure (n:Int))) Q E s:=by
 obtain⟨os,hos,hcs,hds⟩:=id hs;unfold Builtin.Slice.sliceApplied Builtin.Slice.sliceFields;refine aad (aad (abr hos hds (x:=vl) rfl (aad (abr hos hds (x:=vu) rfl (aad (abr hos hds (x:=.none) rfl (aak ?_)))))));refine aad (slicePart_none ?_);show wpAny _ _ (if ((1:Int) == 0)=true then _ else _) _ _ s;rw[if_neg (by decide)];refine aad (vv pl (aad (vv pu (aad (aak ?_)))));show wpAny _ _ (match acC lo hi 1 (n:Int) with | (lo,hi)=>pure (lo,(1:Int),abM lo hi 1)) _ _ s;rw[Ez lo hi n];show wpAny _ _ (pure (((ba n 0 lo:Nat):Int),(1:Int),abM ((ba n 0 lo:Nat):Int) ((ba n n hi:Nat):Int) 1)) _ _ s;rw[En];exact aak h
theorem IJ (xs:Array Value)(i k:Nat):((ab7 k).filterMap λ(m:Nat)=>xs[((i:Int)+(m:Int)*1).toNat]?).toArray=((xs.toList.drop i).take k).toArray:=by
 have e:(λ(m:Nat)=>xs[((i:Int)+(m:Int)*1).toNat]?)=λm=>xs[i+m]?:=by
   funext m
   have:((i:Int)+(m:Int)*1).toNat=i+m:=by omega
   rw[this]
 rw[e]
 have:=pick_run xs i k
 rw[adM] at this;have e2:((λx=>xs[x]?) ∘ λx=>i+x)=λm=>xs[i+m]?:=rfl;rw[e2] at this;rw[this]
theorem qX {t sl:Addr}{items:Array Value}{vl vu:Value}{lo hi:Option Int}{Q:Value->Shared->Prop}(ht:IsTup s.heap t items)(hs:s.heap.IsSliceOf sl vl vu .none)(pl:IsPart vl lo)(pu:IsPart vu hi)
   (hw : ¬ (ba items.size 0 lo=0/\ba items.size items.size hi=items.size))
   (h:Q (.ref s.heap.objs.size) { s with heap:=s.heap.push { cls:=.type "tuple",data:=.seq ((items.toList.drop (ba items.size 0 lo)).take (ba items.size items.size hi - ba items.size 0 lo)).toArray } })
   (hsz:items.size<=aal):wpAny (model prog w) A (getItem (.ref t) (.ref sl)) Q E s:=by
 have Vs:sizeOk (.seq ((items.toList.drop (ba items.size 0 lo)).take (ba items.size items.size hi - ba items.size 0 lo)).toArray):=by
   show((items.toList.drop (ba items.size 0 lo)).take (ba items.size items.size hi - ba items.size 0 lo)).toArray.size<=aal;rw[aam,aaz,aaZ,ab1];omega
 have hj:ba items.size items.size hi<=items.size:=Mn _ _ (aah _) hi;obtain⟨os,hos,hcs,hds⟩:=id hs;have hTs:s.TypeIs (.ref sl) "slice":=⟨os,hos,hcs⟩
 unfold getItem
 try with_reducible refine aa9 ?_
 first | refine aad (aak ?_) | skip
 refine aad (wpAny_sequenceKey ht.typeIs (by decide) ?_)
 refine aad (acw (name:=aae "__getitem__") ht.typeIs PyProof.Rows.slot_tuple_getitem
   (acK PyProof.Rows.slot_tuple_getitem ht.typeIs entry_tuple_getitem ?_ (args_tuple_getitem _ _)))
 show wpAny _ _ (Builtin.Tuple.tupleItemsOf (.ref t) >>= _) _ _ s;refine aad (tupleItemsOf_ ht ?_);refine aad (wpAny_typeOf hTs ?_);rw[if_pos (by decide)];refine aad (sU hs pl pu ?_);have Vz : ¬ ((((ba items.size 0 lo:Nat):Int) == 0 && (1:Int) == 1 && (ba items.size items.size hi - ba items.size 0 lo) == items.size)=true):=by
   intro q;rw[aaM,aaM] at q;have q1:((ba items.size 0 lo:Nat):Int)=0:=eq_of_beq q.1.1;have q2:ba items.size items.size hi - ba items.size 0 lo=items.size:=eq_of_beq q.2;exact hw ⟨by omega,by omega⟩
 show wpAny _ _ (if (((ba items.size 0 lo:Nat):Int) == 0 && (1:Int) == 1 && (ba items.size items.size hi - ba items.size 0 lo) == items.size)=true then _ else _) _ _ s;rw[if_neg Vz,IJ]
 first
   | exact aad (m:=abO _) (abp (aak ⟨_,rfl,aak h⟩) Vs)
   | exact aad (m:=abO _) (abp (aad (aak (aak ⟨_,rfl,aak h⟩))) Vs)
   | exact aad (aad (m:=abO _) (abp (aak (aak ⟨_,rfl,aak h⟩)) Vs))
   | exact aad (aad (m:=abO _) (abp (aak ⟨_,rfl,aak h⟩) Vs))
end
end HT
namespace L2
open PySem PySem.Spec PyProof.Rows
abbrev TO:=St->Hp->(Option Int->Hp->Prop)->Prop
def PO (X:Cx)(e:Option Expr)(t:TO):Prop :=
 ∀ (gV:List (Addr×Obj)) (s:Shared) (Z : St) (H:Hp) (Q:Option Int->Hp->Prop),Inv X gV Z H s->t Z H Q ->
   wpAny (model X.prog X.w) X.A (evalPart e X.env) (λu s'=>∃ o H',Inv X gV Z H' s'/\IsPart u o/\Q o H') X.xe s
@[reducible] def iu:TO:=λ_ H Q=>Q none H
@[reducible] def fB (t:TE):TO:=λZ H Q=>t Z H λx H1=>Ga x λi=>Q (some i) H1
section
variable {X:Cx} {e:Expr} {te:TE} {lo hi:Option Expr} {tl th:TO} {pos p2:Pos}
theorem KN:PO X none iu:=by
 intro gV s Z H Q I h;rw[evalPart_none];exact aak ⟨none,H,I,.none,h⟩
theorem lI (h:PE X e te):PO X (some e) (fB te):=by
 intro gV s Z H Q I hw;rw[evalPart_some];refine aQ (h gV s Z H _ I hw) λu s1 zq=>bN zq λx H1 I1 r1 q1=>?_;obtain⟨i,rfl,q⟩:=vd q1;obtain⟨t,rfl⟩:=r1;exact⟨some i,H1,I1,.int i t,q⟩
def u_ (X:Cx)(r:V->Option Int->Option Int->Hp->VK->Prop):Prop :=
 ∀ (gV:List (Addr×Obj)) (s:Shared) (Z : St) (H:Hp) (x:V) (v vl vu:Value) (lo hi:Option Int) (sl:Addr) (Q:VK),Inv X gV Z H s->RelV x v->s.heap.IsSliceOf sl vl vu .none->IsPart vl lo->IsPart vu hi->r x lo hi H Q ->
   ∃ T id,typeLookup (.type T) "__getitem__" = pure (some (.builtin id))/\s.TypeIs v T/\wpAny (model X.prog X.w) X.A (getItem v (.ref sl)) (EP X gV Z Q) X.xe s
theorem u_.or (h:u_ X r)(h':u_ X r'):u_ X (λx lo hi H Q=>r x lo hi H Q∨r' x lo hi H Q):=by
 intro gV s Z H x v vl vu lo hi sl Q I rx hs pl pu q;rcases q with q | q
 . exact h gV s Z H x v vl vu lo hi sl Q I rx hs pl pu q
 . exact h' gV s Z H x v vl vu lo hi sl Q I rx hs pl pu q
@[reducible] def rJ (r:V->Option Int->Option Int->Hp->VK->Prop) (te:TE) (tl th:TO):TE:=λZ H Q=>te Z H λx H1=>tl Z H1 λl H2=>th Z H2 λu H3=>r x l u H3 Q
theorem sQ {r:V->Option Int->Option Int->Hp->VK->Prop}(hr:u_ X r)(he:PE X e te)(hl:PO X lo tl)(hu:PO X hi th):PE X (.Subscript e (.Slice lo hi none p2) pos) (rJ r te tl th):=by
 intro gV s Z H Q I h;refine Subscript_ (aQ (he gV s Z H _ I h) λv s1 zq=>bN zq λx H1 I1 r1 q1=>?_);refine wpAny_Slice (aQ (hl gV s1 Z H1 _ I1 q1) λvl s2 zq=>bN zq λl H2 I2 pl q2=>aQ (hu gV s2 Z H2 _ I2 q2) λvu s3 zq=>bN zq λu H3 I3 pu q3=>?_);rw[evalPart_none];refine aak ?_;have I4:Inv X gV Z H3 { s3 with heap:=s3.heap.push { cls:=.type "slice",data:=.fields #[vl,vu,.none] } }:=I3.kept (t':=s3.toks) λb ob q=>aaf _ q;obtain⟨T,id,hT,ht,hg⟩:=hr gV { s3 with heap:=s3.heap.push { cls:=.type "slice",data:=.fields #[vl,vu,.none] } } Z H3 x v vl vu l u s3.heap.objs.size Q I4 r1 (Heap.IsSliceOf.new ..) pl pu q3;show wpAny (model X.prog X.w) X.A (subscriptTail e (.Slice lo hi none p2) v (.ref s3.heap.objs.size)) (EP X gV Z Q) X.xe { s3 with heap:=s3.heap.push { cls:=.type "slice",data:=.fields #[vl,vu,.none] } };exact tail_any (ops:=[.ref s3.heap.objs.size,v]) ht hT hg (by with_unfolding_all rfl)
def fS (xs:List V)(lo hi:Option Int):List V:=(xs.drop (HT.ba xs.length 0 lo)).take (HT.ba xs.length xs.length hi - HT.ba xs.length 0 lo)
theorem rL (xs:List V)(lo hi:Option Int):(fS xs lo hi).length<=xs.length:=by
 unfold fS;rw[aaz,aaZ];omega
def NJ (K:W.Frag):V->Option Int->Option Int->Hp->VK->Prop:=λx lo hi H Q=>∃ a xs,x=.ref a/\aJ K H a xs /\
 ¬ (HT.ba xs.length 0 lo=0/\HT.ba xs.length xs.length hi=xs.length)/\∀ p,H p=none->Q (.ref p) (upd H p (.tup (fS xs lo hi)))
theorem NB:u_ X (NJ X.K):=by
 intro gV s Z H x v vl vu lo hi sl Q I rx hs pl pu h;obtain⟨a,xs,rfl,hx,hw,q⟩:=h;cases rx
 obtain⟨its,r,ht,hz⟩:=I.tuple hx;have SO:its.toArray.size=xs.length:=by rw[aam];exact r.length.symm
 refine⟨"tuple",_,PyProof.Rows.slot_tuple_getitem.lookup,ht.typeIs,?_⟩;refine HT.qX ht hs pl pu (by rw[SO];exact hw) ?_ (by rw[SO];exact hz);rw[SO];refine⟨.ref s.heap.objs.size,_,I.laid (t':=s.toks) (o:=.tup (fS xs lo hi)) (λb ob q=>aaf _ q) (aah _) ?_,rfl,q _ (I.az.fresh (aah _))⟩;exact⟨aaJ (rL xs lo hi) hz,_,(r.drop (HT.ba xs.length 0 lo)).take (HT.ba xs.length xs.length hi - HT.ba xs.length 0 lo),IsTup.new _ _⟩
def Kj (K:W.Frag):R2:=λx y H Q=>∃ a b xs ys,x=.ref a/\y=.ref b/\aJ K H a xs/\aJ K H b ys/\xs≠[]/\xs.length+ys.length<=aal /\
 (ys=[]->Q (.ref a) H)/\(ys≠[]->∀ p,H p=none->Q (.ref p) (upd H p (.tup (xs++ys))))
variable {us:List Value} {xs:List V}
theorem aI.wc (r:aI xs us):us=[] ↔ xs=[]:=by
 cases r with
 | nil=>simp
 | cons _ _=>simp
theorem KG:bS X (abB .Add) (Kj X.K):=by
 intro gV s Z H x y v u Q I rx ry h;obtain⟨a,b,xs,ys,rfl,rfl,ha,hb,hx,hz,q1,q2⟩:=h;cases rx
 cases ry
 obtain⟨its,r1,p1,_⟩:=I.tuple ha;obtain⟨UO,r2,p2,_⟩:=I.tuple hb;refine HT.Lp p1 p2 (λz=>hx (r1.wc.mp z)) (λz=>⟨.ref a,H,I,rfl,q1 (r2.wc.mp z)⟩) (λz=>?_) (by rw[<- r1.length,<- r2.length];exact hz);refine⟨.ref s.heap.objs.size,_,I.laid (t':=s.toks) (o:=.tup (xs++ys)) (λb ob q=>aaf _ q) (aah _) ?_,rfl,q2 (λw=>z (r2.wc.mpr w)) _ (I.az.fresh (aah _))⟩;exact⟨by rw[aab];exact hz,_,r1.append r2,IsTup.new _ _⟩
end
def og (n:Nat)(i:Int):Option Nat:=if 0<=i then (if i<n then some i.toNat else none) else if -(n:Int)<=i then some (i+n).toNat else none
def b_ {α : Type}(xs:List α)(i:Int):Option α:=(og xs.length i).bind λj=>xs[j]?
variable {n:Nat}
theorem Dk (h:og n i=some j):seqIndex? i n=some j/\j<n/\-(n:Int)<=i/\i<n:=by
 unfold og at h;by_cases h0 : 0<=i
 . rw[if_pos h0] at h;by_cases h1:i<n
   . rw[if_pos h1] at h;have e:i.toNat=j:=aaw h;exact⟨by rw[seqIndex_of h0 h1,e],by omega,by omega,h1⟩
   . rw[if_neg h1] at h;cases h
 . rw[if_neg h0] at h;by_cases h1 : -(n:Int)<=i
   . rw[if_pos h1] at h;have e:(i+n).toNat=j:=aaw h;exact⟨by rw[seqIndex_neg (by omega) h1,e],by omega,h1,by omega⟩
   . rw[if_neg h1] at h;cases h
variable {α : Type}
theorem wO (h:b_ xs i=some v):∃ j,seqIndex? i xs.length=some j/\xs[j]? = some v/\j<xs.length/\-(xs.length:Int)<=i/\i<xs.length:=by
 unfold b_ at h;cases e:og xs.length i with
 | none=>rw[e] at h;cases h
 | some j =>
   rw[e] at h;obtain⟨h1,h2,h3,h4⟩:=Dk e;exact⟨j,h1,h,h2,h3,h4⟩
theorem bw {xs:List α}{j:Nat}{v : α}(h:xs[j]? = some v):b_ xs (j:Int)=some v:=by
 have hj:j<xs.length:=(List.getElem?_eq_some_iff.mp h).1;have e:og xs.length (j:Int)=some j:=by
   unfold og;rw[if_pos (by omega),if_pos (by omega)];simp
 unfold b_;rw[e];exact h
def LG (b:Expr):Prop:=∀ o i,subscripted b false o i=operate [o,i] (getItem o i)
def nX (X:Cx)(r:R2):Prop :=
 ∀ (value Tc:Expr) (gV:List (Addr×Obj)) (s:Shared) (Z : St) (H:Hp) (x y:V) (v u:Value) (Q:VK),Inv X gV Z H s->RelV x v->RelV y u->r x y H Q ->
   subscripted Tc false v u=operate [v,u] (getItem v u)->wpAny (model X.prog X.w) X.A (subscriptTail value Tc v u) (EP X gV Z Q) X.xe s
def GS (X:Cx)(id:String)(r:V->List V->Hp->VK->Prop):Prop :=
 ∀ (gV:List (Addr×Obj)) (s:Shared) (Z : St) (H:Hp) (x:V) (xs:List V) (v:Value) (us:List Value) (Q:VK),Inv X gV Z H s->RelV x v->aI xs us->r x xs H Q ->
   wpAny (model X.prog X.w) X.A (call (.builtin id) (v::us)) (EP X gV Z Q) X.xe s
section
variable {X:Cx} {a b:Expr} {ta tb:TE} {pos:Pos}
theorem nX.or (h:nX X r)(h':nX X r'):nX X (λx y H Q=>r x y H Q∨r' x y H Q):=by
 intro value Tc gV s Z H x y v u Q I rx ry q hs;rcases q with q | q
 . exact h value Tc gV s Z H x y v u Q I rx ry q hs
 . exact h' value Tc gV s Z H x y v u Q I rx ry q hs
theorem bV (hr:nX X r)(ha:PE X a ta)(hb:PE X b tb)(hs:LG b):PE X (.Subscript a b pos) (bF r ta tb):=by
 intro gV s Z H Q I h;exact Subscript_ (Iv ha hb I h λv u s2 x y H2 I2 rx ry q=>hr a b gV s2 Z H2 x y v u Q I2 rx ry q (hs _ _))
def OY (K:W.Frag):R2:=λx y H Q=>∃ p xs i v,x=.ref p/\y=.int i/\aq K H p xs/\b_ xs i=some v/\Q v H
def N9 (K:W.Frag):R2:=λx y H Q=>∃ p xs i v,x=.ref p/\y=.int i/\aJ K H p xs/\b_ xs i=some v/\Q v H
def Nt:R2:=λx y H Q=>∃ z i c,x=.str z/\y=.int i/\z.length<=aal/\b_ z.cps.toList i=some c/\Q (.str ⟨#[c]⟩) H
theorem LU:nX X (OY X.K):=by
 intro value Tc gV s Z H x y v u Q I rx ry h hs;obtain⟨p,xs,i,z,rfl,rfl,hq,he,q⟩:=h;cases rx
 obtain⟨t,rfl⟩:=ry;obtain⟨its,r,pl,hz⟩:=I.list hq;obtain⟨j,h1,h2,h3,h4,h5⟩:=wO he;obtain⟨w,ew,VT⟩:=r.get h2;have hl:=r.length;have hn:=lJ;have S0:EP X gV Z Q w s:=⟨z,H,I,VT,q⟩
 by_cases h0 : 0<=i
 . have hj : i.toNat = j := by
     rw[seqIndex_of h0 h5] at h1;exact aaw h1
   exact item_listR pl.isList h0 (by omega) (by rw[hj];simpa using ew) S0 hs
 . have hj : (i + (its.toArray.size : Int)).toNat = j := by
     rw[seqIndex_neg (by omega) h4] at h1;rw[aam,<- hl];exact aaw h1
   exact adA (x:=w) pl.isList.typeIs slot_list_getitem.lookup
     (wpAny_getItem_list_neg (Q:=λr s'=>r=w/\EP X gV Z Q r s') pl.isList (by omega) (by rw[aam] <;> omega) (by omega) (by rw[hj];simpa using ew) ⟨rfl,S0⟩) hs
theorem MP:nX X (N9 X.K):=by
 intro value Tc gV s Z H x y v u Q I rx ry h hs;obtain⟨p,xs,i,z,rfl,rfl,hq,he,q⟩:=h;cases rx
 obtain⟨t,rfl⟩:=ry;obtain⟨its,r,pl,hz⟩:=I.tuple hq;obtain⟨j,h1,h2,h3,h4,h5⟩:=wO he;obtain⟨w,ew,VT⟩:=r.get h2;have hl:=r.length;have hn:=lJ;have S0:EP X gV Z Q w s:=⟨z,H,I,VT,q⟩
 exact adA (x:=w) pl.typeIs slot_tuple_getitem.lookup
   (getItem_tuple (j:=j) (Q:=λr s'=>r=w/\EP X gV Z Q r s') pl (by omega) (by omega) (by rw[aam,<- hl];exact h1) (by simpa using ew) ⟨rfl,S0⟩) hs
theorem NA:nX X Nt:=by
 intro value Tc gV s Z H x y v u Q I rx ry h hs;obtain⟨z,i,c,rfl,rfl,hz,he,q⟩:=h;obtain⟨t,rfl⟩:=rx;obtain⟨t',rfl⟩:=ry;obtain⟨j,h1,h2,h3,h4,h5⟩:=wO he;have hl:z.cps.toList.length=z.length:=by simp[Str.length]
 rw[hl] at h1 h4 h5;have hn:=lJ;exact tail_any (typeIs_str s z t) slot_str_getitem.lookup (getItem_str (c:=c) (by
   have e1:decide (i < -(2 ^ 63:Int))=false:=decide_eq_false (by omega);have e2:decide (i ≥ 2 ^ 63)=false:=decide_eq_false (by omega);rw[e1,e2,Bool.or_false]) (by rw[h1];simpa using h2) ⟨.str ⟨#[c]⟩,H,I.tok _,⟨_,rfl⟩,q⟩) hs
def QL (K:W.Frag):R2:=λx y H Q=>OY K x y H Q∨N9 K x y H Q∨Nt x y H Q
theorem Ov:nX X (QL X.K):=LU.or (MP.or NA)
theorem DC (its:List Value)(n j:Nat)(u:Value):adt (·.setIfInBounds j u) { cls:=.type "list",data:=.seq its.toArray n }={ cls:=.type "list",data:=.seq (its.set j u).toArray n }:=by
 simp[adt]
variable {xs:List V} {s:Shared} {H:Hp} {gV:List (Addr×Obj)}
theorem Inv.lst {Z : St}{p:Addr}(I:Inv X gV Z H s)(h:H p=some (.lst xs)) :
   ∃ (its:List Value) (n:Nat),aI xs its/\s.heap.get? p=some { cls:=.type "list",data:=.seq its.toArray n }/\xs.length<=aal:=by
 obtain⟨z,its,n,r,e⟩:=I.az p _ h;exact⟨its,n,r,e,z⟩
theorem Inv.MD {Z : St}{p:Addr}{ys:List V}{its its':List Value}{n n':Nat}{f:Obj->Obj}(I:Inv X gV Z H s)(h:H p=some (.lst xs))
   (ho:s.heap.get? p=some { cls:=.type "list",data:=.seq its.toArray n }) (hf:f { cls:=.type "list",data:=.seq its.toArray n }={ cls:=.type "list",data:=.seq its'.toArray n' }) (r:aI ys its') (hz:ys.length<=aal) (t:Nat) :
   Inv X gV Z (upd H p (.lst ys)) { s with heap:=s.heap.update p f,toks:=t }:=by
 have e:(s.heap.update p f).get? p=some { cls:=.type "list",data:=.seq its'.toArray n' }:=by
   rw[abb f ho (by rw[hf] <;> rfl),hf]
 refine I.write (x:=p) (e:=p) (by rw[h];trivial) (.inl rfl) (λb u hb q=>(aa7 _ _ (Ne.symm hb)).trans q) ⟨_,e⟩ ?_;exact⟨hz,its',n',r,e⟩
def EL:V->V->V->Hp->(Hp->Prop)->Prop:=λo i v H Q=>∃ p xs k j,o=.ref p/\i=.int k/\H p=some (.lst xs)/\og xs.length k=some j/\Q (upd H p (.lst (xs.set j v)))
theorem set_list:Nr X EL:=by
 intro gV s Z H o i v ov iv u Q I ro ri rv h;obtain⟨p,xs,k,j,rfl,rfl,hp,hj,q⟩:=h;cases ro
 obtain⟨t,rfl⟩:=ri;obtain⟨its,n,r,ho,hz⟩:=I.lst hp;obtain⟨h1,h2,h3,h4⟩:=Dk hj;have hl:=r.length;have hn:=lJ;have I':Inv X gV Z (upd H p (.lst (xs.set j v))) { s with heap:=s.heap.update p (adt (·.setIfInBounds j u)) } :=
   I.MD hp ho (DC its n j u) (r.set rv j) (by rw[abx];exact hz) s.toks
 by_cases h0 : 0<=k
 . have hk : k.toNat = j := by
     rw[seqIndex_of h0 h4] at h1;exact aaw h1
   exact W.ki_setAt ho h0 (by omega) (by rw[aam,<- hl];exact h4) (by rw[hk];exact⟨_,I',q⟩)
 . have hk : (k + (its.toArray.size : Int)).toNat = j := by
     rw[seqIndex_neg (by omega) h3] at h1;rw[aam,<- hl];exact aaw h1
   exact W.ki_setBack ho (by omega) (by rw[aam,<- hl];exact h3) (by omega) (by rw[hk];exact⟨_,I',q⟩)
theorem AK (lo hi:Option Int)(n:Nat):(acY lo hi none n).1=((HT.ba n 0 lo:Nat):Int)/\(acY lo hi none n).2.1=((HT.ba n n hi:Nat):Int)/\(acY lo hi none n).2.2=1:=by
 refine⟨?_,?_,rfl⟩
 . cases lo with
   | none=>simp[acY,HT.ba]
   | some i =>
     simp only[acY,HT.ba,Option.getD_none,show(1:Int) > 0 by decide,if_true];by_cases h:i<0
     . simp only[h,if_true] <;> omega
     . simp only[h,if_false] <;> omega
 . cases hi with
   | none=>simp[acY,HT.ba]
   | some i =>
     simp only[acY,HT.ba,Option.getD_none,show(1:Int) > 0 by decide,if_true];by_cases h:i<0
     . simp only[h,if_true] <;> omega
     . simp only[h,if_false] <;> omega
theorem yh (its:List Value)(lo hi:Option Int):slicePick its.toArray lo hi none=((its.drop (HT.ba its.length 0 lo)).take (HT.ba its.length its.length hi - HT.ba its.length 0 lo)).toArray:=by
 obtain⟨h1,h2,h3⟩:=AK lo hi its.toArray.size;unfold slicePick;rw[h1,h2,h3];simp only[sliceRange_one,pick_run,aam] <;> rfl
def OJ (K:W.Frag):V->Option Int->Option Int->Hp->VK->Prop:=λx lo hi H Q=>∃ a xs,x=.ref a/\aq K H a xs/\∀ p,H p=none->Q (.ref p) (upd H p (.lst (fS xs lo hi)))
theorem Lg:u_ X (OJ X.K):=by
 intro gV s Z H x v vl vu lo hi sl Q I rx hs pl pu h;obtain⟨a,xs,rfl,hx,q⟩:=h;cases rx
 obtain⟨its,r,ht,hz⟩:=I.list hx;have SO:=r.length;refine⟨"list",_,slot_list_getitem.lookup,ht.isList.typeIs,?_⟩;refine wpAny_getItem_list_slice ht.isList hs pl pu .none (by simp) ?_ (by rw[aam] <;> omega);rw[yh,<- SO];refine⟨.ref s.heap.objs.size,_,I.laid (t':=s.toks) (o:=.lst (fS xs lo hi)) (λb ob q=>aaf _ q) (aah _) ?_,rfl,q _ (I.az.fresh (aah _))⟩;exact⟨aaJ (rL xs lo hi) hz,_,0,(r.drop (HT.ba xs.length 0 lo)).take (HT.ba xs.length xs.length hi - HT.ba xs.length 0 lo),aau _ rfl⟩
def dX:V->Bool
 | .aA=>true
 | .bl _=>true
 | .int _=>true
 | .str _=>true
 | _=>false
def p_:V->V->Bool
 | .aA,.aA=>true
 | .bl a,.bl b=>a == b
 | .bl a,.int b=>(if a then 1 else 0) == b
 | .int a,.bl b=>a == (if b then 1 else 0)
 | .int a,.int b=>a == b
 | .str a,.str b=>a == b
 | _,_=>false
variable {u:Value} {y x:V}
theorem OM (ry:RelV y u)(rx:RelV x v)(fy:dX y=true)(fx:dX x=true):SeqAt.EqAt A s u v (p_ y x):=by
 cases y with
 | aA =>
   cases ry
   cases x with
   | aA=>cases rx;exact SeqAt.EqAt.same _
   | bl b=>cases rx;exact SeqAt.EqAt.none_bool b
   | int b=>obtain⟨t,rfl⟩:=rx;exact SeqAt.EqAt.none_int b t
   | str b=>obtain⟨t,rfl⟩:=rx;exact SeqAt.EqAt.none_str b t
   | _=>exact absurd (show false=true from fx) aan
 | bl a =>
   cases ry
   cases x with
   | aA=>cases rx;exact SeqAt.EqAt.bool_none a
   | bl b=>cases rx;exact SeqAt.EqAt.bool_bool a b
   | int b=>obtain⟨t,rfl⟩:=rx;exact SeqAt.EqAt.bool_int a b t
   | str b=>obtain⟨t,rfl⟩:=rx;exact SeqAt.EqAt.bool_str a b t
   | _=>exact absurd (show false=true from fx) aan
 | int a =>
   obtain⟨t',rfl⟩:=ry;cases x with
   | aA=>cases rx;exact SeqAt.EqAt.int_none a t'
   | bl b=>cases rx;exact SeqAt.EqAt.int_bool a t' b
   | int b=>obtain⟨t,rfl⟩:=rx;exact SeqAt.EqAt.int_int a t' b t
   | str b=>obtain⟨t,rfl⟩:=rx;exact SeqAt.EqAt.int_str a t' b t
   | _=>exact absurd (show false=true from fx) aan
 | str a =>
   obtain⟨t',rfl⟩:=ry;cases x with
   | aA=>cases rx;exact SeqAt.EqAt.str_none a t'
   | bl b=>cases rx;exact SeqAt.EqAt.str_bool a t' b
   | int b=>obtain⟨t,rfl⟩:=rx;exact SeqAt.EqAt.str_int a t' b t
   | str b=>obtain⟨t,rfl⟩:=rx;exact SeqAt.EqAt.str_str a t' b t
   | _=>exact absurd (show false=true from fx) aan
 | _=>exact absurd (show false=true from fy) aan
def ko (x:V)(u:Value):Bool:=match u with
 | .none=>p_ .aA x
 | .bool b=>p_ (.bl b) x
 | .int i _=>p_ (.int i) x
 | .str z _=>p_ (.str z) x
 | _=>false
theorem Ha (r:RelV y u)(f:dX y=true):ko x u=p_ y x:=by
 cases y with
 | aA=>cases r;rfl
 | bl b=>cases r;rfl
 | int i=>obtain⟨t,rfl⟩:=r;rfl
 | str z=>obtain⟨t,rfl⟩:=r;rfl
 | _=>exact absurd (show false=true from f) aan
theorem lW:∀ {xs:List V} {us:List Value},aI xs us->xs.all dX=true->us.any (ko x)=xs.any λy=>p_ y x
 | _,_,.nil,_=>rfl
 | y :: xs, u :: us, .cons r t, f => by
   rw[acH,aaM] at f;rw[abt,abt,Ha r f.1,lW t f.2]
theorem ki (rx:RelV x v)(fx:dX x=true):∀ {xs:List V} {us:List Value},aI xs us->xs.all dX=true->∀ u∈us,SeqAt.EqAt A s u v (ko x u)
 | _,_,.nil,_=>λu hu=>by cases hu
 | y :: xs, u :: us, .cons r t, f => λu' hu => by
   rw[acH,aaM] at f;rcases List.mem_cons.mp hu with rfl | hu
   . rw[Ha r f.1];exact OM r rx f.1 fx
   . exact ki rx fx t f.2 u' hu
def eF (x:V)(xs:List V):Bool:=xs.any λy=>p_ y x
def pD (K:W.Frag)(neg:Bool):R2:=λx y H Q=>∃ p xs,y=.ref p/\(aq K H p xs∨aJ K H p xs)/\dX x=true/\xs.all dX=true/\Q (.bl (if neg then !eF x xs else eF x xs)) H
theorem E1:bS X (aaT .In) (pD X.K false):=by
 intro gV s Z H x y v u Q I rx ry h;obtain⟨p,xs,rfl,hq,fx,fs,q⟩:=h;cases ry
 rcases hq with hq | hq
 . obtain⟨its, r, pl, hz⟩ := I.list hq;refine SeqAt.in_listAt (ko x) pl.isList (λw hw=>ki rx fx r fs w (by simpa using hw)) ⟨.bl _,H,I,rfl,?_⟩;rw[show its.toArray.any (ko x)=its.any (ko x) by simp,lW r fs];exact q
 . obtain⟨its, r, pl, hz⟩ := I.tuple hq;refine SeqAt.in_tupleAt (ko x) pl (λw hw=>ki rx fx r fs w (by simpa using hw)) ⟨.bl _,H,I,rfl,?_⟩;rw[show its.toArray.any (ko x)=its.any (ko x) by simp,lW r fs];exact q
theorem AL:bS X (aaT .NotIn) (pD X.K true):=by
 intro gV s Z H x y v u Q I rx ry h;obtain⟨p,xs,rfl,hq,fx,fs,q⟩:=h;cases ry
 rcases hq with hq | hq
 . obtain⟨its, r, pl, hz⟩ := I.list hq;refine SeqAt.notIn_listAt (ko x) pl.isList (λw hw=>ki rx fx r fs w (by simpa using hw)) ⟨.bl _,H,I,rfl,?_⟩;rw[show its.toArray.any (ko x)=its.any (ko x) by simp,lW r fs];exact q
 . obtain⟨its, r, pl, hz⟩ := I.tuple hq;refine SeqAt.notIn_tupleAt (ko x) pl (λw hw=>ki rx fx r fs w (by simpa using hw)) ⟨.bl _,H,I,rfl,?_⟩;rw[show its.toArray.any (ko x)=its.any (ko x) by simp,lW r fs];exact q
theorem AM:cG X (.type "list") (λxs H Q=>∃ p ys,xs=[.ref p]/\(aq X.K H p ys∨aJ X.K H p ys)/\∀ l,H l=none->Q (.ref l) (upd H l (.lst ys))):=by
 intro gV s Z H xs us Q I r h;obtain⟨p,ys,rfl,hq,q⟩:=h;obtain⟨u,rfl,rx⟩:=vals1 r;cases rx
 have S0 : ∀ (its : List Value), aI ys its -> ys.length <= aal -> ∀ (h' : Heap) (c' : Nat), (∀ b o', s.heap.get? b = some o' -> h'.get? b = some o') ->
     h'.get? s.heap.objs.size=some { cls:=.type "list",dict:=none,data:=.seq its.toArray c',slots:=#[] }->EP X gV Z Q (.ref s.heap.objs.size) { s with heap:=h' }:=λits r' hz h' c' kp e =>
   ⟨.ref s.heap.objs.size,_,I.laid (t':=s.toks) kp (aah _) (show bX X.prog X.w _ h' _ (.lst ys) from⟨hz,its,c',r',e⟩),rfl,q _ (I.az.fresh (aah _))⟩
 rcases hq with hq | hq
 . obtain⟨its, r', pl, hz⟩ := I.list hq;have SO:=r'.length;obtain⟨o,ho,hc,n,hd⟩:=pl.isList;exact call_list_seq p (.inl rfl) ho hc hd (λh' c' kp e=>S0 its r' hz h' c' kp e) (by simp only[aam] <;> omega)
 . obtain⟨its, r', pl, hz⟩ := I.tuple hq;have SO:=r'.length;obtain⟨o,ho,hc,n,hd⟩:=pl;exact call_list_seq p (.inr rfl) ho hc hd (λh' c' kp e=>S0 its r' hz h' c' kp e) (by simp only[aam] <;> omega)
theorem yG:cG X (.type "tuple") (λxs H Q=>∃ p ys,xs=[.ref p]/\((aq X.K H p ys/\∀ l,H l=none->Q (.ref l) (upd H l (.tup ys)))∨(aJ X.K H p ys/\Q (.ref p) H))):=by
 intro gV s Z H xs us Q I r h;obtain⟨p,ys,rfl,h⟩:=h;obtain⟨u,rfl,rx⟩:=vals1 r;cases rx
 rcases h with ⟨hq,q⟩ | ⟨hq,q⟩
 . obtain⟨its, r', pl, hz⟩ := I.list hq;have SO:=r'.length;refine call_tuple_list pl.isList (λh' kp=>?_) (by simp only[aam] <;> omega);have I1:Inv X gV Z H { s with heap:=h' }:=I.kept (t':=s.toks) kp;have I2:Inv X gV Z (upd H h'.objs.size (.tup ys)) { s with heap:=h'.push { cls:=.type "tuple",data:=.seq its.toArray } } :=
     I1.laid (t':=s.toks) (λb o e=>aaf _ e) (aah _) (show bX X.prog X.w _ _ _ (.tup ys) from⟨hz,its,r',IsTup.new _ _⟩)
   exact⟨.ref h'.objs.size,_,I2,rfl,q _ (I1.az.fresh (aah _))⟩
 . obtain⟨its, r', pl, hz⟩ := I.tuple hq;exact call_tuple_same pl ⟨.ref p,H,I,rfl,q⟩
def Du (K:W.Frag)(T:String)(x:V)(H:Hp):Prop:=match x with
 | .str _=>T = "str"
 | .int _=>T = "int"
 | .ref p=>(T = "list"/\∃ xs,aq K H p xs)∨(T = "tuple"/\∃ o,K.lookup p=some o/\o.cls=.type "tuple"/\o.dict=none) ∨
     (T = "dict"/\((∃ kvs,H p=some (.dK kvs))∨∃ kvs,H p=some (.dT kvs)))∨(T = "set"/\∃ S n,H p=some (.set S n))
 | _=>False
theorem E3 (I:Inv X gV Z H s)(r:RelV x v)(ty:Du X.K T x H) :
   s.TypeIs v T/\∀ a,v=.ref a->∃ ob,s.heap.get? a=some ob/\ob.dict=none:=by
 cases x with
 | str z =>
   obtain⟨t,rfl⟩:=r;cases (show T = "str" from ty)
   exact⟨typeIs_str s z t,λ_ e=>nomatch e⟩
 | int i =>
   obtain⟨t,rfl⟩:=r;cases (show T = "int" from ty)
   exact⟨typeIs_int s i t,λ_ e=>nomatch e⟩
 | ref p =>
   cases r
   rcases ty with ⟨rfl,xs,hq⟩ | ⟨rfl,o,hk,hc,hd⟩ | ⟨rfl,hk⟩ | ⟨rfl,S,n,hk⟩
   . obtain ⟨its, _, pl, _⟩ := I.list hq;refine ⟨pl.isList.typeIs,λa e=>?_⟩;cases e
     obtain⟨o,n,e,c,hd,_⟩:=pl;exact⟨o,e,hd⟩
   . refine ⟨⟨o,I.df p o hk,hc⟩,λa e=>?_⟩;cases e
     exact⟨o,I.df _ o hk,hd⟩
   . have z : ∃ o, s.heap.get? p = some o /\ o.ExactDict := by
       rcases hk with ⟨kvs,hk⟩ | ⟨kvs,hk⟩
       . obtain⟨_, _, _, _, o, _, _, e, ex, _⟩ := I.az p _ hk;exact⟨o,e,ex⟩
       . obtain⟨_, _, _, _, o, _, _, e, ex, _⟩ := I.az p _ hk;exact⟨o,e,ex⟩
     obtain⟨o,e,ex⟩:=z;refine⟨⟨o,e,ex.1⟩,λa e2=>?_⟩;cases e2
     exact⟨o,e,ex.2.1⟩
   . obtain ⟨o, _, _, _, e, ex, _⟩ := I.az p _ hk;refine ⟨⟨o,e,ex.1⟩,λa e2=>?_⟩;cases e2
     exact⟨o,e,ex.2.1⟩
 | _=>exact aaW ty
@[reducible] def Na (K:W.Frag) (T:String) (r:V->List V->Hp->VK->Prop) (to:TE):TE:=λZ H Q=>to Z H λx H1=>Du K T x H1/\r x [] H1 Q
@[reducible] def MV (K:W.Frag) (T:String) (r:V->List V->Hp->VK->Prop) (to:TE) (t:TA):TE:=λZ H Q=>to Z H λx H1=>Du K T x H1/\t Z H1 λxs H2=>r x xs H2 Q
variable {o e:Expr} {es:List Expr} {to:TE} {t:TA} {name:Str} {SW SQ:Pos} {T id:String} {r:V->List V->Hp->VK->Prop}
theorem Mt (pa:PlainAttrs T)(slot:Slot T name id)(hty:typeOf (.builtin id)=pure (.type "method_descriptor"))(hm:GS X id r)(ho:PE X o to)
   (Ti:abZ o name X.env (eval o X.env)=eval o X.env:=by rfl) (TK:(SW.endLine == SQ.line)=true:=by rfl):PE X (.Call (.Attribute o name SW) [] [] SQ) (Na X.K T r to):=by
 intro gV s Z H Q I h;refine wpAny_Call_method0_late Ti TK (aQ (ho gV s Z H _ I h) λv s1 zq=>?_);obtain⟨x,H1,I1,r1,ty,q1⟩:=zq;obtain⟨h1,h2⟩:=E3 I1 r1 ty;exact⟨T,id,pa,slot,hty,h1,h2,adb rfl (PySem.evalArgs_none (hm gV s1 Z H1 x [] v [] Q I1 r1 .nil q1))⟩
theorem Qb (pa:PlainAttrs T)(slot:Slot T name id)(hty:typeOf (.builtin id)=pure (.type "method_descriptor"))(hm:GS X id r)(ho:PE X o to)(ha:PA X (e::es) t)
   (Ti:abZ o name X.env (eval o X.env)=eval o X.env:=by rfl)
   (Wi:((backTo SQ (aai (e::es) X.env)).all (λx=>!x.1) && (ac3 SQ (abU [] X.env)).all (λx=>x.1.isSome)
     && decide ((e::es).length+([]:List Keyword).length+(if ([]:List Keyword).isEmpty then 0 else 1)<30))=true:=by rfl)
   (TK:(SW.endLine == SQ.line)=true:=by rfl) (hs:aai (e::es) X.env=(false,eval e X.env)::aai es X.env:=by rfl) (Tb:(backTo SQ (aai es X.env)).any (·.1)=false:=by rfl) :
   PE X (.Call (.Attribute o name SW) (e::es) [] SQ) (MV X.K T r to t):=by
 intro gV s Z H Q I h;refine wpAny_Call_method_late Ti Wi TK rfl (aQ (ho gV s Z H _ I h) λv s1 zq=>?_);obtain⟨x,H1,I1,r1,ty,q1⟩:=zq;obtain⟨h1,h2⟩:=E3 I1 r1 ty;refine⟨T,id,pa,slot,hty,h1,h2,?_⟩;have hA:=ha SQ gV s1 Z H1 _ I1 q1;rw[hs] at hA ⊢;refine adb (by show(false || (backTo SQ (aai es X.env)).any (·.1))=false;rw[Tb] <;> rfl) (acD ?_);exact aQ hA λus s2 zq=>bN zq λvs H2 I2 r2 q2=>hm gV s2 Z H2 x vs v us Q I2 r1 r2 q2
end
def N_ (X:Cx)(id:String)(r:V->List V->Hp->VK->Prop):Prop :=
 ∀ (gV:List (Addr×Obj)) (s:Shared) (Z : St) (H:Hp) (x:V) (xs:List V) (v:Value) (us:List Value) (Q:VK),Inv X gV Z H s->RelV x v->aI xs us->r x xs H Q ->
   wpAny (model X.prog X.w) X.A (call (.builtin id) (v::us)) (EP X gV Z Q) X.xe s
variable {us:List Value} {x:V}
theorem aI.one (h:aI [x] us):∃ u,us=[u]/\RelV x u:=by
 cases h with
 | cons r t=>cases t;exact⟨_,rfl,r⟩
theorem aI.zero:∀ {us:List Value},aI [] us->us=[]
 | _,.nil=>rfl
variable {xs:List V}
theorem aI.dropLast (h:aI xs us):aI xs.dropLast us.dropLast:=by
 induction h with
 | nil=>exact .nil
 | cons r t ih =>
   cases t with
   | nil=>exact .nil
   | cons q t'=>exact .cons r ih
theorem aI.rep (h:aI xs us):∀ k:Nat,aI (aat k xs).flatten (aat k us).flatten
 | 0=>.nil
 | k + 1 => by
   rw[abm,abm,acn,acn];exact aI.append h (aI.rep h k)
theorem DA (l:List α):l.eraseIdx (l.length - 1)=l.dropLast:=by
 induction l with
 | nil=>rfl
 | cons a r ih =>
   cases r with
   | nil=>rfl
   | cons b r =>
     have e:(a::b::r).length - 1=((b::r).length - 1)+1:=by
       have h1:(a::b::r).length=r.length+2:=rfl;have h2:(b::r).length=r.length+1:=rfl;omega
     rw[e,List.eraseIdx_cons_succ,ih];all_goals rfl
theorem foldl_rep (its:List Value):∀ (k:Nat) (T3:List Value),
   List.foldl (λx1 x2=>x1++x2) T3.toArray (aat k its.toArray)=(T3++(aat k its).flatten).toArray
 | 0,T3=>by simp
 | k + 1, T3 => by
   have e:T3.toArray++its.toArray=(T3++its).toArray:=by simp
   have e2:(T3++its)++(aat k its).flatten=T3++(aat (k+1) its).flatten:=by
     rw[abm,acn,aco]
   rw[<- e2,<- foldl_rep its k (T3++its),<- e,abm,List.foldl_cons]
section
variable {X:Cx} {gV:List (Addr×Obj)} {Z : St} {H:Hp} {s:Shared} {l b:Addr} {xs ys zs:List V}
theorem Inv.IZ {its its':List Value}{n:Nat}{f:Array Value->Array Value}{t':Nat}(I:Inv X gV Z H s)(hH:H l=some (.lst xs))
   (e:s.heap.get? l=some { cls:=.type "list",data:=.seq its.toArray n }) (hf:f its.toArray=its'.toArray) (hv:aI ys its') (hz:ys.length<=aal) :
   Inv X gV Z (upd H l (.lst ys)) { s with heap:=s.heap.update l (adt f),toks:=t' }:=by
 have q:=PySem.IsL.update e f;rw[hf] at q;refine I.write (x:=l) (e:=l) (by rw[hH];exact trivial) (.inl rfl) (λb' u hb hu=>(aa7 s.heap (adt f) (Ne.symm hb)).trans hu) ⟨_,q⟩ ?_;exact⟨hz,its',_,hv,q⟩
theorem Inv.ND (I:Inv X gV Z H s)(hv:aI ys its)(hz:ys.length<=aal) :
   Inv X gV Z (upd H s.heap.objs.size (.lst ys)) { s with heap:=s.heap.push { cls:=.type "list",data:=.seq its.toArray },toks:=t' } :=
 I.laid (λ_ _ q=>aaf _ q) (aah _) ⟨hz,its,0,hv,aau _ rfl⟩
theorem Inv.fresh (I:Inv X gV Z H s):H s.heap.objs.size=none:=I.az.fresh (aah _)
theorem Inv.tY (I:Inv X gV Z H s)(hH:H l=some (.lst xs)):xs.length<=aal/\∃ (its:List Value) (n:Nat),aI xs its/\xs.length=its.length/\s.heap.get? l=some { cls:=.type "list",data:=.seq its.toArray n }:=by
 obtain⟨z,its,n,r,e⟩:=I.az l _ hH;exact⟨z,its,n,r,r.length,e⟩
theorem Bs (h:n<=aal):abQ n=false:=by
 unfold abQ;exact decide_eq_false (by omega)
end
section
variable {X:Cx}
def vR:V->List V->Hp->VK->Prop:=λx vs H Q=>∃ l xs y,x=.ref l/\vs=[y]/\H l=some (.lst xs)/\xs.length<aal/\Q .aA (upd H l (.lst (xs++[y])))
theorem yc:N_ X "list.append" vR:=by
 intro gV s Z H x vs v us Q I rx rv h;obtain⟨l,xs,y,rfl,rfl,hH,hz,q⟩:=h;cases rx
 obtain⟨u,rfl,ru⟩:=rv.one;obtain⟨z,its,n,r,hl,e⟩:=I.tY hH;refine call_meets F.slot_list_append ⟨_,e,rfl⟩ F.entry_list_append (F.args_list_append_2 _ _) (PySem.list_append l its.toArray n u (by rw[aam];omega)) ⟨e,?_⟩;refine⟨.aA,_,I.IZ (its':=its++[u]) hH e (by simp) (r.append (.cons ru .nil)) ?_,rfl,q⟩;rw[aab,aaG];omega
def C5:V->List V->Hp->VK->Prop:=λx vs H Q=>∃ l b xs zs,x=.ref l/\vs=[.ref b]/\H l=some (.lst xs)/\H b=some (.lst zs)/\xs.length+zs.length<=aal/\Q .aA (upd H l (.lst (xs++zs)))
theorem Fg:N_ X "list.extend" C5:=by
 intro gV s Z H x vs v us Q I rx rv h;obtain⟨l,b,xs,zs,rfl,rfl,hH,hB,hz,q⟩:=h;cases rx
 obtain⟨u,rfl,ru⟩:=rv.one;cases ru
 obtain⟨z,its,n,r,hl,e⟩:=I.tY hH;obtain⟨z2,UO,n2,r2,Vp,e2⟩:=I.tY hB;have hsz:its.toArray.size+UO.toArray.size<=aal:=by rw[aam,aam];omega
 have Ws : ¬ (!its.toArray.isEmpty && abQ (its.toArray.size+UO.toArray.size))=true:=by
   rw[Bs hsz,Bool.and_false];exact aan
 refine call_meets F.slot_list_extend ⟨_,e,rfl⟩ F.entry_list_extend (F.args_list_extend_2 _ _)
   (AutoSeq1.list_extend_list_list_0 l its.toArray n b UO.toArray n2 Ws (by rw[aam];omega) (by omega)) ⟨e,e2,?_⟩
 refine⟨.aA,_,I.IZ (its':=its++UO) hH e (by simp) (r.append r2) ?_,rfl,q⟩;rw[aab];omega
def NO:V->List V->Hp->VK->Prop:=λx vs H Q=>∃ l xs y,x=.ref l/\vs=[]/\H l=some (.lst xs)/\xs[xs.length - 1]? = some y/\Q y (upd H l (.lst xs.dropLast))
theorem Hi:N_ X "list.pop" NO:=by
 intro gV s Z H x vs v us Q I rx rv h;obtain⟨l,xs,y,rfl,rfl,hH,hy,q⟩:=h;cases rx
 have hus:=rv.zero;subst hus;obtain⟨z,its,n,r,hl,e⟩:=I.tY hH;obtain⟨u,hu,ru⟩:=r.get hy;have hy':its.toArray[its.toArray.size - 1]? = some u:=by
   show its.toArray[its.length - 1]? = some u;rw[<- adh,<- hl];exact hu
 refine call_meets F.slot_list_pop ⟨_,e,rfl⟩ F.entry_list_pop (F.args_list_pop_1 _) (MeetsSeq.list_pop_last l its.toArray n u hy' (by rw[aam];omega)) ⟨e,?_⟩;refine⟨y,_,I.IZ (its':=its.dropLast) hH e ?_ r.dropLast ?_,ru,q⟩
 . show its.toArray.eraseIdxIfInBounds (its.toArray.size - 1) = its.dropLast.toArray;rw[aam,List.eraseIdxIfInBounds_toArray,DA]
 . rw[List.length_dropLast];omega
def Mr:R2:=λx y H Q=>∃ l b xs zs,x=.ref l/\y=.ref b/\H l=some (.lst xs)/\H b=some (.lst zs)/\xs.length+zs.length<=aal/\∀ p,H p=none->Q (.ref p) (upd H p (.lst (xs++zs)))
theorem O3:bS X (abB .Add) Mr:=by
 intro gV s Z H x y v u Q I rx ry h;obtain⟨l,b,xs,zs,rfl,rfl,hH,hB,hz,q⟩:=h;cases rx
 cases ry
 obtain⟨z,its,n,r,hl,e⟩:=I.tY hH;obtain⟨z2,UO,n2,r2,Vp,e2⟩:=I.tY hB;refine PySem.P.add_list e e2 ?_ (by rw[aam,aam];omega);have ea:its.toArray++UO.toArray=(its++UO).toArray:=by simp
 rw[ea];exact⟨.ref _,_,I.ND (t':=s.toks) (r.append r2) (by rw[aab];omega),rfl,q _ I.fresh⟩
def Nb:R2:=λx y H Q=>∃ l k xs,x=.ref l/\y=.int k/\H l=some (.lst xs)/\-(2 ^ 63)<=k/\k<2 ^ 63/\xs.length*k.toNat<=aal /\
 ∀ p,H p=none->Q (.ref p) (upd H p (.lst (aat k.toNat xs).flatten))
theorem len_rep (xs:List α)(k:Nat):(aat k xs).flatten.length=k*xs.length:=by
 induction k with
 | zero=>simp
 | succ k ih=>rw[abm,acn,aab,ih,Nat.succ_mul,Nat.add_comm]
theorem MU:bS X (abB .Mult) Nb:=by
 intro gV s Z H x y v u Q I rx ry h;obtain⟨l,k,xs,rfl,rfl,hH,h1,h2,hz,q⟩:=h;cases rx
 obtain⟨t,rfl⟩:=ry;obtain⟨z,its,n,r,hl,e⟩:=I.tY hH;have SO:its.toArray.size*k.toNat<=aal:=by rw[aam,<- hl];exact hz
 have hcap : ¬ its.toArray.size*k.toNat > (2 ^ 63 - 1)/8:=by
   have:(aal:Nat)<=(2 ^ 63 - 1)/8:=by decide
   omega
 have hfit : ¬ (!Builtin.List.listFitsIndex k)=true:=by
   rw[fitsIndex_both h1 h2];exact aan
 have Ws : ¬ abQ (its.toArray.size*k.toNat)=true:=by
   rw[Bs SO];exact aan
 have hnew:List.foldl (λx1 x2=>x1++x2) #[] (aat (if its.toArray.isEmpty=true then 0 else k.toNat) its.toArray)=(aat k.toNat its).flatten.toArray:=by
   have f0:∀ m:Nat,List.foldl (λx1 x2=>x1++x2) #[] (aat m its.toArray)=(aat m its).flatten.toArray:=λm=>by
     have:=foldl_rep its m []
     rw[List.nil_append] at this;exact this
   rw[f0];cases its with
   | nil=>simp
   | cons a r'=>rw[if_neg (by simp)]
 refine wpAny_binaryOp_repeat_ref (T := "list") (U := "int") (by decide) ⟨_, e, rfl⟩ (λs' => typeIs_int s' k t) noFill_list_mul F.fills_int_mul F.slot_int_rmul repeat_list F.slot_int_index.lookup
   (call_meets F.slot_int_rmul (typeIs_int s k t) F.entry_int_rmul (F.args_int_rmul_2 _ _) (int___rmul___int_list k t l its.toArray n)
     ⟨e,rfl,⟨_,e,rfl⟩,call_meets F.slot_list_mul ⟨_,e,rfl⟩ F.entry_list_mul (F.args_list_mul_2 _ _) (AutoListH.list___mul___list_int_3 l its.toArray n k t hfit hcap Ws) ⟨e,?_⟩⟩)
 rw[hnew];exact⟨.ref _,_,I.ND (t':=s.toks) (r.rep k.toNat) (by rw[len_rep,Nat.mul_comm];exact hz),rfl,q _ I.fresh⟩
end
section
variable {κ : Type} [DecidableEq κ]
def b3 (kvs:List (κ×V))(k : κ):Option V:=(kvs.find? λkv=>decide (kv.1=k)).map (·.2)
def putK (kvs:List (κ×V))(k : κ)(v:V):List (κ×V) :=
 if (kvs.any λkv=>decide (kv.1=k))=true then kvs.map (λkv=>if kv.1=k then (kv.1,v) else kv) else kvs++[(k,v)]
theorem m5 {p : κ×V}{r:List (κ×V)}{k : κ}(e:p.1=k):b3 (p::r) k=some p.2:=by simp[b3,aby,e]
theorem j9 {p : κ×V}{r:List (κ×V)}{k : κ}(e : ¬ p.1=k):b3 (p::r) k=b3 r k:=by simp[b3,aby,e]
theorem jO (k : κ):∀ kvs:List (κ×V),(kvs.any λkv=>decide (kv.1=k))=(b3 kvs k).isSome
 | []=>rfl
 | p :: r => by
   rw[abt];by_cases e:p.1=k
   . simp only[m5 e,decide_eq_true e,Bool.true_or,adF]
   . rw[j9 e,decide_eq_false e,ac6];exact jO k r
theorem rX (kvs:List (κ×V))(k : κ)(v:V):(putK kvs k v).length<=kvs.length+1:=by
 unfold putK;split
 . rw[aac];omega
 . rw[aab,aaA,acJ];omega
variable {kvs:List (κ×V)}
theorem Io (v:V)(h:b3 kvs k=none):putK kvs k v=kvs++[(k,v)]:=by
 unfold putK;rw[jO,h];exact if_neg (by decide)
theorem fe.pj (r:fe o u):o.isSome=u.isSome:=by
 cases o with
 | none=>cases u with
   | none=>rfl
   | some _=>exact(show False from r).elim
 | some _=>cases u with
   | none=>exact(show False from r).elim
   | some _=>rfl
variable {vs:List (κ×Value)}
theorem KV.val (r:KV kvs vs)(k : κ):fe (b3 kvs k) (valueAt vs k):=by
 unfold KV at r
 induction r with
 | nil=>exact aas
 | @cons p q ps qs h t ih =>
   obtain⟨h1,h2⟩:=h;by_cases e:p.1=k
   . have e' : q.1 = k := h1.symm.trans e;have b:valueAt (q::qs) k=some q.2:=by simp [valueAt,aby,e']
     rw[m5 e,b];exact h2
   . have e' : ¬ q.1 = k := λz => e (h1.trans z);have b:valueAt (q::qs) k=valueAt qs k:=by simp [valueAt,aby,e']
     rw[j9 e,b];exact ih
theorem KV.any (r:KV kvs vs)(k : κ):(kvs.any λkv=>decide (kv.1=k))=vs.any λkv=>decide (kv.1=k):=by
 unfold KV at r
 induction r with
 | nil=>rfl
 | cons h t ih=>rw[abt,abt,ih,h.1]
variable {u:Value} {y:V}
theorem KV.Hu (r:KV kvs vs)(k : κ)(ry:RelV y u) :
   KV (kvs.map λkv=>if kv.1=k then (kv.1,y) else kv) (vs.map λkv=>if kv.1=k then (kv.1,u) else kv):=by
 unfold KV at r ⊢
 induction r with
 | nil=>exact .nil
 | @cons p q ps qs h t ih =>
   rw[aaN,aaN];refine .cons ?_ ih;obtain⟨h1,h2⟩:=h;by_cases e:p.1=k
   . rw[if_pos e,if_pos (h1.symm.trans e)];exact⟨h1,ry⟩
   . rw[if_neg e,if_neg (λz=>e (h1.trans z))];exact⟨h1,h2⟩
theorem KV.put (r:KV kvs vs)(k : κ)(ry:RelV y u):KV (putK kvs k y) (stored vs k u):=by
 unfold putK stored;rw[r.any k];by_cases e:(vs.any λkv=>decide (kv.1=k))=true
 . rw[if_pos e,if_pos e];exact r.Hu k ry
 . rw[if_neg e,if_neg e];exact Paired.snoc r ⟨rfl,ry⟩
theorem KV.length (r:KV kvs vs):kvs.length=vs.length:=adD r
end
variable {u:Value}
theorem zg (r:RelV (kV k) u):(cX P w).is k u=true:=by
 cases k with
 | inl i=>obtain⟨t,e⟩:=(show ∃ t,u=abl i t from r);subst e;exact Cb P w i t
 | inr x=>obtain⟨t,e⟩:=(show ∃ t,u=adH x t from r);subst e;exact CK P w x t
theorem xD:∀ {ks:List Key} {us:List Value},aI (ks.map kV) us->ItemsAre (cX P w) ks us
 | [],_,r=>by rw[List.map_nil] at r;cases r;exact .nil
 | k :: ks, _, r => by
   rw[aaN] at r;cases r with
   | cons h t=>exact .cons (zg h) (xD t)
abbrev KT (H:Hp):List (List Key×V)->List (List Key×Addr×Value)->Prop:=Paired λp q=>p.1=q.1/\H q.2.1=some (.tup (p.1.map kV))/\RelV p.2 q.2.2
variable {H:Hp}
theorem KT.val {kvs:List (List Key×V)}{xs:List (List Key×Addr×Value)}(r:KT H kvs xs)(k:List Key):fe (b3 kvs k) ((atKey xs k).map (·.2)):=by
 induction r with
 | nil=>exact aas
 | @cons p q ps qs h t ih =>
   obtain⟨h1,_,h2⟩:=h;by_cases e:p.1=k
   . have e' : q.1 = k := h1.symm.trans e;have b:atKey (q::qs) k=some q.2:=by simp [atKey,aby,e']
     rw[m5 e,b];exact h2
   . have e' : ¬ q.1 = k := λz => e (h1.trans z);have b:atKey (q::qs) k=atKey qs k:=by simp [atKey,aby,e']
     rw[j9 e,b];exact ih
variable {y:V}
theorem KT.Hu {kvs:List (List Key×V)}{xs:List (List Key×Addr×Value)}(r:KT H kvs xs)(k:List Key)(ry:RelV y u) :
   KT H (kvs.map λkv=>if kv.1=k then (kv.1,y) else kv) (xs.map (putAt k u)):=by
 induction r with
 | nil=>exact .nil
 | @cons p q ps qs h t ih =>
   rw[aaN,aaN];refine .cons ?_ ih;obtain⟨h1,h2,h3⟩:=h;unfold putAt;by_cases e:p.1=k
   . rw[if_pos e,if_pos (h1.symm.trans e)];exact⟨h1,h2,ry⟩
   . rw[if_neg e,if_neg (λz=>e (h1.trans z))];exact⟨h1,h2,h3⟩
theorem KT.put {kvs:List (List Key×V)}{xs:List (List Key×Addr×Value)}(r:KT H kvs xs)(k:List Key){b:Addr}(hb:H b=some (.tup (k.map kV)))(ry:RelV y u) :
   KT H (putK kvs k y) (storedH xs k b u):=by
 have e:(kvs.any λkv=>decide (kv.1=k))=(atKey xs k).isSome:=by
   rw[jO,(r.val k).pj,Option.isSome_map]
 unfold putK storedH;rw[e];by_cases q:(atKey xs k).isSome=true
 . rw[if_pos q,if_pos q];exact r.Hu k ry
 . rw[if_neg q,if_neg q];exact Paired.snoc r ⟨rfl,hb,ry⟩
theorem KT.keeps {H':Hp}{kvs:List (List Key×V)}{xs:List (List Key×Addr×Value)}(r:KT H kvs xs)(ht:∀ b ys,H b=some (.tup ys)->H' b=some (.tup ys)):KT H' kvs xs :=
 Paired.Ia r λ_ _ z=>⟨z.1,ht _ _ z.2.1,z.2.2⟩
section
variable {P:Program} {w:World} {H:Hp} {h:Heap} {a:Addr}
theorem JW {u:HO}(ok:de P w H h)(e:Rd H a u):bX P w H h a u:=e.ok ok
theorem kT (ok:de P w H h)(e:Rd H a (.dK kvs)):kvs.length<=aal/\(a == acg)=false/\∃ vs,KV kvs vs/\h.DictOf (cX P w) a vs :=
 show bX P w H h a (.dK kvs) from JW ok e
theorem Po (ok:de P w H h)(e:H a=some (.dK kvs)):kvs.length<=aal/\(a == acg)=false/\∃ vs,KV kvs vs/\h.DictOf (cX P w) a vs:=kT ok (.inl e)
theorem uD (ok:de P w H h)(e:H a=some (.tup (ks.map kV))):(tupleKind (cX P w)).is h ks a:=by
 obtain⟨_,its,r,o,h1,h2,n,h3⟩:=(show bX P w H h a (.tup (ks.map kV)) from ok a _ e)
 exact⟨o,its.toArray,n,h1,h2,h3,by simpa using xD r⟩
theorem zf (ok:de P w H h)(e:Rd H a (.dT kvs)):kvs.length<=aal/\(a == acg)=false /\
   ∃ xs,KT H kvs xs/\h.DictOfH (tupleKind (cX P w)) a xs:=by
 obtain⟨z,y,xs,r,o,es,ep,h1,h2,h3,h4,h5⟩:=(show bX P w H h a (.dT kvs) from JW ok e)
 refine⟨z,y,xs,r,o,es,ep,h1,h2,h3,h4,λx hx=>?_,h5⟩;have all:∀ {l:List (List Key×V)} {m:List (List Key×Addr×Value)},KT H l m->∀ x∈m,(tupleKind (cX P w)).is h x.1 x.2.1:=by
   intro l m q
   induction q with
   | nil=>intro x hx;exact nomatch hx
   | @cons p q ps qs hq t ih =>
     intro x hx;rcases List.mem_cons.mp hx with e | hx
     . subst e;exact uD ok (by rw[<- hq.1];exact hq.2.1)
     . exact ih x hx
 exact all r x hx
theorem P8 (ok:de P w H h)(e:H a=some (.dT kvs)):kvs.length<=aal/\(a == acg)=false /\
   ∃ xs,KT H kvs xs/\h.DictOfH (tupleKind (cX P w)) a xs:=zf ok (.inl e)
end
def fY (H:Hp)(a:Addr)(y:V)(r:Option V):Prop :=
 (∃ kvs k,Rd H a (.dK kvs)/\y=kV k/\r=b3 kvs k)∨∃ kvs k b,Rd H a (.dT kvs)/\y=.ref b/\H b=some (.tup (k.map kV))/\r=b3 kvs k
def tQ (H:Hp)(a:Addr)(y v:V)(H':Hp):Prop :=
 (∃ kvs k,H a=some (.dK kvs)/\y=kV k/\kvs.length<aal/\H'=upd H a (.dK (putK kvs k v))) ∨
 ∃ kvs k b,H a=some (.dT kvs)/\y=.ref b/\H b=some (.tup (k.map kV))/\kvs.length<aal/\H'=upd H a (.dT (putK kvs k v))
theorem fY.k {a:Addr}{kvs:List (Key×V)}{k:Key}(e:H a=some (.dK kvs)):fY H a (kV k) (b3 kvs k):=.inl ⟨kvs,k,.inl e,rfl,rfl⟩
theorem tQ.k {a:Addr}{kvs:List (Key×V)}{k:Key}{v:V}(e:H a=some (.dK kvs))(hl:kvs.length<aal):tQ H a (kV k) v (upd H a (.dK (putK kvs k v))):=.inl ⟨kvs,k,e,rfl,hl,rfl⟩
section
variable {X:Cx} {gV:List (Addr×Obj)} {Z : St} {H:Hp} {s:Shared} {a:Addr} {y v:V} {u r:Value} {o:Option V} {A:Around} {E:Value->Shared->Prop}
theorem Inv.zU (I:Inv X gV Z H s):acg<s.heap.objs.size:=by
 have h:aa4<s.heap.objs.size:=(I.mod.glob.keeps I.bk).lt;exact Nat.lt_trans (by decide) h
variable {Q:Value->Shared->Prop}
theorem FR (hu:A.units+1<cLine)(I:Inv X gV Z H s)(g:fY H a y (some v))(ry:RelV y u)(h:∀ w' s',Inv X gV Z H s'->RelV v w'->Q w' s') :
   wpAny (model X.prog X.w) A (getItem (.ref a) u) Q E s:=by
 rcases g with ⟨kvs,k,e,ey,l⟩ | ⟨kvs,k,b,e,ey,eb,l⟩
 . subst ey;obtain⟨z,hd,vs,Tz,dd⟩:=kT I.az e;obtain⟨w',hw,VT⟩:=fe.some_of (v:=v) (o:=valueAt vs k) (by rw[l];exact Tz.val k);exact wpAny_getItem_of (zg ry) dd.mapOf hw (h w' _ (I.tok _) VT)
 . subst ey;cases (show u=S8 b from ry)
   obtain⟨z,hd,xs,Tz,dd⟩:=zf I.az e;obtain⟨w',hw,VT⟩:=fe.some_of (v:=v) (o:=(atKey xs k).map (·.2)) (by rw[l];exact Tz.val k);obtain⟨p,hp,UE⟩:=Option.map_eq_some_iff.mp hw;refine wpAny_getItem_heap (tupleKind_room_in1 hu) (uD I.az eb) dd hp ?_;rw[UE];exact h w' _ (I.tok _) VT
theorem RK (hu:A.units+1<cLine)(I:Inv X gV Z H s)(g:fY H a y o)(ry:RelV y u)(h:∀ s',Inv X gV Z H s'->Q (.bool o.isSome) s') :
   wpAny (model X.prog X.w) A (aaT .In u (.ref a)) Q E s:=by
 rcases g with ⟨kvs,k,e,ey,l⟩ | ⟨kvs,k,b,e,ey,eb,l⟩
 . subst ey;obtain⟨z,hd,vs,Tz,dd⟩:=kT I.az e;refine wpAny_in_of (zg ry) hd dd.mapOf ?_;rw[<- (Tz.val k).pj,<- l];exact h _ (I.tok _)
 . subst ey;cases (show u=S8 b from ry)
   obtain⟨z,hd,xs,Tz,dd⟩:=zf I.az e;refine wpAny_in_heap (tupleKind_room_in1 hu) (uD I.az eb) hd dd ?_;have q:=(Tz.val k).pj;rw[Option.isSome_map] at q;rw[<- q,<- l];exact h _ (I.tok _)
theorem Dr (I:Inv X gV Z H s)(mu:F7 (H a))(hs:ab8 a s.heap h')(he:∃ q,h'.get? a=some q)(new:bX X.prog X.w (upd H a ob) h' a ob) :
   Inv X gV Z (upd H a ob) { s with heap:=h',toks:=t' } :=
 I.write (x:=a) (e:=a) mu (.inl rfl) (λb q hb z=>(hs.2 b hb).trans z) he new
theorem F1 (z:kvs.length<=aal)(hd:(a == acg)=false)(Tz:KV kvs vs)(dd:h'.DictOf (cX P w) a vs) :
   bX P w H' h' a (.dK kvs):=⟨z,hd,vs,Tz,dd⟩
theorem Gh {H':Hp}{Q:Unit->Shared->Prop}(hu:A.units+1<cLine)(I:Inv X gV Z H s)(g:tQ H a y v H')(ry:RelV y u)(rv:RelV v r)(h:∀ s',Inv X gV Z H' s'->Q () s') :
   wpAny (model X.prog X.w) A (setItem (.ref a) u r) Q E s:=by
 rcases g with ⟨kvs,k,e,ey,l,eH⟩ | ⟨kvs,k,b,e,ey,eb,l,eH⟩
 . subst ey eH;obtain ⟨z,hd,vs,Tz,dd⟩:=Po I.az e;have hz:vs.length<=aal:=by rw [<- Tz.length];exact z
   have hl:(putK kvs k v).length<=aal:=by have:=rX kvs k v;omega
   refine wpAny_setItem_pairs (hsz:=hz) (zg ry) dd λh' dd' hs=>h _ ?_;have he:∃ q,h'.get? a=some q:=let ⟨q,_,_,hq,_⟩:=dd';⟨q,hq⟩;exact Dr I (by rw[e];exact aas) hs he (F1 hl hd (Tz.put k rv) dd')
 . subst ey eH;cases (show u=S8 b from ry)
   obtain⟨z,hd,xs,Tz,dd⟩:=P8 I.az e;have hz:xs.length<=aal:=by rw[<- adD Tz];exact z
   have hl:(putK kvs k v).length<=aal:=by have:=rX kvs k v;omega
   refine wpAny_setItem_heap (hsz:=hz) (tupleKind_room_in1 hu) (uD I.az eb) dd λh' dd' hs=>h _ ?_;obtain⟨q,es,ep,hq,h2,h3,h4,_,h5⟩:=dd';refine Dr I (by rw[e];exact aas) hs ⟨q,hq⟩ ⟨hl,hd,_,(Tz.put k eb rv).keeps λc ys ec=>?_,q,es,ep,hq,h2,h3,h4,h5⟩;rw[ai (Kx ec e (λz=>nomatch z))];exact ec
end
section
variable {X:Cx} {gV:List (Addr×Obj)} {Z : St} {H:Hp} {s:Shared} {a:Addr} {kvs:List (Key×V)} {k:Key} {u:Value} {A:Around} {E:Value->Shared->Prop}
variable {Q:Value->Shared->Prop}
theorem Qp (I:Inv X gV Z H s)(e:Rd H a (.dK kvs))(h:∀ t s',Inv X gV Z H s'->Q (.int kvs.length t) s'):wpAny (model X.prog X.w) A (call (.builtin "len") [.ref a]) Q E s:=by
 obtain⟨z,hd,vs,Tz,dd⟩:=kT I.az e;refine call_len_dict hd dd (by rw[<- Tz.length];rw[aaI] at z;omega) ?_;rw[<- Tz.length];exact h _ _ (I.tok _)
end
def NQ (i:Expr):Prop:=∀ ov iv,subscripted i false ov iv=operate [ov,iv] (getItem ov iv)
theorem LN {prog:Program}{w:World}{A:Around}{E:Value->Shared->Prop}{s:Shared}{env:Env}{value Tc:Expr}{pos:Pos}{T id:String}{Q:Value->Shared->Prop}
   (hl:typeLookup (.type T) "__getitem__" = pure (some (.builtin id))) (hs:NQ Tc)
   (h:wpAny (model prog w) A (eval value env) (λo s₁=>wpAny (model prog w) A (eval Tc env) (λi s₂=>s₂.TypeIs o T/\wpAny (model prog w) A (getItem o i) Q E s₂) E s₁) E s) :
   wpAny (model prog w) A (eval (.Subscript value Tc pos) env) Q E s:=by
 refine Subscript_ (aaH h (λo s₁ h₁=>aaH h₁ (λi s₂ h₂=>?_) λ_ _ x=>x) λ_ _ x=>x);obtain⟨hT,h₂⟩:=h₂;unfold subscriptTail;refine aad ?_;rw[getitemInPython_of_ne hT.not_modules];refine aad (wpAny_specialOf hT hl ?_);have S0:wpAny (model prog w) A (subscripted Tc false o i) (λr s₃=>wpAny (model prog w) A (letTemporaryGo value o r >>= λ_=>pure r) Q E s₃) E s₂:=by
   rw[hs o i];exact wpAny_operating (aaH h₂ (λr s₃ h₃=>aad (wpAny_letTemporaryGo (aak h₃))) λ_ _ x=>x)
 first
   | exact aak (aad S0)
   | exact aad (aak (aad S0))
   | exact aad S0
variable {s:Shared} {gV:List (Addr×Obj)}
theorem Cy (I:Inv X gV Z H s)(g:fY H a y o):s.TypeIs (.ref a) "dict":=by
 rcases g with ⟨kvs,k,e,_,_⟩ | ⟨kvs,k,b,e,_,_,_⟩
 . obtain⟨_, _, vs, _, dd⟩ := kT I.az e;exact dd.typeIs
 . obtain⟨_, _, xs, _, dd⟩ := zf I.az e;exact dd.typeIs
def Kb (td ty:TE):TE:=λZ H Q=>td Z H λx H1=>ty Z H1 λy H2=>∃ a v,x=.ref a/\fY H2 a y (some v)/\Q v H2
def Nu (ty td:TE):TE:=λZ H Q=>ty Z H λy H1=>td Z H1 λx H2=>∃ a o,x=.ref a/\fY H2 a y o/\Q (.bl o.isSome) H2
def JQ (td ty tv:TE):TS:=λD Z H=>tv Z H λv H1=>td Z H1 λx H2=>ty Z H2 λy H3=>∃ a H4,x=.ref a/\tQ H3 a y v H4/\D.nx Z H4
section
variable {X:Cx} {o i e value:Expr} {pos Ts TH:Pos} {td ty tv:TE}
theorem qF (hu:X.A.units+1<cLine)(ho:PE X o td)(hi:PE X i ty)(hs:NQ i):PE X (.Subscript o i pos) (Kb td ty):=by
 intro gV s Z H Q I h;refine LN PySem.F.slot_dict_getitem.lookup hs (aQ (ho gV s Z H _ I h) λu s1 zq=>bN zq λx H1 I1 rx q1=>aQ (hi gV s1 Z H1 _ I1 q1) λiv s2 zq=>?_);obtain⟨y,H2,I2,ry,a,v,ex,g,q2⟩:=zq;subst ex;obtain rfl:u=S8 a:=rx;exact⟨Cy I2 g,FR hu I2 g ry λw' s3 I3 VT=>⟨v,H2,I3,VT,q2⟩⟩
theorem zN (hu:X.A.units+1<cLine)(hi:PE X i ty)(ho:PE X o td):PC X .In i o (Nu ty td):=by
 intro gV s Z H Q I h;refine aQ (hi gV s Z H _ I h) λiv s1 zq=>bN zq λy H1 I1 ry q1=>aQ (ho gV s1 Z H1 _ I1 q1) λu s2 zq=>?_;obtain⟨x,H2,I2,rx,a,ov,ex,g,q2⟩:=zq;subst ex;obtain rfl:u=S8 a:=rx;exact RK hu I2 g ry λs3 I3=>⟨.bl ov.isSome,H2,I3,rfl,q2⟩
theorem wN (hu:X.A.units+1<cLine)(ho:PE X o td)(hi:PE X i ty)(hv:PE X value tv)(hs:acW value (some (.Subscript o i Ts)) pos.line X.env=pure false) :
   PS X (.Assign [.Subscript o i Ts] value pos) (JQ td ty tv):=by
 intro gV s Z H D I h;refine wpAny_Assign_Subscript (aQ (hv gV s Z H _ I h) λr s1 zq=>bN zq λv H1 I1 rv q1=>aQ (ho gV s1 Z H1 _ I1 q1) λu s2 zq=>bN zq λx H2 I2 rx q2=>aQ (hi gV s2 Z H2 _ I2 q2) λiv s3 zq=>?_) hs;obtain⟨y,H3,I3,ry,a,H4,ex,g,q3⟩:=zq;subst ex;obtain rfl:u=S8 a:=rx;exact Gh hu I3 g ry rv λs4 I4=>⟨Z,H4,I4,q3⟩
end
theorem Hl (h:Heap)(hb:acg<h.objs.size):bX P w H (h.push { cls:=.type "dict",data:=.dict #[] }) h.objs.size (.dK []) :=
 ⟨aaX _,beq_eq_false_iff_ne.mpr (Ne.symm (aaC hb)),[],.nil,Heap.DictOf.new h⟩
def GD:TE:=λ_ H Q=>∀ p,H p=none->Q (.ref p) (upd H p (.dK []))
section
variable {X:Cx} {pos:Pos}
theorem zj:PE X (.Dict [] [] pos) GD:=λgV s Z H Q I h =>
 wpAny_Dict_empty ⟨.ref s.heap.objs.size,_,I.laid (a:=s.heap.objs.size) (o:=.dK []) (t':=s.toks) (λ_ _ q=>aaf _ q) (aah _) (Hl s.heap I.zU),rfl,h _ (I.az.fresh (aah _))⟩
end
section
variable {X:Cx} {gV:List (Addr×Obj)} {Z : St} {H:Hp} {s:Shared} {a:Addr} {kvs:List (Key×V)} {A:Around} {E:Value->Shared->Prop}
variable {Q:Value->Shared->Prop}
theorem Jb (I:Inv X gV Z H s)(e:Rd H a (.dK kvs))(h:∀ p s',H p=none->Inv X gV Z (upd H p (.dK kvs)) s'->Q (.ref p) s'):wpAny (model X.prog X.w) A (call (.type "dict") [.ref a]) Q E s:=by
 obtain⟨z,hd,vs,Tz,dd⟩:=kT I.az e;refine kt_call_dict hd dd (by rw[<- Tz.length];exact z) λh' dd' hs=>?_;refine h _ _ (I.az.fresh (aah _)) (I.laid (a:=s.heap.objs.size) (o:=.dK kvs) (t':=s.toks) (λb q hq=>?_) (aah _) (F1 z (beq_eq_false_iff_ne.mpr (Ne.symm (aaC I.zU))) Tz dd'));exact(hs.2 b (aaC (aap hq))).trans (aaf _ hq)
end
end L2
namespace Att
open PySem PySem.W PySem.Calls PyProof.Rows
theorem uK:∀ (ns:List Int) (vs:List Value),WellAll P h vs (ns.map WData.int)->IntsAre vs ns:=by
 intro ns
 induction ns with
 | nil =>
   intro vs w;rw[List.map_nil] at w;cases w
   exact .nil
 | cons n ns ih =>
   intro vs w;rw[aaN] at w;cases w with
   | cons a b =>
     cases a
     exact .cons _ _ (ih _ b)
theorem E2 {l:OpenLaw}{n:Nat}(hn:l.most=some n){P:Params}{h:Heap}{args:List WData}{vals:List Value}
   (hpre:l.row.toRowW.claim.pre args=true) (hwl:WellAll P h vals args) :
   ∃ a vs ns,vals=[S8 a]/\args=[WData.list (ns.map WData.int)]/\h.get? a=some { cls:=.type "list",data:=.seq vs.toArray }/\IntsAre vs ns/\ns.length<=n:=by
 have hsh:WShape.hasAll [] args [.list .int]=true:=(pre_splitW hpre).1;have hc:l.pre.holds [] { args:=args }=true:=(pre_splitW hpre).2;obtain⟨d,r,rfl,h1,h2⟩:=hasAllW_cons hsh;obtain rfl:=hasAllW_nil h2;obtain⟨xs,rfl,h3⟩:=hasW_list h1;obtain⟨ns,rfl⟩:=items_int h3;have SO:ns.length<=n:=by
   unfold OpenLaw.pre at hc;have h4:(WTm.not (.lt (.lit (.int (n:Int))) (.len (.arg 0)))).holds [] { args:=[.list (ns.map .int)] }=true:=by
     have h4:=(holds_andW hc).1;rw[hn] at h4;exact h4
   have h5:=condW_of h4 (w_not (w_lt w_lit (w_len_list (w_arg rfl))));rw[aac] at h5;refine Nat.le_of_not_lt λq=>?_;have q':(n:Int)<((ns.length:Nat):Int):=by omega
   first
     | (rw[decide_eq_true q'] at h5;exact absurd h5 (by decide))
     | (simp at h5;omega)
 cases hwl with
 | cons w1 w2 =>
   cases w2
   cases w1 with
   | list ho hall=>exact⟨_,_,ns,rfl,rfl,ho,uK ns _ hall,SO⟩
theorem Fz (l:OpenLaw)(args:List WData):l.row.toRowW.claim.post args (.bool true) args=true :=
 postW_of (r:=l.row.toRowW) (X:=(true == true))
   (show WShape.has [] (.bool true) .bool=true by first | rfl | decide | simp[WShape.has,WShape.arms,WShape.armsAll])
   (show(WTm.eq .res (.lit (.bool true))).value [] { args:=args,res:=some (.bool true),after:=args }=some (.bool (true == true)) from w_eq_bool (w_res rfl) w_lit) rfl
theorem BX {l:OpenLaw}{n:Nat}{q:Program}{Uq:List Str}{XP:(Str->Option Value)->Heap->Prop}{YP:World->Heap->Prop}{d:DefRec}
   (hn:l.most=some n) (hdf:d.params.defaults=[])
   (call:∀ (w:World) (s₀ s₁ : Shared) (mg mb:Str->Option Value) (fa:Addr) (o:Obj) (pm cd SU:Value) (a:Addr) (vs:List Value) (ns:List Int),
     Ground q Uq [] XP w s₀ mg mb s₁.heap->YP w s₁.heap ->
     s₁.heap.get? fa=some o->o.data=.func (docDef d.name d.params d.body d.scope pm cd SU)->s₁.heap.CodeRec cd d.name->mg d.name=some (.ref fa) ->
     s₁.heap.get? a=some { cls:=.type "list",data:=.seq vs.toArray }->IntsAre vs ns->ns.length<=n->s₁.gens = #[] ->
     codeAny (model l.prog w) callerA (.call (.ref fa) ⟨[.ref a],[]⟩) (λr s'=>r=.ok (.ret (.bool true))/\OldK s₁.heap s'.heap/\s'.os=s₁.os/\AllBare s'.gens) s₁) :
   WalkO q Uq XP YP l.row.toRowW d [] (λf vs=>PySem.call f vs):=by
 intro w s₀ s₁ mg mb G Y fa o pm cd SU dV kV ho hd Tp hD hmg hg args vals as hpre hlay hrd hwl hlo;obtain rfl:dV=.none:=Dflts.none hD hdf;obtain rfl:kV=.none:=Dflts.noKw hD;obtain⟨a,vs,ns,rfl,rfl,hobj,Wu,SO⟩:=E2 hn hpre hwl;refine enter_call (abV (call w s₀ s₁ mg mb fa o pm cd SU a vs ns G Y ho (fd_plain hd) Tp hmg hobj Wu SO hg) λr s' hq=>?_);obtain⟨rfl,h2,h3,h4⟩:=hq;exact⟨.inl ⟨.bool true,.bool true,[],rfl,λ_=>rfl,.bool true,Fz l _,λ_=>⟨List.Pairwise.nil,λ_ hm=>(nomatch hm)⟩⟩,h2,h3,h4⟩
end Att
namespace L2
open PySem PySem.Spec PyProof.Rows
theorem x_:∀ {vs:List Value} {ns:List Int},IntsAre vs ns->aI (ns.map V.int) vs
 | _,_,.nil=>.nil
 | _,_,.cons n t h=>.cons ⟨t,rfl⟩ (x_ h)
def Hy (H:Hp):Prop:=∀ b,H b=none∨∃ o xs,H b=some (.kE o (.lst xs))
theorem Im {P:Program}{w:World}{K:W.Frag}{mg mb:Str->Option Value}{CX:dQ}{k:Nat}{fa a:Addr}{fd:aa3}{x:Str}{sp:Sp}{s₁ : Shared}{vs:List Value}{ns:List Int}
   (KX:K.In s₁.heap) (hns:s₁.heap.Ns aa4 mg) (hb:s₁.heap.Ns builtinsNs mb) (hbb:∀ x:Str,x ≠ "__name__"->mb x=aaY x) (hlim:s₁.heap.NoLimit) (hg:s₁.gens = #[])
   (ha:s₁.heap.get? a=some { cls:=.type "list",data:=.seq vs.toArray }) (hi:IntsAre vs ns) (hl:ns.length<=aal) (hr:bG k callerA)
   (F:∀ base:Heap,K.In base->base.Ns aa4 mg->c6 P w K mg base CX k fa fd [x] sp) (hbind:∀ (s:Shared) (u:Value),BindsTo s fd ⟨[u],[]⟩ [(x,u)])
   (UC:∀ H:Hp,Hy H->aq K H a (ns.map V.int)->sp [.ref a] H (λv _=>v=.bl true) λ_ _ _=>False)
   (hCX:∀ H e s',CX [] H s₁ (λ_ _ _=>False) e s'->False) :
   codeAny (model P w) callerA (.call (.ref fa) ⟨[.ref a],[]⟩) (λr s'=>r=.ok (.ret (.bool true))/\OldK s₁.heap s'.heap/\s'.os=s₁.os/\AllBare s'.gens) s₁:=by
 have rv:=x_ hi;have lenV:=hi.length
 -- from an abstract heap in which nothing but the script may be UB
 have core : ∀ H : Hp, Hy H -> aq K H a (ns.map V.int) -> de P w H s₁.heap -> (∀ b, H b ≠ none -> b = a) -> (H a ≠ none -> K.lookup a = none) ->
     codeAny (model P w) callerA (.call (.ref fa) ⟨[.ref a],[]⟩) (λr s'=>r=.ok (.ret (.bool true))/\OldK s₁.heap s'.heap/\s'.os=s₁.os/\AllBare s'.gens) s₁:=by
   intro H hO hS az hA hK;have Vt:∀ {b:Addr} {o:Obj},s₁.heap.get? b=some o->H b=none->(nj s₁.heap H).get? b=some o:=λe n=>HN e n;have noA:∀ {b:Addr} {o:Obj} {es:Array DictEntry} {ep:Nat},s₁.heap.get? b=some o->o.data=.dict es ep->H b=none:=λ{b o es ep} e d=>by
     cases q:H b with
     | none=>rfl
     | some u =>
       have e':b=a:=hA b (by rw[q];simp);subst e';rw[ha] at e;cases e;have d':Data.seq vs.toArray _=Data.dict es ep:=d;cases d'
   have nsK:∀ {b:Addr} {m:Str->Option Value},s₁.heap.Ns b m->(nj s₁.heap H).Ns b m:=λ{b m} ⟨o,es,ep,e,d,r⟩=>⟨o,es,ep,Vt e (noA e d),d,r⟩;have hKb:K.In (nj s₁.heap H):=λb o e=>Vt (KX b o e) (by
     cases q:H b with
     | none=>rfl
     | some u =>
       have e':b=a:=hA b (by rw[q];simp);subst e';rw[hK (by rw[q];simp)] at e;cases e)
   have hM:Mod K mg (nj s₁.heap H):=⟨hKb,nsK hns,⟨mb,nsK hb,hbb⟩,let ⟨mc,h1,h2⟩:=hlim;⟨mc,nsK h1,h2⟩⟩
   have e0:tD P w K mg (nj s₁.heap H) callerA [] s₁ H:=⟨rfl,hM,λb o e=>KQ e,acz (GH _ _),trivial,λb hb=>absurd (show b∈([]:List Addr) from hb) (by simp),az,.of_eq hg⟩
   refine abV ((F _ hKb (nsK hns)).run callerA [] s₁ H ⟨[.ref a],[]⟩ [.ref a] [.ref a] _ _ hr e0 (hbind s₁ (.ref a)) (.cons rfl .nil) (UC H hO hS)) λr s' h=>?_;cases r with
   | error e=>exact(hCX H e s' h).elim
   | ok fl =>
     cases fl with
     | next=>exact aaW h
     | brk=>exact aaW h
     | cont=>exact aaW h
     | ret u =>
       obtain⟨v,H',os,bare,un,hok',r',q⟩:=h;have q':v=.bl true:=q;subst q';obtain rfl:u=adi true:=r';refine⟨rfl,OldK.of_keep λb o e=>?_,os,bare⟩;cases q:H b with
       | none=>exact un.keep b o e q (by intro z;exact absurd (show b∈([]:List Addr) from z) (by simp)) (by simp)
       | some u =>
         rcases hO b with z | ⟨ob,xs,z⟩
         . rw[q] at z;cases z
         . have z2 := un.iZ b ob _ z;obtain⟨e1,_⟩:=az b _ z;obtain⟨e2,_⟩:=hok' b _ z2;rw[e] at e1;cases e1;exact e2
 cases hk:K.lookup a with
 | some o =>
   -- the script is one of the module's own objects
   have e:=KX a o hk;rw[ha] at e;cases e
   refine core (λ_=>none) (λ_=>.inl rfl) (.inr ⟨_,vs.toArray,_,hk,rfl,rfl,rfl,by rw[aam,lenV];exact hl,by simpa using rv⟩) (λb u z=>by have z':(none:Option HO)=some u:=z;cases z') (λb z=>absurd rfl z) λz=>absurd rfl z
 | none =>
   refine core (λb=>if b=a then some (.kE { cls:=.type "list",data:=.seq vs.toArray } (.lst (ns.map V.int))) else none) (λb=>?_) (.inl (.inr ⟨{ cls:=.type "list",data:=.seq vs.toArray },if_pos rfl⟩)) (λb u z=>?_) (λb z=>?_) λ_=>hk
   . by_cases hb:b=a
     . exact .inr ⟨_,_,if_pos hb⟩
     . exact .inl (if_neg hb)
   . by_cases hb:b=a
     . have z' := (if_pos hb).symm.trans z;cases z'
       subst hb;exact⟨ha,by rw[aac];exact hl,vs,_,rv,ha⟩
     . have z' := (if_neg hb).symm.trans z;cases z'
   . by_cases hb:b=a
     . exact hb
     . exact absurd (if_neg hb) z
abbrev JL {K:W.Frag}{h:Heap}(_:K.In h):W.Frag:=K
theorem K0 {l:W.OpenLaw}{n k:Nat}{q:Program}{Uq:List Str}{XP:(Str->Option Value)->Heap->Prop}{YP:World->Heap->Prop}{d:DefRec}{K:Params->W.Frag}{CX:World->dQ}{sp:World->Sp}{x:Str}
   (hn:l.most=some n) (hn2:n<=aal) (hdf:d.params.defaults=[]) (hr:bG k callerA)
   (hY:∀ (w:World) (h:Heap),YP w h->(K w.params).In h)
   (F:∀ (w:World) (mg:Str->Option Value) (fa:Addr) (h:Heap),(K w.params).In h->h.Ns aa4 mg->mg d.name=some (.ref fa) ->
     ∃ fd:aa3,(∀ (s:Shared) (u:Value),BindsTo s fd ⟨[u],[]⟩ [(x,u)]) /\
       ∀ base:Heap,(K w.params).In base->base.Ns aa4 mg->c6 l.prog w (K w.params) mg base (CX w) k fa fd [x] (sp w))
   (UC:∀ (w:World) (H:Hp) (a:Addr) (ns:List Int),ns.length<=n->Hy H->aq (K w.params) H a (ns.map V.int)->sp w [.ref a] H (λv _=>v=.bl true) λ_ _ _=>False)
   (hCX:∀ (w:World) (H:Hp) (s:Shared) (e:Value) (s':Shared),CX w [] H s (λ_ _ _=>False) e s'->False) :
   W.WalkO q Uq XP YP l.row.toRowW d [] (λf vs=>PySem.call f vs):=by
 refine Att.BX hn hdf λw s₀ s₁ mg mb fa o pm cd SU a vs ns G Y ho hd Tp hmg hobj Wu SO hg=>?_;have KX:=hY w _ Y;obtain⟨fd,hb,hF⟩:=F w mg fa _ KX G.T.g hmg;exact Im KX G.T.g G.T.b G.T.builtins G.T.nolimit hg hobj Wu (aaJ SO hn2) hr hF hb (λH hO hS=>UC w H a ns SO hO hS) λH e s'=>hCX w H s₁ e s'
def inClass (s:Stmt)(j:Nat):Stmt:=match s with
 | .ClassDef _ _ _ body _ _ _ _ _ _ _=>body.getD j (.Pass ⟨0,0,0,0⟩)
 | _=>.Pass ⟨0,0,0,0⟩
def aY (s:Stmt):Arguments:=match s with
 | .FunctionDef _ a _ _ _ _ _ _ _ _=>a
 | _=>{ posonlyargs:=[],args:=[],vararg:=none,kwonlyargs:=[],kw_defaults:=[],kwarg:=none,defaults:=[] }
def aP (s:Stmt):List Stmt:=match s with
 | .FunctionDef _ _ b _ _ _ _ _ _ _=>b
 | _=>[]
def ag (s:Stmt):Scope:=match s with
 | .FunctionDef _ _ _ _ _ _ sc _ _ _=>sc
 | _=>{ kind:=.function,names:=[],isGenerator:=false,isCoroutine:=false }
abbrev bJ:dQ:=λ_ _ _ _ _ _=>False
abbrev E0:XK:=λ_ _ _=>False
theorem bQ:dY bJ X E0:=λ_ _ _ _ _ _ _ h=>h.elim
structure eC (K:W.Frag)(x qual:Str)(st:Stmt)(f:Addr)(fd:aa3):Prop where
 ex:∃ (oc:Value) (od:Option Addr) (kV SU pm:Value) (an:Option Addr) (SN ct:Value) (Tj:Array (Option Value)),
   fd=W.fnOf x qual (aY st) (aP st) (ag st) .none kV SU pm an SN ct/\K.lookup f=some ⟨oc,od,.func fd,Tj⟩/\abN K SN qual=true
 kp:abc K (.ref f)=true
section
variable {P:Program} {w:World} {K:W.Frag} {mg:Str->Option Value} {base:Heap}
variable {x:Str}
theorem eC.ok {qual:Str}{st:Stmt}{f:Addr}{fd:aa3}{N ps:List Str}{k:Nat}{sp:Sp}(F:eC K x qual st f fd)(S:ao N ps (ag st))(len:∀ vs H Q E,sp vs H Q E->vs.length=ps.length)
   (SR:∀ (SN:Value) (A:Around) (outer:List Env) (s:Shared) (H:Hp) (vs:List V) (Q:VK) (E:XK),bG k (A.deeper (envOfC qual (ag st) s.heap.objs.size f SN))->sp vs H Q E ->
     ∃ t,gw (bU bJ P w K mg base N qual (ag st) f SN A outer s H E).eZ (aP st) t/\t { nx:=λ_ H'=>Q .aA H',rt:=Q } (start N vs) H):c6 P w K mg base bJ (k+1) f fd ps sp:=by
 obtain⟨oc,od,kV,SU,pm,an,SN,ct,Tj,rfl,lk,Tp⟩:=F.ex;refine qO lk Tp S len λA outer s H vs Q E hr UC=>?_;obtain⟨t,h,q⟩:=SR SN A outer s H vs Q E hr UC;exact⟨t,h.eZ,q⟩
theorem eC.binds {qual:Str}{st:Stmt}{f:Addr}{fd:aa3}{ps:List Str}(F:eC K x qual st f fd)
   (h:∀ (kV SU pm:Value) (an:Option Addr) (SN ct:Value) (us:List Value),us.length=ps.length->abR (W.fnOf x qual (aY st) (aP st) (ag st) .none kV SU pm an SN ct) ⟨us,[]⟩=pure (ps.zip us)):Binds K fd ps []:=by
 obtain⟨oc,od,kV,SU,pm,an,SN,ct,Tj,rfl,lk,Tp⟩:=F.ex;exact .all (h kV SU pm an SN ct)
theorem gS {qual:Str}{st:Stmt}{f:Addr}{oc:Value}{od an:Option Addr}{Tj:Array (Option Value)}{kV SU pm SN ct:Value}(l:K.lookup f=some ⟨oc,od,.func (W.fnOf x qual (aY st) (aP st) (ag st) .none kV SU pm an SN ct),Tj⟩)
   (c:abN K SN qual=true) (k:abc K (.ref f)=true):eC K x qual st f (W.fnOf x qual (aY st) (aP st) (ag st) .none kV SU pm an SN ct):=⟨⟨oc,od,kV,SU,pm,an,SN,ct,Tj,rfl,l,c⟩,k⟩
end
theorem iC (hr:bG k A):A.units+1<cLine:=abe (Nat.add_le_add_left (by decide : 1<=64) _) hr.units
section
variable {X:Cx}
variable {x:Str}
theorem pv (i : Nat)(hN : X.N[i]? = some x := by rfl)(hv : NK X.env.scope x := by first | exact Or.inl rfl | exact Or.inr (Or.inl rfl) | exact Or.inr (Or.inr rfl))(hd : (x == ("__debug__" : Str)) = false := by decide)
   (Tp:(x == ("__classdict__" : Str))=false:=by decide):PE X (.Name x pos) (aC i):=FK hN hv hd Tp
theorem GO:cG X (.builtin "len") (λxs H Q=>∃ a kvs,xs=[V.ref a]/\H a=some (.dK kvs)/\Q (.int kvs.length) H):=by
 intro gV s Z H xs us Q I r h;obtain⟨a,kvs,rfl,ha,q⟩:=h;obtain⟨u,rfl,ru⟩:=vals1 r;cases ru
 exact Qp I (.inl ha) λt s' I'=>⟨.int kvs.length,H,I',⟨t,rfl⟩,q⟩
end
theorem RI {A B:Prop}(h:B):if false=true then A else B:=by
 rw[if_neg aan];exact h
theorem RL {A B:Prop}(h:A):if true=true then A else B:=by
 rw[if_pos rfl];exact h
def ak (H H':Hp):Prop:=∀ b o,H b=some o->H' b=some o
theorem ak.refl (H:Hp):ak H H:=λ_ _ h=>h
theorem ak.trans (a:ak H H1)(b:ak H1 H2):ak H H2:=λc o h=>b c o (a c o h)
theorem ak.seq {K:W.Frag}{H H':Hp}{a:Addr}{xs:List V}(e:ak H H')(h:aq K H a xs):aq K H' a xs:=by
 rcases h with (h | ⟨o,h⟩) | h
 . exact .inl (.inl (e _ _ h))
 . exact .inl (.inr ⟨o,e _ _ h⟩)
 . exact .inr h
end L2
namespace Bt
theorem Mj (a b:Nat)(h:a &&& b=0):a+b=a ||| b:=by
 have ha:a<2 ^ (a+b+1):=aay adJ (acI (by decide) (by omega));have hb:b<2 ^ (a+b+1):=aay adJ (acI (by decide) (by omega));have hab:a+b<2 ^ (a+b+1):=aay adJ (acI (by decide) (by omega));have e:=BitVec.add_eq_or_of_and_eq_zero (BitVec.ofNat (a+b+1) a) (BitVec.ofNat (a+b+1) b) (by
   apply BitVec.eq_of_toNat_eq;rw[BitVec.toNat_and,acO,acO,acG ha,acG hb,h]
   simp)
 have e2:=congrArg BitVec.toNat e;rw[BitVec.toNat_or,BitVec.toNat_add,acO,acO,acG ha,acG hb,acG hab] at e2;exact e2
def wo (s p:Nat):Nat:=s - (s &&& p)
theorem Pn (s p:Nat):wo s p=s ^^^ (s &&& p):=by
 unfold wo;have h:(s ^^^ (s &&& p))+(s &&& p)=s:=by
   have e:(s ^^^ (s &&& p)) &&& (s &&& p)=0:=by
     apply abi;intro i;simp only[aaS,Nat.testBit_xor,ab2];cases s.testBit i <;> cases p.testBit i <;> rfl
   rw[Mj _ _ e];apply abi;intro i;simp only[adE,aaS,Nat.testBit_xor];cases s.testBit i <;> cases p.testBit i <;> rfl
 omega
theorem jH (s p i:Nat):(wo s p).testBit i=(s.testBit i && !p.testBit i):=by
 rw[Pn];simp only[aaS,Nat.testBit_xor];cases s.testBit i <;> cases p.testBit i <;> rfl
end Bt
namespace L3
open PySem PySem.Spec PyProof.Rows L2
abbrev St:=L2.St
def gD (its:List Value):Obj:={ cls:=.type "list",data:=.seq its.toArray its.length }
theorem Hb (its:List Value)(y:Value):({ cls:=.type "list",data:=.seq (its.toArray.push y) (its.length+1) }:Obj)=gD (its++[y]):=by
 show({ cls:=.type "list",data:=.seq (its.toArray.push y) (its.length+1) }:Obj)={ cls:=.type "list",data:=.seq (its++[y]).toArray (its++[y]).length }
 rw[aab,aaG,List.push_toArray]
section
variable {prog:Program} {w:World} {A:Around} {R:Result->Shared->Prop} {s:Shared}
theorem Cv (I:Nat->Shared->Prop)
   (U8 : ∀ n s, I n s -> wpAny (model prog w) A (pyNext it) (λr s1 => match r with
     | none=>R (.ok .next) s1
     | some v=>wpAny (model prog w) A (adI Ud it v) (λ_ s2=>wpAny (model prog w) A (assign Ud env v) (λ_ s3 =>
         wpAny (model prog w) A (forIn Vl true λc r=>if r=true then do let ok <- isTrue c env (eval c env);pure (acB ok) else pure (acB r)) (λok s4 =>
           if ok=true then wpAny (model prog w) A (eval VR env) (λx s5 =>
             wpAny (model prog w) A (call (.builtin "list.append") [T3,x]) (λ_ s6=>∃ m,m<n/\I m s6) (notedBy (model prog w) A env λe s'=>R (.error e) s') s5) (notedBy (model prog w) A env λe s'=>R (.error e) s') s4
           else ∃ m,m<n/\I m s4) (notedBy (model prog w) A env λe s'=>R (.error e) s') s3) (notedBy (model prog w) A env λe s'=>R (.error e) s') s2)
         (notedBy (model prog w) A env λe s'=>R (.error e) s') s1) (notedBy (model prog w) A env λe s'=>R (.error e) s') s)
   (n:Nat) (h:I n s) :
   codeAny (model prog w) A (.compLoop (.ListComp VR [⟨Ud,iter,Vl,0⟩] scope pos) 0 it T3 env) R s:=by
 refine codeAny_loop rfl I (λn s hI=>?_) n h;show wpAny _ A ((compTurn (.ListComp VR [⟨Ud,iter,Vl,0⟩] scope pos) 0 it T3 env).onRaise (λx=>do noteFrame x env;theTreesLotGoes x)) _ _ s;refine wpAny_noted ?_;rw[compTurn_list];refine aad (acu (aad (aaH (U8 n s hI) (λr s1 h1=>?_) λ_ _ h'=>h')));cases r with
 | none=>exact aak h1
 | some v =>
   refine aad (aaH h1 (λ_ s2 h2=>?_) λ_ _ h'=>h');refine aad (aaH h2 (λ_ s3 h3=>aad (aaH h3 (λok s4 h4=>?_) λ_ _ h'=>h')) λ_ _ h'=>h');cases ok with
   | false=>exact aak ⟨rfl,h4⟩
   | true =>
     exact aad (aad (aaH h4 (λx s5 h5=>aad (aaH h5 (λ_ s6 h6=>aak (aak ⟨rfl,h6⟩)) λ_ _ h'=>h')) λ_ _ h'=>h'))
end
def ck (X:Cx)(scope:Scope)(cl:List (Str×Addr))(own:List Str)(fr:List (Str×Nat))(C:Addr)(s2:Shared)(H2:Hp)(fp:List Addr):Cx :=
 { prog:=X.prog,w:=X.w,K:=X.K,mg:=X.mg,base:=X.base,A:=X.A,N:=own++fr.map (·.1),s₀:=s2,H₀:=H2,env:=compEnvC scope cl C X.env,outer:=X.stack,stack:=X.stack,
   ex:=fp,fn:=λ_=>false,calm:=X.calm,pn:=[],xe:=λ_ _=>False }
def lF (own:List Str)(fr:List (Str×Nat))(Z : St):St:=own.map (λ_=>none)++fr.map λp=>(Z[p.2]?).join
def Bg (env:Env):List (Str×Addr)->Prop
 | []=>True
 | (n,c)::r=>env.cells.lookup n=some c/\Bg env r
theorem Bg.get:∀ {cl:List (Str×Addr)} {x:Str} {c:Addr},Bg env cl->cl.lookup x=some c->env.cells.lookup x=some c
 | [],_,_,_,h=>by simp at h
 | (n, d) :: r, x, c, ok, h => by
   rw[aa8] at h;cases e:x == n with
   | true =>
     rw[e] at h;have e':x=n:=by simpa using e
     cases h
     rw[e'];exact ok.1
   | false =>
     rw[e] at h;exact Bg.get ok.2 h
def yV (sc:Scope)(x:Str):Prop:=sc.names.lookup x=some .cell∨sc.names.lookup x=some .free
def AJ (X:Cx)(scope:Scope)(cl:List (Str×Addr)):List (Str×Nat)->Prop
 | []=>True
 | (x,j)::r=>(X.N[j]? = some x/\yV X.env.scope x/\yV (relabel scope X.env) x/\(cl.lookup x).isSome=true)/\AJ X scope cl r
variable {scope:Scope} {X:Cx}
theorem AJ.get:∀ {fr:List (Str×Nat)} {i:Nat} {p:Str×Nat},AJ X scope cl fr->fr[i]? = some p ->
   X.N[p.2]? = some p.1/\yV X.env.scope p.1/\yV (relabel scope X.env) p.1/\(cl.lookup p.1).isSome=true
 | [],_,_,_,h=>by simp at h
 | (x, j) :: r, 0, p, ok, h => by
   simp at h;subst h;exact ok.1
 | (x,j)::r,i+1,p,ok,h=>AJ.get (i:=i) ok.2 (by simpa using h)
structure Az (X:Cx)(scope:Scope)(cl:List (Str×Addr))(own:List Str)(fr:List (Str×Nat)):Prop where
 OZ:closureFor scope X.env=pure cl
 cells:Bg X.env cl
 cR:AJ X scope cl fr
 kind:scope.kind=.function
 Fm:∀ y∈scope.names,y.2≠.cell
 names:∀ y∈scope.names,y.2=.local->scope.names.lookup y.1=some .local
 has:(scope.names.all λy=>y.2 != .free || (cl.lookup y.1).isSome)=true
theorem iQ {env:Env}{cl:List (Str×Addr)}:∀ {names:List (Str×NameKind)} {x:Str},(∀ y∈names,y.2≠.cell)->(names.all λy=>y.2 != .free || (cl.lookup y.1).isSome)=true ->
   ((names.map λ(n, k) => if (k == acT && env.scope.kind == .function && env.kindOf n == some .cell) then (n, NameKind.cell) else (n, k)).lookup x = some .cell ∨
    (names.map λ(n,k)=>if (k == acT && env.scope.kind == .function && env.kindOf n == some .cell) then (n,NameKind.cell) else (n,k)).lookup x=some .free)->∃ c,cl.lookup x=some c
 | [],_,_,_,h=>by rcases h with h | h <;> simp at h
 | (n, k) :: r, x, nc, ha, h => by
   rw[acH,aaM] at ha;have ih:=@iQ env cl r x (λy hy=>nc y (aa0 _ hy)) ha.2;have nk:k≠.cell:=nc (n,k) abu;have hk:=ha.1;cases hx:x == n with
   | true =>
     have ex:x=n:=by simpa using hx
     subst ex;by_cases hf:k=.free
     . subst hf;have z:(cl.lookup x).isSome=true:=by simpa using hk
       exact Option.isSome_iff_exists.mp z
     . exfalso
       have hb:(k == acT)=false:=by simpa using hf
       rcases h with h | h
       . rw[aaN] at h;simp only[hb,Bool.false_and,acQ,if_false,aa8,beq_self_eq_true] at h;exact nk (aaw h)
       . rw[aaN] at h;simp only[hb,Bool.false_and,acQ,if_false,aa8,beq_self_eq_true] at h;exact hf (aaw h)
   | false =>
     refine ih ?_;rcases h with h | h
     . left
       rw[aaN] at h;by_cases hc:(k == acT && env.scope.kind == .function && env.kindOf n == some .cell)=true
       . simp only[hc,if_true,aa8,hx] at h;exact h
       . simp only[hc,acQ,if_false,aa8,hx] at h;exact h
     . right
       rw[aaN] at h;by_cases hc:(k == acT && env.scope.kind == .function && env.kindOf n == some .cell)=true
       . simp only[hc,if_true,aa8,hx] at h;exact h
       . simp only[hc,acQ,if_false,aa8,hx] at h;exact h
def Fb (Y:Cx)(Vl:List Expr)(t:TT):Prop :=
 ∀ (gV:List (Addr×Obj)) (s:Shared) (Z : St) (H:Hp) (Q:Bool->Hp->Prop),Inv Y gV Z H s->t Z H Q ->
   wpAny (model Y.prog Y.w) Y.A (forIn Vl true λc r=>if r=true then do let ok <- isTrue c Y.env (eval c Y.env);pure (acB ok) else pure (acB r)) (TP Y gV Z Q) Y.xe s
@[reducible] def y8:TT:=λ_ H Q=>Q true H
theorem c_:Fb Y [] y8:=λ_ _ _ H _ I h=>wpAny_tests_nil ⟨H,I,h⟩
theorem wF (h:PT Y c t):Fb Y [c] t:=λgV s Z H Q I hw=>wpAny_tests_one (h gV s Z H Q I hw)
def Ep (own:List Str)(fr:List (Str×Nat))(wi:TI)(g:TG)(tc:TT)(te:TE)(S0:List V->Hp->Prop):St->Hp->Prop:=λZ H=>wi Z H λJ H1 =>
 ∃ W:Nat->Nat->List V->St->Hp->Prop,(∃ m,W 0 m [] (lF own fr Z) H1)/\∀ i m ys Z' H',W i m ys Z' H' ->
   (J.stop i H'/\ys.length<=aal/\S0 ys H') ∨
   (J.go i H'/\∃ N:List V->St->Hp->Prop,(∀ Vd Z2 H2,N Vd Z2 H2->Vd.length<=aal/\∃ m',m'<m/\W (i+1) m' Vd Z2 H2) /\
     ∀ x H2,J.rT i H' x H2->g x Z' H2 λZ3 H3=>tc Z3 H3 λb H4=>if b=true then te Z3 H4 λy H5=>N (ys++[y]) Z3 H5 else N ys Z3 H4)
structure Off (X:Cx)(gV:List (Addr×Obj))(H:Hp)(C:Addr):Prop where
 none:H C=none
 loc:C≠X.env.locals
 above:X.s₀.heap.objs.size<=C
 cell:∀ x c,X.env.cells.lookup x=some c->c≠C
 pin:∀ p∈X.pn++gV,p.1≠C
section
variable {X:Cx} {tg VR iter:Expr} {Vl:List Expr} {scope:Scope} {cl:List (Str×Addr)} {own:List Str} {fr:List (Str×Nat)} {wi:TI} {g:TG} {tc:TT} {te:TE} {pos:Pos}
theorem xS (hc:X.calm=true)(S:Az X scope cl own fr)(hi:PI X tg iter wi)(hg:∀ C s2 H2 fp,PG (ck X scope cl own fr C s2 H2 fp) tg g)
   (ht:∀ C s2 H2 fp,Fb (ck X scope cl own fr C s2 H2 fp) Vl tc) (he:∀ C s2 H2 fp,PE (ck X scope cl own fr C s2 H2 fp) VR te)
   {gV:List (Addr×Obj)} {s:Shared} {Z : St} {H:Hp} {S0:List V->Hp->Prop} (I:Inv X gV Z H s) (h:Ep own fr wi g tc te S0 Z H)
   {RR:Value->Addr->Result->Shared->Prop}
   (hR:∀ (D C:Addr) (s4:Shared) (H3:Hp) (ys:List V) (m:Str->Option Value),H3 D=none->Inv X gV Z (upd H3 D (.lst ys)) s4->s4.heap.Ns C m->Off X gV (upd H3 D (.lst ys)) C->S0 ys H3->RR (.ref D) C (.ok .next) s4) :
   wpAny (model X.prog X.w) X.A (eval iter X.env) (λx s1=>wpAny (model X.prog X.w) X.A (pyIter x) (λitv s2=>wpAny (model X.prog X.w) X.A (newList []) (λT3 s3 =>
     wpAny (model X.prog X.w) X.A (newFunctionEnv scope X.env.globals cl [] X.env.qual none .none (some X.env)) (λcenv s4 =>
       codeAny (model X.prog X.w) X.A (.compStart (.ListComp VR [⟨tg,iter,Vl,0⟩] scope pos) 0 itv T3 { cenv with scope:=relabel scope X.env }) (RR T3 cenv.locals) s4) X.xe s3) X.xe s2) X.xe s1) X.xe s:=by
 refine aQ (hi gV s Z H _ I h) λv s1 h1=>aQ h1 λitv s2 h2=>?_;obtain⟨it,fp,tn,J,H2,rfl,I2,T,WO,f2,W,⟨m0,w0⟩,U8⟩:=h2;refine abp (wpAny_newFunctionEnv S.Fm (by intro y hy;simp at hy) (λh1 hns1 hsb1=>?_) S.kind);dsimp only at hns1 hsb1 ⊢;generalize hHP:s2.heap.push { cls:=.type "list",dict:=none,data:=.seq ([]:List Value).toArray }=HP at hns1 hsb1 ⊢;have hC:HP.objs.size=s2.heap.objs.size+1:=by rw[<- hHP,abY]
 have hDC:s2.heap.objs.size≠HP.objs.size:=by rw[hC];exact aaC (ab5 _)
 have below:∀ b,b<s2.heap.objs.size->b≠HP.objs.size/\b≠s2.heap.objs.size:=λb hb=>⟨by rw[hC];exact aaC (acv hb),aaC hb⟩;have Vu:∀ b o,s2.heap.get? b=some o->h1.get? b=some o:=λb o e=>hsb1.extBut b o (below b (aap e)).1 (aaf _ (hHP ▸ aaf _ e));have UR:h1.get? s2.heap.objs.size=some (gD []):=hsb1.extBut _ _ hDC (aaf _ (hHP ▸ aau _ rfl));have hfpo:∀ b∈fp,b<s2.heap.objs.size:=λb hb=>by obtain⟨o,e,_⟩:=T.obj 0 _ WO b hb;exact aap e
 have Tt:∀ x c,cl.lookup x=some c->X.env.cells.lookup x=some c:=λx c e=>S.cells.get e;have hcD:∀ x c,X.env.cells.lookup x=some c->c<s2.heap.objs.size:=λx c e=>by obtain⟨v,q⟩:=I2.cell x c e;exact q.lt
 have st1:tn 0 h1:=T.keep _ _ _ WO λb _ o e=>Vu b o e;have hDfree:H2 s2.heap.objs.size=none:=I2.az.fresh (aah _);have hCfree:H2 HP.objs.size=none:=I2.az.fresh (by rw[hC];exact abn _);have nostk:∀ b,s2.heap.objs.size<=b->b ∉ L2.cR X.stack:=λb hb hm=>by
   rcases List.mem_cons.mp (I2.pS b hm) with e | e
   . exact absurd I2.lt (by rw[<- e];exact Nat.not_lt.mpr hb)
   . exact I2.Nz hb e
 have hDlt:s2.heap.objs.size<h1.objs.size:=aap UR
 -- the block's context
 have YOk:(ck X scope cl own fr HP.objs.size s2 H2 fp).Ok:=by
   refine ⟨I2.ok.mod,S.kind,I2.ok.glob,I2.ok.blt,?_,λx y c e1 e2=>I2.ok.inj x y c (Tt _ _ e1) (Tt _ _ e2),λx hx=>?_,λx c hf=>?_,I2.ok.hd,I2.ok.frames,.inl rfl,λb hb=>⟨?_,λx c e=>?_⟩,
     I2.bs,aaJ I2.ok.rG I2.sz,λb o e hb=>?_,λb hb hm=>?_,I2.stack,I2.mK⟩
   . show s2.heap.objs.size <= HP.objs.size;rw[hC];exact abn _
   . exact iQ (env:=X.env) S.Fm S.has hx
   . cases hf
   . exact(below b (hfpo b hb)).1
   . exact(f2 b hb).2.2.2.2.1 x c (Tt _ _ e)
   . rcases(f2 b hb).2.2.2.1 with z | z
     . exact I2.ok.tW b o e z
     . exact absurd (aap (I2.ok.bs b o e).1) (Nat.not_lt.mpr z)
   . rcases List.mem_cons.mp (I2.pS b hm) with e | e
     . exact(f2 b hb).2.1 e
     . exact(f2 b hb).2.2.1 e
 have hpinD : ∀ {h' : Heap} {its : List Value} {H' : Hp}, h'.get? s2.heap.objs.size = some (gD its) -> H' s2.heap.objs.size = none -> ∀ p ∈ ([(s2.heap.objs.size, gD its)] : List (Addr × Obj)),
     h'.get? p.1=some p.2/\H' p.1=none/\p.1≠HP.objs.size/\p.1 ∉ L2.cR X.stack/\∀ v,p.2.data≠.cell v:=λ{h' its H'} e n p hp=>by
   have e1:p=(s2.heap.objs.size,gD its):=by simpa using hp
   subst e1;exact⟨e,n,hDC,nostk _ (aah _),λv z=>by cases z⟩
 have IY:Inv (ck X scope cl own fr HP.objs.size s2 H2 fp) [(s2.heap.objs.size,gD [])] (lF own fr Z) H2 { s2 with heap:=h1,toks:=s2.toks+([]:List (Str×Value)).length }:=by
   refine⟨YOk,rfl,I2.bare,Un.kept Vu,⟨_,hns1,λi x v e1 e2 e3=>?_⟩,λx c e=>?_,hCfree,λx c e=>I2.fQ x c (Tt _ _ e),hpinD UR hDfree,I2.az.kept Vu,?_⟩
   . have WM : (own ++ fr.map (·.1))[i]? = some x := e1;have e2':(own.map (λ_=>(none:Option V))++fr.map λp=>(Z[p.2]?).join)[i]? = some (some v):=e2;by_cases UU:i<own.length
     . rw[aao (by simpa using UU), aag] at e2';rw[aaa UU] at e2';cases e2'
     . rw[aaq (by simpa using UU), aag] at e2';rw[aaq (Nat.not_lt.mp UU),aag] at WM;rw[aac] at e2';cases ef:fr[i - own.length]? with
       | none=>rw[ef] at WM;cases WM
       | some p =>
         rw[ef] at WM e2';have ex:p.1=x:=aaw WM;have ev:(Z[p.2]?).join=some v:=aaw e2';obtain⟨hN,hk,TQ,hs⟩:=S.cR.get ef;have eZ : Z[p.2]? = some (some v):=by
           cases q : Z[p.2]? with
           | none=>rw[q] at ev;cases ev
           | some o=>rw[q] at ev;exact congrArg some ev
         obtain⟨m,hn,hl⟩:=I2.loc;obtain⟨u,r,l⟩:=hl p.2 p.1 v hN eZ (by rcases hk with k | k;exact .inr (.inl k);exact .inr (.inr k));subst ex;obtain⟨c,ec⟩:=Option.isSome_iff_exists.mp hs;refine⟨u,r,.inr ⟨TQ,c,ec,?_⟩⟩;rcases l with ⟨VB,_⟩ | ⟨_,c',ec',z⟩
         . have hl1' : X.env.scope.names.lookup p.1 = some .local := VB;rcases hk with z | z
           . rw[z] at hl1';cases hl1'
           . rw[z] at hl1';cases hl1'
         . have := Tt _ _ ec;rw[ec'] at this;cases this
           exact z.keeps Vu
   . obtain⟨v, z⟩ := I2.cell x c (Tt _ _ e);exact⟨v,z.keeps Vu⟩
   . show (own.map (λ_ => (none : Option V)) ++ fr.map λp => (Z[p.2]?).join).length = (own ++ fr.map (·.1)).length
     simp
 have U_:∀ {its:List Value} {H':Hp},(∀ b∈fp,H' b=none)->∀ b∈fp,pI (ck X scope cl own fr HP.objs.size s2 H2 fp) [(s2.heap.objs.size,gD its)] H' b:=λ{its H'} hn b hb =>
   ⟨hn b hb,(below b (hfpo b hb)).1,λhm=>by
       rcases List.mem_cons.mp (I2.pS b hm) with e | e
       . exact(f2 b hb).2.1 e
       . exact(f2 b hb).2.2.1 e,.inl hb,λx c e=>(f2 b hb).2.2.2.2.1 x c (Tt _ _ e),λp hp=>by
       have e1:p=(s2.heap.objs.size,gD its):=by
         have hp':p∈([]:List (Addr×Obj))++[(s2.heap.objs.size,gD its)]:=hp
         simpa using hp'
       subst e1;exact(below b (hfpo b hb)).2.symm⟩
 have loop : ∀ s3 : Shared, s3 = { s2 with heap := h1, toks := s2.toks + ([] : List (Str × Value)).length } ->
     codeAny (model X.prog X.w) X.A (.compLoop (.ListComp VR [⟨tg,iter,Vl,0⟩] scope pos) 0 (.ref it) (.ref s2.heap.objs.size) (compEnvC scope cl HP.objs.size X.env)) (RR (.ref s2.heap.objs.size) HP.objs.size) s3:=by
   rintro s3 rfl
   refine Cv (λn s'=>∃ i ys its Z' H',Inv (ck X scope cl own fr HP.objs.size s2 H2 fp) [(s2.heap.objs.size,gD its)] Z' H' s'/\aI ys its/\tn i s'.heap/\(∀ b∈fp,H' b=none)/\W i n ys Z' H') ?_ m0
     ⟨0,[],[],lF own fr Z,H2,IY,.nil,st1,λb hb=>(f2 b hb).1,w0⟩
   rintro n s3 ⟨i,ys,its,Z3,H3,I3,rv,st3,fr3,w3⟩;rcases U8 i n ys Z3 H3 w3 with ⟨stop,hz,qn⟩ | ⟨go,N,hN,step⟩
   . refine aaH (T.done (ck X scope cl own fr HP.objs.size s2 H2 fp) rfl rfl rfl hc i _ s3 Z3 H3 (λ_ _=>False) I3 (U_ fr3) st3 stop) (λr s4 h4=>?_) λ_ _ f=>f.elim;obtain⟨hr,I4⟩:=h4;subst hr;obtain⟨eD,nD,_⟩:=I4.pin (s2.heap.objs.size,gD its) (by simp[ck]);obtain⟨m,hn,_⟩:=id I4.loc;have nC:H3 HP.objs.size=none:=I4.free;have bu:=I4.base;have J4:Inv X gV Z (upd H3 s2.heap.objs.size (.lst ys)) s4:=by
       refine I2.vz (ch:=fp) I4.os ⟨λb o e n hb hx=>bu.keep b o e n hb hx,λb o e n hb hx=>bu.slot b o e n hb hx,λb o e n hx=>?_,λb o e hx=>bu.there b o e hx,λb xs e=>?_,λb o u e=>?_,λb ps e=>?_⟩ ?_ I4.bare ?_
       . rw[ai (below b (aap e)).2];exact bu.free b o e n hx
       . have z := bu.jB b xs e;rw[ai (af z nD)];exact z
       . have z := bu.iZ b o u e;rw[ai (af z nD)];exact z
       . obtain⟨V9, z⟩ := bu.jJ b ps e;exact⟨V9,by rw[ai (af z nD)];exact z⟩
       . intro b o e;by_cases hb:b=s2.heap.objs.size
         . subst hb;rw[aa] at e;cases e
           exact⟨hz,its,its.length,rv,eD⟩
         . rw[ai hb] at e;exact(I4.az b o e).iT (λc u _ q=>q) (λc q=>by rw[ai (af q nD)];exact q) λc xs q=>by rw[ai (af q nD)];exact q
       . intro b hb;exact⟨(f2 b hb).2.2.2.1,(f2 b hb).2.1,(f2 b hb).2.2.2.2.1,(f2 b hb).2.2.2.2.2⟩
     refine hR _ _ s4 H3 ys m nD J4 hn ⟨?_,?_,?_,?_,?_⟩ qn
     . rw[ai hDC.symm];exact nC
     . exact abP (aay I2.lt (by rw[hC];exact abn _))
     . exact aaJ I2.sz (by rw[hC];exact abn _)
     . exact λx c e=>(below c (hcD x c e)).1
     . exact λp hp=>(below p.1 (aap (I2.pin p hp).1)).1
   . refine aaH (T.item (ck X scope cl own fr HP.objs.size s2 H2 fp) rfl rfl rfl hc i _ s3 Z3 H3 (λ_ _=>False) I3 (U_ fr3) st3 go) (λr s4 h4=>?_) λ_ _ f=>f.elim;obtain⟨u,hr,h4⟩:=h4;subst hr;refine aaH h4 (λ_ s5 h5=>?_) λ_ _ f=>f.elim;obtain⟨x,H5,I5,r5,y5,st5,fr5⟩:=h5;have I5':=I5.pinned (U_ fr5) (T.obj _ _ st5);refine aaH (hg _ _ _ _ _ s5 Z3 H5 x u _ I5' r5 (step x H5 y5)) (λ_ s6 h6=>?_) λ_ _ f=>f.elim;obtain⟨Z6,H6,I6,q6⟩:=h6;refine aaH (ht _ _ _ _ _ s6 Z6 H6 _ I6 q6) (λok s7 h7=>?_) λ_ _ f=>f.elim;obtain⟨H7,I7,q7⟩:=h7;have Wo:∀ {Z8:St} {H8:Hp} {s8:Shared} {l:List (Addr×Obj)},Inv (ck X scope cl own fr HP.objs.size s2 H2 fp) (l++iL fp s5.heap) Z8 H8 s8->tn (i+1) s8.heap/\∀ b∈fp,H8 b=none:=λ{Z8 H8 s8 l} I8=>by
       refine⟨T.keep _ _ _ st5 λb hb o e=>(I8.pin (b,o) (aax _ (aax _ (jc hb e)))).1,λb hb=>?_⟩;obtain⟨o,e,_⟩:=T.obj _ _ st5 b hb;exact(I8.pin (b,o) (aax _ (aax _ (jc hb e)))).2.1
     cases ok with
     | false =>
       rw[if_neg aan] at q7 ⊢;obtain⟨_,m',hm,w7⟩:=hN _ _ _ q7;exact⟨m',hm,i+1,ys,its,Z6,H7,I7.mO,rv,(Wo I7).1,(Wo I7).2,w7⟩
     | true =>
       rw[if_pos rfl] at q7 ⊢;refine aaH (he _ _ _ _ _ s7 Z6 H7 _ I7 q7) (λy s8 h8=>?_) λ_ _ f=>f.elim;obtain⟨yv,H8,I8,r8,n8⟩:=h8;obtain⟨hlt',m',hm,w8⟩:=hN _ _ _ n8;have SV:ys.length<aal:=by rw[aab] at hlt';exact hlt'
       obtain⟨eD,nD,nL,_,_⟩:=I8.pin (s2.heap.objs.size,gD its) (by simp[ck]);refine append_at (its:=its.toArray) (n:=its.length) (hsz:=by rw[aam,<- rv.length];exact ado SV) eD λh9 sb9 eD9=>?_;have I8p:Inv (ck X scope cl own fr HP.objs.size s2 H2 fp) (iL fp s5.heap) Z6 H8 s8:=I8.qS λp hp=>I8.pin p (aax _ (aax _ hp));have I9p:Inv (ck X scope cl own fr HP.objs.size s2 H2 fp) (iL fp s5.heap) Z6 H8 { s8 with heap:=h9 } :=
         I8p.turned (t':=s8.toks) (λb o hb e=>(sb9.2 b hb).trans e) nD nL (.inr (aah _)) (λx c e=>(below c (hcD x c (Tt _ _ e))).2) λp hp=>by
           have hp':p∈iL fp s5.heap:=by simpa [ck] using hp
           exact(below p.1 (hfpo _ (xM hp').1)).2
       have eD9':h9.get? s2.heap.objs.size=some (gD (its++[y])):=eD9.trans (congrArg some (Hb its y));have I9:Inv (ck X scope cl own fr HP.objs.size s2 H2 fp) [(s2.heap.objs.size,gD (its++[y]))] Z6 H8 { s8 with heap:=h9 }:=I9p.qS (hpinD eD9' nD);have K9:=Wo (l:=[]) (by simpa using I9p);exact⟨m',hm,i+1,ys++[yv],its++[y],Z6,H8,I9,rv.append (.cons r8 .nil),K9.1,K9.2,w8⟩
 exact codeAny_compStart_list (loop _ rfl) (T.self _ 0 _ _ _ st1 (loop _ rfl))
def FH (own:List Str)(fr:List (Str×Nat))(wi:TI)(g:TG)(tc:TT)(te:TE):TE:=λZ H Q=>Ep own fr wi g tc te (λys H3=>∀ p,H3 p=none->Q (.ref p) (upd H3 p (.lst ys))) Z H
theorem fA (hc:X.calm=true)(S:Az X scope cl own fr)(hi:PI X tg iter wi)(hg:∀ C s2 H2 fp,PG (ck X scope cl own fr C s2 H2 fp) tg g)
   (ht:∀ C s2 H2 fp,Fb (ck X scope cl own fr C s2 H2 fp) Vl tc) (he:∀ C s2 H2 fp,PE (ck X scope cl own fr C s2 H2 fp) VR te)
   (hs:∀ x,foldedSetIterable iter X.env x=pure x:=by intro _;rfl):PE X (.ListComp VR [⟨tg,iter,Vl,0⟩] scope pos) (FH own fr wi g tc te):=by
 intro gV s Z H Q I h;rw[eval_ListComp];refine wpAny_comprehension_free (use:=none) rfl hs S.OZ S.kind S.names ?_;refine xS hc S hi hg ht he I h λD C s4 H3 ys m nD J hn off q=>?_;refine⟨m,hn,λh' sb=>⟨.ref D,_,J.turned (t':=s4.toks) (λb o hb e=>(sb.2 b hb).trans e) off.none off.loc (.inr off.above) off.cell off.pin,rfl,q D nD⟩⟩
def uv (i:Nat)(own:List Str)(fr:List (Str×Nat))(wi:TI)(g:TG)(tc:TT)(te:TE):TS:=λD Z H=>Ep own fr wi g tc te (λys H3=>∀ p,H3 p=none->bh i (.ref p) Z (upd H3 p (.lst ys)) D.nx) Z H
theorem fw (hN:X.N.Nodup)(UU:X.N[i]? = some y)(hx:X.env.scope.names.lookup y=some .local)(hc:X.calm=true)(S:Az X scope cl own fr)(hi:PI X tg iter wi)(hg:∀ C s2 H2 fp,PG (ck X scope cl own fr C s2 H2 fp) tg g)
   (ht:∀ C s2 H2 fp,Fb (ck X scope cl own fr C s2 H2 fp) Vl tc) (he:∀ C s2 H2 fp,PE (ck X scope cl own fr C s2 H2 fp) VR te)
   (hsw:acW (.ListComp VR [⟨tg,iter,Vl,0⟩] scope pos) (some (.Name y py)) spos.line X.env=pure true:=by rfl)
   (hs:∀ x,foldedSetIterable iter X.env x=pure x:=by intro _;rfl):PS X (.Assign [.Name y py] (.ListComp VR [⟨tg,iter,Vl,0⟩] scope pos) spos) (uv i own fr wi g tc te):=by
 intro gV s Z H D I h;rw[exec_Assign_Name_used _ _ _ _ hsw];refine aad (acu (aad ?_));show wpAny _ X.A (do let _ <- comprehension (.ListComp VR [⟨tg,iter,Vl,0⟩] scope pos) scope X.env _ (newList []) false (eval iter X.env) (some (assign (.Name y py) X.env))) _ _ s;refine aad (aaH (wpAny_comprehension_free (use:=some (assign (.Name y py) X.env)) (Q:=λ_ s'=>SP X gV D .next s') rfl hs S.OZ S.kind S.names ?_) (λ_ s' hq=>aak (aak hq)) λ_ _ e=>e);refine xS hc S hi hg ht he I h λDa C s4 H3 ys m nD J hn off q=>?_;show wpAny _ X.A (assign (.Name y py) X.env (.ref Da)) _ _ _;refine wpAny_assign_Name (xC J hN UU (.inl hx) (v:=.ref Da) rfl (λs5 I5 VN=>?_) (.inr hx));obtain⟨a,sb,ha⟩:=VN;have nCa:C≠a:=by
   rcases ha with z | z
   . rw[z];exact off.loc
   . exact(off.cell _ _ z).symm
 refine⟨m,hn.sameBut sb nCa,λh' sb'=>⟨_,_,I5.turned (t':=s5.toks) (λb o hb e=>(sb'.2 b hb).trans e) off.none off.loc (.inr off.above) off.cell off.pin,(qo _ _ _ _).1 (q Da nD)⟩⟩
end
section
variable {K:W.Frag} {a:Addr} {xs:List V} {own:List Str} {fr:List (Str×Nat)} {g:TG} {tc:TT} {te:TE} {S0:List V->Hp->Prop} {Z : St} {H:Hp}
def iE (J:It)(g:TG)(tc:TT)(te:TE)(S0:List V->Hp->Prop)(Z0:St)(H1:Hp):Prop :=
 ∃ W:Nat->Nat->List V->St->Hp->Prop,(∃ m,W 0 m [] Z0 H1)/\∀ i m ys Z' H',W i m ys Z' H' ->
   (J.stop i H'/\ys.length<=aal/\S0 ys H') ∨
   (J.go i H'/\∃ N:List V->St->Hp->Prop,(∀ Vd Z2 H2,N Vd Z2 H2->Vd.length<=aal/\∃ m',m'<m/\W (i+1) m' Vd Z2 H2) /\
     ∀ x H2,J.rT i H' x H2->g x Z' H2 λZ3 H3=>tc Z3 H3 λb H4=>if b=true then te Z3 H4 λy H5=>N (ys++[y]) Z3 H5 else N ys Z3 H4)
variable {Z0:St}
theorem gf (Pv:Nat->List V->St->Hp->Prop)(h0:Pv 0 [] Z0 H)(hl:∀ i ys Z H,i<=xs.length->Pv i ys Z H->aq K H a xs/\ys.length<=aal)
   (hs:∀ i x ys Z H,xs[i]? = some x->Pv i ys Z H->g x Z H λZ3 H3=>tc Z3 H3 λb H4=>if b=true then te Z3 H4 λy H5=>Pv (i+1) (ys++[y]) Z3 H5 else Pv (i+1) ys Z3 H4)
   (hd:∀ ys Z H,Pv xs.length ys Z H->S0 ys H):iE (xO K a) g tc te S0 Z0 H:=by
 refine⟨λi m ys Z H=>m=xs.length - i/\i<=xs.length/\Pv i ys Z H,⟨xs.length,by simp,aaX _,h0⟩,?_⟩;rintro i m ys Z H ⟨rfl,hi,p⟩;obtain⟨q,hz⟩:=hl i ys Z H hi p;by_cases SV:i<xs.length
 . refine .inr ⟨⟨xs, xs[i], q, by simp[SV]⟩, Pv (i + 1), λVd Z2 H2 p' => ⟨(hl (i + 1) Vd Z2 H2 SV p').2, xs.length - (i + 1), by omega, rfl, SV, p'⟩, λx H2 y => ?_⟩;obtain⟨e,y⟩:=y;subst e;exact hs i x ys Z _ (y xs q) p
 . have e : i = xs.length := by omega
   subst e;exact .inl ⟨⟨xs,q,aah _⟩,hz,hd ys Z H p⟩
variable {n:Nat}
theorem eK {lo:Int}(Pv:Nat->List V->St->Hp->Prop)(h0:Pv 0 [] Z0 H)(hl:∀ i ys Z H,i<=n->Pv i ys Z H->ys.length<=aal)
   (hs:∀ i ys Z H,i<n->Pv i ys Z H->g (.int (lo+i)) Z H λZ3 H3=>tc Z3 H3 λb H4=>if b=true then te Z3 H4 λy H5=>Pv (i+1) (ys++[y]) Z3 H5 else Pv (i+1) ys Z3 H4)
   (hd:∀ ys Z H,Pv n ys Z H->S0 ys H):iE (oJ lo n) g tc te S0 Z0 H:=by
 refine⟨λi m ys Z H=>m=n - i/\i<=n/\Pv i ys Z H,⟨n,by simp,aaX _,h0⟩,?_⟩;rintro i m ys Z H ⟨rfl,hi,p⟩;by_cases SV:i<n
 . refine .inr ⟨SV, Pv (i + 1), λVd Z2 H2 p' => ⟨hl (i + 1) Vd Z2 H2 SV p', n - (i + 1), by omega, rfl, SV, p'⟩, λx H2 y => ?_⟩;obtain⟨e,y⟩:=y;subst e y;exact hs i ys Z _ SV p
 . have e : i = n := by omega
   subst e;exact .inl ⟨aah _,hl _ ys Z H hi p,hd ys Z H p⟩
end
open PySem PySem.Spec PyProof.Rows L2 PySem.SeqAt
variable {o:HO} {p q:Addr} {H:Hp}
theorem aj (hq:H q=some u)(hp:H p=none):upd H p o q=some u:=by
 rw[ai (af hq hp)];exact hq
theorem cf (Ui:q≠p)(hq:H q=u):upd H p o q=u:=by
 rw[ai Ui];exact hq
theorem bq (h:upd H p o q=none):H q=none/\q≠p:=by
 by_cases e:q=p
 . subst e;rw[aa] at h;cases h
 . rw[ai e] at h;exact⟨h,e⟩
theorem ae (h:H p=none):ak H (upd H p o):=λb u q=>aj q h
variable {H1:Hp}
theorem bK (s:ak H H1)(h:H p=none):ak H (upd H1 p o):=λb u q=>by
 rw[ai (af q h)];exact s b u q
variable {xs:List V} {H':Hp}
theorem cK {K:W.Frag}{a:Addr}(e:ak H H')(h:aJ K H a xs):aJ K H' a xs:=by
 rcases h with (h | ⟨o,h⟩) | h
 . exact .inl (.inl (e _ _ h))
 . exact .inl (.inr ⟨o,e _ _ h⟩)
 . exact .inr h
mutual
def Dp (K:W.Frag)(H:Hp):PyData->V->Prop
 | .none,v=>v=.aA
 | .bool b,v=>v=.bl b
 | .int i,v=>v=.int i
 | .str x,v=>v=.str x
 | .list ds,v=>∃ a xs,v=.ref a/\aq K H a xs/\dW K H ds xs
 | .tuple ds,v=>∃ a xs,v=.ref a/\aJ K H a xs/\dW K H ds xs
 | .dict _,_=>False
def dW (K:W.Frag)(H:Hp):List PyData->List V->Prop
 | [],vs=>vs=[]
 | d::ds,vs=>∃ v r,vs=v::r/\Dp K H d v/\dW K H ds r
end
theorem vm {K:W.Frag}:∀ ns:List Int,dW K H (ns.map acE) (ns.map V.int)
 | []=>by rw[List.map_nil,List.map_nil,dW]
 | n :: ns => by
   rw[aaN,aaN,dW];exact⟨_,_,rfl,by rw[Dp],vm ns⟩
theorem jl {K:W.Frag}{a:Addr}{ns:List Int}(h:aq K H a (ns.map V.int)):Dp K H (.list (ns.map acE)) (.ref a):=by
 rw[Dp];exact⟨a,_,rfl,h,vm ns⟩
theorem cE {K:W.Frag}(i:Int):Dp K H (.int i) (.int i):=by rw[Dp]
theorem oz {K:W.Frag}{a:Addr}{ds:List PyData}(h:aq K H a xs)(q:dW K H ds xs):Dp K H (.list ds) (.ref a):=by
 rw[Dp];exact⟨a,_,rfl,h,q⟩
theorem gB {K:W.Frag}{a:Addr}{ds:List PyData}(h:aJ K H a xs)(q:dW K H ds xs):Dp K H (.tuple ds) (.ref a):=by
 rw[Dp];exact⟨a,_,rfl,h,q⟩
theorem cL {K:W.Frag}:dW K H [] []:=by rw[dW]
theorem aS {K:W.Frag}{d:PyData}{ds:List PyData}{v:V}{r:List V}(h:Dp K H d v)(q:dW K H ds r):dW K H (d::ds) (v::r):=by
 rw[dW];exact⟨_,_,rfl,h,q⟩
theorem iF:∀ ns:List Int,aci (ns.map acE)=true
 | []=>rfl
 | n :: ns => by
   rw[aaN,aci,iF ns];rfl
theorem jf:∀ ns:List Int,ab9 (ns.map acE)=0
 | []=>rfl
 | n :: ns => by
   rw[aaN,ab9,jf ns];rfl
theorem shaped_ints (ns:List Int):shaped (.list (ns.map acE))=true:=by
 unfold shaped;rw[adp,iF,PyData.depth,jf];rfl
section
variable {X:Cx} {gV:List (Addr×Obj)} {Z : St} {H:Hp} {s:Shared}
mutual
theorem jM (I:Inv X gV Z H s):∀ (d:PyData) (v:V) (u:Value),Dp X.K H d v->RelV v u->∃ as,Reads s.heap u d as
 | .none, v, u, h, r => by
   rw[Dp] at h;subst h;cases (show u=abj from r);exact⟨_,.none⟩
 | .bool b, v, u, h, r => by
   rw[Dp] at h;subst h;cases (show u=adi b from r);exact⟨_,.bool b⟩
 | .int i, v, u, h, r => by
   rw[Dp] at h;subst h;obtain⟨t,e⟩:=(show ∃ t,u=abl i t from r);subst e;exact⟨_,.int i t⟩
 | .str x, v, u, h, r => by
   rw[Dp] at h;subst h;obtain⟨t,e⟩:=(show ∃ t,u=adH x t from r);subst e;exact⟨_,.str x t⟩
 | .list ds, v, u, h, r => by
   rw[Dp] at h;obtain⟨a,xs,e,hq,ha⟩:=h;subst e;cases (show u=S8 a from r)
   obtain⟨its,rv,pl,hz⟩:=I.list hq;obtain⟨o,ho,hc,n,hd⟩:=pl.isList;obtain⟨as,z⟩:=lE I ds xs its ha rv;exact⟨_,.list ho hc hd (by simpa using z)⟩
 | .tuple ds, v, u, h, r => by
   rw[Dp] at h;obtain⟨a,xs,e,hq,ha⟩:=h;subst e;cases (show u=S8 a from r)
   obtain⟨its,rv,pl,hz⟩:=I.tuple hq;obtain⟨o,ho,hc,n,hd⟩:=pl;obtain⟨as,z⟩:=lE I ds xs its ha rv;exact⟨_,.tuple ho hc hd (by simpa using z)⟩
 | .dict _,v,u,h,r=>by rw[Dp] at h;exact h.elim
theorem lE (I:Inv X gV Z H s):∀ (ds:List PyData) (vs:List V) (us:List Value),dW X.K H ds vs->aI vs us->∃ as,ReadsAll s.heap us ds as
 | [], vs, us, h, r => by
   rw[dW] at h;subst h;cases r;exact⟨_,.nil⟩
 | d :: ds, vs, us, h, r => by
   rw[dW] at h;obtain⟨v,rr,e,h1,h2⟩:=h;subst e;cases r with
   | cons r1 r2 =>
     obtain⟨as,z1⟩:=jM I d _ _ h1 r1;obtain⟨bs,z2⟩:=lE I ds _ _ h2 r2;exact⟨_,.cons z1 z2⟩
end
end
def Ob (K:W.Frag):R2:=λx y H Q=>∃ dx dy,Dp K H dx x/\Dp K H dy y/\shaped dx=true/\shaped dy=true/\Q (.bl (ach dx dy)) H
def Mv (K:W.Frag):R2:=λx y H Q=>∃ dx dy,Dp K H dx x/\Dp K H dy y/\shaped dx=true/\shaped dy=true/\Q (.bl (!PyData.eqv dx dy)) H
def fT (K:W.Frag):R2:=λx y H Q=>QN x y H Q∨Ob K x y H Q
def e_ (K:W.Frag):R2:=λx y H Q=>QJ x y H Q∨Mv K x y H Q
section
variable {X:Cx}
theorem OW (hu:X.A.units+64<cLine):bS X (aaT .Eq) (Ob X.K):=by
 intro gV s Z H x y v u Q I rx ry h;obtain⟨dx,dy,hx,hy,sx,sy,q⟩:=h;obtain⟨as,ra⟩:=jM I dx x v hx rx;obtain⟨bs,rb⟩:=jM I dy y u hy ry;exact eq_dataH ra rb sx sy hu ⟨.bl _,H,I,rfl,q⟩
theorem Mm (hu:X.A.units+64<cLine):bS X (aaT .NotEq) (Mv X.K):=by
 intro gV s Z H x y v u Q I rx ry h;obtain⟨dx,dy,hx,hy,sx,sy,q⟩:=h;obtain⟨as,ra⟩:=jM I dx x v hx rx;obtain⟨bs,rb⟩:=jM I dy y u hy ry;exact ne_dataH ra rb sx sy hu ⟨.bl _,H,I,rfl,q⟩
theorem Mx (hu:X.A.units+64<cLine):bS X (aaT .Eq) (fT X.K):=PD.or (OW hu)
theorem Gc (hu:X.A.units+64<cLine):bS X (aaT .NotEq) (e_ X.K):=P1.or (Mm hu)
end
theorem ya (d:PyData)(h:shaped d=true):d.canLay0=true:=(Bool.and_eq_true_iff.mp h).1
variable {Q:VK} {x y:V}
theorem JO {K:W.Frag}(h:EC x y=true)(q:Q (.bl (decide (x=y))) H):fT K x y H Q:=.inl ⟨h,q⟩
theorem JT {K:W.Frag}(h:EC x y=true)(q:Q (.bl (!decide (x=y))) H):e_ K x y H Q:=.inl ⟨h,q⟩
theorem DD {K:W.Frag}(d:PyData)(hx:Dp K H d x)(hy:Dp K H d y)(hs:shaped d=true)(q:Q (.bl true) H):fT K x y H Q :=
 .inr ⟨d,d,hx,hy,hs,hs,by rw[eqv_refl d (ya d hs)];exact q⟩
theorem PL {K:W.Frag}(d:PyData)(hx:Dp K H d x)(hy:Dp K H d y)(hs:shaped d=true)(q:Q (.bl false) H):e_ K x y H Q :=
 .inr ⟨d,d,hx,hy,hs,hs,by rw[eqv_refl d (ya d hs)];exact q⟩
def qN:V->Value
 | .ty n=>.type n
 | .ref a=>.ref a
 | _=>.none
theorem HV (r:RelV c u)(h:qN c≠.none):u=qN c:=by
 cases c <;> first | exact r | exact(h rfl).elim
def iW (K:W.Frag):List V->Hp->VK->Prop:=λxs H Q=>∃ x c t b,xs=[x,c]/\qN c≠.none/\bM K H x t/\acj K t (qN c)=some b/\Q (.bl b) H
theorem Jl:cG X (.builtin "isinstance") (iW X.K):=by
 intro gV s Z H xs us Q I r h;obtain⟨x,c,t,b,rfl,hc,ty,e,q⟩:=h;obtain⟨u,w',rfl,rx,rc⟩:=vals2 r;cases HV rc hc
 exact FA I rx ty e λtk=>⟨.bl b,H,I.tok _,rfl,q⟩
variable {b:Bool}
theorem eY {K:W.Frag}{c:V}{t:Value}(hc:qN c≠.none)(ty:bM K H x t)(e:acj K t (qN c)=some b)(q:Q (.bl b) H):iW K [x,c] H Q:=⟨x,c,t,b,rfl,hc,ty,e,q⟩
theorem Eu:typeLookup (.type "bool") "__index__" = pure (some (.builtin "int.__index__")):=by rw[typeLookup_type,builtinLookup_eq_fast];kernel_rfl
variable {s:Shared}
theorem oB {M : Model}{A : Around}{E : Value -> Shared -> Prop}{Q : Option Int -> Shared -> Prop}(h : Q (some (if b then 1 else 0)) s) :
   wpAny M A (acq (.bool b)) Q E s:=by
 unfold acq;refine aad (wpAny_specialOf (T:="bool") (show s.TypeIs (.bool b) "bool" from rfl) Eu ?_);show wpAny M A (asIndex (.bool b) >>= _) Q E s;refine aad (wpAny_of_eq (a:=if b then 1 else 0) rfl ?_);show wpAny M A (if (!Builtin.List.listFitsIndex (if b then 1 else 0))=true then _ else _) Q E s;rw[if_neg (by cases b <;> decide)];exact aak h
variable {l:Addr}
theorem qV {prog:Program}{w:World}{A:Around}{E:Value->Shared->Prop}{items:Array Value}{b:Bool}{x:Value}{Q:Value->Shared->Prop}(hl:s.heap.IsList l items)
   (hx:items[if b then 1 else 0]? = some x) (h:Q x s):wpAny (model prog w) A (getItem (.ref l) (.bool b)) Q E s:=by
 obtain⟨o,ho,hc,ne,hd⟩:=id hl;unfold getItem
 try with_reducible refine aa9 ?_
 first | refine aad (aak ?_) | skip
 refine aad (wpAny_sequenceKey hl.typeIs (by decide) ?_)
 refine aad (acw (name:=aae "__getitem__") hl.typeIs slot_list_getitem
   (acK slot_list_getitem hl.typeIs entry_list_getitem ?_ (args_list_getitem _ _)))
 show wpAny _ _ (acq (.bool b) >>= _) _ _ s;refine aad (oB ?_);cases b with
 | true =>
   have Wz:items[1]? = some x:=hx;show wpAny _ _ ((seqItemAt l 1 >>= λr=>pure (r.map (1,·))) >>= _) _ _ s;refine aad (aad (wpAny_seqItemAt ho hd (aak ?_)));rw[Wz]
   first
     | exact aad (aak (aak ⟨x,rfl,aak h⟩))
     | exact aak ⟨x,rfl,aak h⟩
 | false =>
   have Wz:items[0]? = some x:=hx;show wpAny _ _ ((seqItemAt l 0 >>= λr=>pure (r.map (0,·))) >>= _) _ _ s;refine aad (aad (wpAny_seqItemAt ho hd (aak ?_)));rw[Wz]
   first
     | exact aad (aak (aak ⟨x,rfl,aak h⟩))
     | exact aak ⟨x,rfl,aak h⟩
def ML (K:W.Frag):R2:=λx y H Q=>∃ p xs b v,x=.ref p/\y=.bl b/\aq K H p xs/\xs[if b then 1 else 0]? = some v/\Q v H
theorem KJ:nX X (ML X.K):=by
 intro value Tc gV s Z H x y v u Q I rx ry h hs;obtain⟨p,xs,b,z,rfl,rfl,hq,he,q⟩:=h;cases rx
 cases ry
 obtain⟨its,r,pl,hz⟩:=I.list hq;obtain⟨w,ew,VT⟩:=r.get he
 exact adA (x:=w) pl.isList.typeIs slot_list_getitem.lookup
   (qV (Q:=λr s'=>r=w/\EP X gV Z Q r s') pl.isList (by simpa using ew) ⟨rfl,z,H,I,VT,q⟩) hs
def dk (K:W.Frag):R2:=λx y H Q=>QL K x y H Q∨ML K x y H Q
theorem NG:nX X (dk X.K):=Ov.or KJ
variable {i:Int}
theorem cy {K:W.Frag}{v:V}(h:aq K H p xs)(e:b_ xs i=some v)(q:Q v H):dk K (.ref p) (.int i) H Q:=.inl (.inl ⟨p,xs,i,v,rfl,rfl,h,e,q⟩)
theorem uF {K:W.Frag}{v:V}(h:aJ K H p xs)(e:b_ xs i=some v)(q:Q v H):dk K (.ref p) (.int i) H Q:=.inl (.inr (.inl ⟨p,xs,i,v,rfl,rfl,h,e,q⟩))
def QX:R2:=λx y H Q=>∃ i j,x=.str i/\y=.str j/\i.length+j.length<=aal/\Q (.str (i++j)) H
def dP (K:W.Frag):R2:=λx y H Q=>nY (λi j=>.int (i+j)) x y H Q∨Mr x y H Q∨Kj K x y H Q∨QX x y H Q
theorem Lx:bS X (abB .Add) (dP X.K):=Oi.or (O3.or (KG.or Ec))
variable {j:Int}
theorem K1 {K:W.Frag}(q:Q (.int (i+j)) H):dP K (.int i) (.int j) H Q:=.inl q
theorem qR {K:W.Frag}{a b:Addr}{ys:List V}(ha:H a=some (.lst xs))(hb:H b=some (.lst ys))(hz:xs.length+ys.length<=aal)(q:∀ p,H p=none->Q (.ref p) (upd H p (.lst (xs++ys)))) :
   dP K (.ref a) (.ref b) H Q:=.inr (.inl ⟨a,b,xs,ys,rfl,rfl,ha,hb,hz,q⟩)
def Ad:R2:=λx y H Q=>rI A5 (λi j=>.int (i*j)) x y H Q∨Nb x y H Q
theorem Hs:bS X (abB .Mult) Ad:=Oy.or MU
theorem IP (h:A5 i j)(q:Q (.int (i*j)) H):Ad (.int i) (.int j) H Q:=.inl ⟨i,j,rfl,rfl,h,q⟩
def gO (K:W.Frag):V->Option Int->Option Int->Hp->VK->Prop:=λx lo hi H Q=>OJ K x lo hi H Q∨NJ K x lo hi H Q
theorem Mw:u_ X (gO X.K):=Lg.or NB
structure iR (P:Program)(w:World)(K:W.Frag)(mg:Str->Option Value)(base:Heap)(CX:dQ)(k:Nat)(x:Str)(sp:Sp):Prop where
 ex:∃ (f:Addr) (fd:aa3) (ps:List Str),c6 P w K mg base CX k f fd ps sp/\mg x=some (.ref f)/\abc K (.ref f)=true/\Binds K fd ps []
structure mT (P:Program)(w:World)(K:W.Frag)(mg:Str->Option Value)(base:Heap)(CX:dQ)(k:Nat)(C:Addr)(m:Str)(sp:Sp):Prop where
 cl:eg K C
 ex:∃ (f:Addr) (fd:aa3) (ps:List Str),BC K C m f/\c6 P w K mg base CX k f fd ps sp/\Binds K fd ps []
structure C0 (P:Program)(w:World)(K:W.Frag)(mg:Str->Option Value)(base:Heap)(CX:dQ)(k:Nat)(x:Str)(C:Addr)(sp:Sp):Prop where
 ex:∃ (f:Addr) (fd:aa3) (ps:List Str),Mk K C f/\c6 P w K mg base CX k f fd ps sp/\mg x=some (.ref C)/\Binds K fd ps []
variable {sp:Sp} {C:Addr}
theorem mT.mono {P:Program}{w:World}{K:W.Frag}{mg:Str->Option Value}{base:Heap}{CX:dQ}{j k:Nat}{m:Str}(M:mT P w K mg base CX j C m sp)(h:j<=k):mT P w K mg base CX k C m sp:=by
 obtain⟨f,fd,ps,a,b,c⟩:=M.ex;exact⟨M.cl,f,fd,ps,a,b.mono h,c⟩
@[reducible] def cm (sp:Sp) (E:XK) (t:TA):TE:=λZ H Q=>t Z H λvs H1=>sp vs H1 Q E
@[reducible] def Aj (C:Addr) (sp:Sp) (E:XK) (t:TA):TE:=λZ H Q=>t Z H λvs H1=>∀ x dx,H1 x=none->H1 dx=none->dx≠x ->
 sp (.ref x::vs) (upd (upd H1 dx (.own x)) x (.ins C dx [])) (λv H2=>v=.aA/\Q (.ref x) H2) E
def Eg (P:Program)(w:World)(K:W.Frag)(mg:Str->Option Value)(base:Heap)(CX:dQ)(k:Nat)(m:Str)(E:XK)(Z : St)(t:TA):V->Hp->VK->Prop:=λx H1 Q =>
 ∃ a C dx fs sp,x=.ref a/\H1 a=some (.ins C dx fs)/\fs.lookup m=none/\mT P w K mg base CX k C m sp/\t Z H1 λvs H2=>sp (.ref a::vs) H2 Q E
@[reducible] def bC (P:Program) (w:World) (K:W.Frag) (mg:Str->Option Value) (base:Heap) (CX:dQ) (k:Nat) (m:Str) (E:XK) (ta:TE) (t:TA):TE:=λZ H Q=>ta Z H λx H1=>Eg P w K mg base CX k m E Z t x H1 Q
section
variable {X:Cx} {CX:dQ} {k:Nat} {C:Addr} {sp:Sp} {E:XK} {x m:Str} {p pos SW:Pos} {e o:Expr} {es:List Expr} {ta:TE} {t:TA}
theorem be (G : iR X.prog X.w X.K X.mg X.base CX k x sp)(hr : bG k X.A)(hx : dY CX X E)(hg : Gl X x)(ha : PA X (e :: es) t)(Tn : (x == ("__debug__" : Str)) = false := by decide)
   (he:aai (e::es) X.env=(false,eval e X.env)::aai es X.env:=by rfl) (SS:(backTo pos (aai es X.env)).any (·.1)=false:=by rfl):PE X (.Call (.Name x p) (e::es) [] pos) (cm sp E t):=by
 obtain⟨f,fd,ps,F,hm,hk,hb⟩:=G.ex;have z:=KU (p:=p) (pos:=pos) F hr hg hm hk hb .nil hx ha Tn he SS;intro gV s Z H Q I h;refine z gV s Z H Q I ?_;have e1:J2 sp [] E t=cm sp E t:=by
   funext Z H Q
   show t Z H (λvs H1=>sp (vs++[]) H1 Q E)=t Z H (λvs H1=>sp vs H1 Q E);simp only[aaL]
 rw[e1];exact h
theorem Ax (G : C0 X.prog X.w X.K X.mg X.base CX k x C sp)(hr : bG (k + 1) X.A)(hx : dY CX X E)(hg : Gl X x)(ha : PA X (e :: es) t)(Tn : (x == ("__debug__" : Str)) = false := by decide)
   (he:aai (e::es) X.env=(false,eval e X.env)::aai es X.env:=by rfl) (SS:(backTo pos (aai es X.env)).any (·.1)=false:=by rfl):PE X (.Call (.Name x p) (e::es) [] pos) (Aj C sp E t):=by
 obtain⟨f,fd,ps,M,F,hm,hb⟩:=G.ex;have z:=CL (p:=p) (pos:=pos) M F hr hg hm hb .nil hx ha Tn he SS;intro gV s Z H Q I h;refine z gV s Z H Q I ?_;have e1:JR C sp [] E t=Aj C sp E t:=by
   funext Z H Q
   show t Z H (λvs H1=>∀ x dx,H1 x=none->H1 dx=none->dx≠x->sp (.ref x::(vs++[])) _ _ E)=t Z H (λvs H1=>∀ x dx,H1 x=none->H1 dx=none->dx≠x->sp (.ref x::vs) _ _ E);simp only[aaL]
 rw[e1];exact h
theorem Hr (he:PE X o ta)(hr:bG k X.A)(hx:dY CX X E)(ha:PA X (e::es) t)
   (S_:aai (e::es) X.env=(false,eval e X.env)::aai es X.env:=by rfl) (SS:(backTo pos (aai es X.env)).any (·.1)=false:=by rfl)
   (ht : eval (.Call (.Attribute o m SW) (e :: es) [] pos) X.env = (do
     let ov <- eval o X.env
     standAt SW.atName
     let (f,first) <- holding [ov] (acX ov m pl)
     ac2 pos f first (backTo pos (aai (e::es) X.env)) (ac3 pos (abU [] X.env))):=by rfl) :
   PE X (.Call (.Attribute o m SW) (e::es) [] pos) (bC X.prog X.w X.K X.mg X.base CX k m E ta t):=by
 intro gV s Z H Q I h;refine W.methodCall_KW (pl:=pl) (aQ (he gV s Z H _ I h) λu s1 zq=>?_) ht;obtain⟨x,H1,I1,rx,a,C,dx,fs,sp,ex,ea,l,M,q⟩:=zq;subst ex;obtain rfl:u=S8 a:=rx;obtain⟨f,fd,ps,hm,F,hb⟩:=M.ex;refine uk I1 ea M.cl hm l ?_;refine adx (first:=[.ref a]) (h₀:=X.base) I.ok.mod.vK hm.kp (aQ (ha pos gV s1 Z H1 _ I1 q) λus s2 zq=>bN zq λvs H2 I2 r q2=>⟨I2.df,?_⟩) S_ SS;exact zE (us:=.ref a::us) (vs:=.ref a::vs) F hr hb .nil hx I2 (.cons rfl r) (by rw[aaL];exact q2)
theorem Fu (he:PE X o ta)(hr:bG k X.A)(hx:dY CX X E)
   (ht : eval (.Call (.Attribute o m SW) [] [] pos) X.env = (do
     let ov <- eval o X.env
     standAt SW.atName
     let (f,first) <- holding [ov] (acX ov m pl)
     ac2 pos f first (backTo pos (aai [] X.env)) (ac3 pos (abU [] X.env))):=by rfl) :
   PE X (.Call (.Attribute o m SW) [] [] pos) (bC X.prog X.w X.K X.mg X.base CX k m E ta aO):=by
 intro gV s Z H Q I h;refine W.methodCall_KW (pl:=pl) (aQ (he gV s Z H _ I h) λu s1 zq=>?_) ht;obtain⟨x,H1,I1,rx,a,C,dx,fs,sp,ex,ea,l,M,q⟩:=zq;subst ex;obtain rfl:u=S8 a:=rx;obtain⟨f,fd,ps,hm,F,hb⟩:=M.ex;refine uk I1 ea M.cl hm l ?_;exact W.callWith_K0 (first:=[.ref a]) I1.df hm.kp (zE (us:=[.ref a]) (vs:=[.ref a]) F hr hb .nil hx I1 (.cons rfl .nil) q)
end
theorem je:aaY "len" = some (.builtin "len"):=by nofun
theorem Qq:aaY "all" = some (.builtin "all"):=by nofun
theorem pB:aaY "isinstance" = some (.builtin "isinstance"):=by nofun
theorem JE:aaY "max" = some (.builtin "max"):=by nofun
theorem Qt:aaY "int" = some (.type "int"):=by nofun
theorem F3:aaY "list" = some (.type "list"):=by nofun
theorem C4:aaY "tuple" = some (.type "tuple"):=by nofun
def tU (K:W.Frag):List V->Hp->VK->Prop:=λxs H Q=>∃ x n,xs=[x]/\MR K x H n/\Q (.int n) H
theorem Fh:cG X (.builtin "len") (tU X.K):=Jf
theorem fj {K:W.Frag}(h:aq K H p xs)(q:Q (.int xs.length) H):tU K [.ref p] H Q:=⟨.ref p,xs.length,rfl,.inl ⟨xs,h,rfl⟩,q⟩
def DR (K:W.Frag):List V->Hp->VK->Prop:=λxs H Q=>∃ p ys,xs=[.ref p]/\(aq K H p ys∨aJ K H p ys)/\∀ l,H l=none->Q (.ref l) (upd H l (.lst ys))
theorem DM:cG X (.type "list") (DR X.K):=AM
theorem Lu {K:W.Frag}(h:aq K H p xs)(q:∀ l,H l=none->Q (.ref l) (upd H l (.lst xs))):DR K [.ref p] H Q:=⟨p,xs,rfl,.inl h,q⟩
theorem Mg {K:W.Frag}(h:aJ K H p xs)(q:∀ l,H l=none->Q (.ref l) (upd H l (.lst xs))):DR K [.ref p] H Q:=⟨p,xs,rfl,.inr h,q⟩
def NL (g:Int->Int->Int):List V->Hp->VK->Prop:=λxs H Q=>∃ i j,xs=[.int i,.int j]/\Q (.int (g i j)) H
theorem yd (hc:X.calm=true):cG X (.builtin "max") (NL λi j=>if j > i then j else i):=Fk hc
theorem Qo (q:Q (.int (g i j)) H):NL g [.int i,.int j] H Q:=⟨i,j,rfl,q⟩
theorem Kg {K:W.Frag}{lo hi:Option Int}(h:aq K H p xs)(q:∀ l,H l=none->Q (.ref l) (upd H l (.lst (fS xs lo hi)))):gO K (.ref p) lo hi H Q:=.inl ⟨p,xs,rfl,h,q⟩
theorem y0 {K:W.Frag}{lo hi:Option Int}(h:aJ K H p xs)(hn : ¬ (HT.ba xs.length 0 lo=0/\HT.ba xs.length xs.length hi=xs.length))(q:∀ l,H l=none->Q (.ref l) (upd H l (.tup (fS xs lo hi)))) :
   gO K (.ref p) lo hi H Q:=.inr ⟨p,xs,rfl,h,hn,q⟩
def Jq (K:W.Frag)(x:V)(H:Hp)(Q:Bool->Hp->Prop):Prop:=∃ k,Jg K x H k/\Q k H
theorem Nk {K:W.Frag}{Q:Bool->Hp->Prop}(q:Q b H):Jq K (.bl b) H Q:=⟨b,rfl,q⟩
theorem N1 {K:W.Frag}{Q:Bool->Hp->Prop}(q:Q (i != 0) H):Jq K (.int i) H Q:=⟨_,rfl,q⟩
variable {A B:Prop}
theorem Qy (h:B):if (!true)=true then A else B:=h
theorem Pk (h:A):if (!false)=true then A else B:=h
theorem C_ {K:W.Frag}{a:Addr}(h:aq K H a xs)(hp:H p=none):aq K (upd H p o) a xs:=ak.seq (ae hp) h
theorem CQ {K:W.Frag}{a:Addr}(h:aJ K H a xs)(hp:H p=none):aJ K (upd H p o) a xs:=cK (ae hp) h
theorem Lf (s:ak H H')(h:H q=some u):H' q=some u:=s _ _ h
theorem uY {k:Int}{j:Nat}{v:V}{Q:Hp->Prop}(h:H p=some (.lst xs))(e:og xs.length k=some j)(q:Q (upd H p (.lst (xs.set j v)))):EL (.ref p) (.int k) v H Q:=⟨p,xs,k,j,rfl,rfl,h,e,q⟩
theorem tK (h:H l=some (.lst xs))(z:xs.length<aal)(q:Q .aA (upd H l (.lst (xs++[y])))):vR (.ref l) [y] H Q:=⟨l,xs,y,rfl,rfl,h,z,q⟩
theorem ty_list {K:W.Frag}(h:H p=some (.lst xs)):Du K "list" (.ref p) H:=.inl ⟨rfl,xs,aq.of h⟩
variable {R:It->Hp->Prop} {Z : St} {ta:TA}
@[reducible] def OF (K:W.Frag) (tl:TE):TI:=λZ H R=>tl Z H λx H1=>∃ a,x=.ref a/\(((∃ xs,aq K H1 a xs)/\R (xO K a) H1)∨((∃ xs,aJ K H1 a xs)/\R (Kq K a) H1))
theorem M3 (q:ta Z H λvs H1=>∃ j:Int,vs=[.int j]/\-(2 ^ 62)<=j/\j<2 ^ 62/\R (oJ 0 j.toNat) H1):nq ta Z H R:=q
theorem NF (q:ta Z H λvs H1=>∃ i j:Int,vs=[.int i,.int j]/\(-(2 ^ 62)<=i/\i<2 ^ 62/\-(2 ^ 62)<=j/\j<2 ^ 62)/\R (oJ i (j - i).toNat) H1):JC ta Z H R:=q
theorem O6 {tg l:Expr}{tl:TE}(hl:PE X l tl):PI X tg l (OF X.K tl):=by
 intro gV s Z H R I h;refine aQ (hl gV s Z H _ I h) λv s1 zq=>bN zq λx H1 I1 r1 q1=>?_;obtain⟨a,e,hq⟩:=q1;subst e;cases r1
 rcases hq with ⟨⟨xs,hq⟩,q⟩ | ⟨⟨xs,hq⟩,q⟩
 . obtain ⟨its, rv, p, hz⟩ := I1.list hq;refine abI p.isList ?_;refine ⟨s1.heap.objs.size,[s1.heap.objs.size],_,_,H1,rfl,I1.kept (t':=s1.toks) λb o e=>aaf _ e,E8 a _,⟨_,aau _ rfl,rfl,rfl⟩,λb hb=>?_,q⟩;have e:b=s1.heap.objs.size:=by simpa using hb
   subst e;exact I1.tO (aah _) (I1.az.fresh (aah _))
 . obtain ⟨its, rv, p, hz⟩ := I1.tuple hq;refine wpAny_pyIter_tuple (show s1.heap.IsTuple a its.toArray from p) ?_;refine ⟨s1.heap.objs.size,[s1.heap.objs.size],_,_,H1,rfl,I1.kept (t':=s1.toks) λb o e=>aaf _ e,DV a _,⟨_,aau _ rfl,rfl,rfl⟩,λb hb=>?_,q⟩;have e:b=s1.heap.objs.size:=by simpa using hb
   subst e;exact I1.tO (aah _) (I1.az.fresh (aah _))
section
variable {Z : St} {H:Hp} {Q:VK}
theorem GC {C:Int->Int->Prop}{g:Int->Int->V}(h:C i j)(q:Q (g i j) H):rI C g (.int i) (.int j) H Q:=⟨i,j,rfl,rfl,h,q⟩
theorem aK {P:Program}{w:World}{K:W.Frag}{mg:Str->Option Value}{base:Heap}{CX:dQ}{k:Nat}{m:Str}{E:XK}{t:TA}{dx:Addr}{fs:List (Str×V)}(h:H p=some (.ins C dx fs))(l:fs.lookup m=none)(M:mT P w K mg base CX k C m sp)
   (q:t Z H λvs H2=>sp (.ref p::vs) H2 Q E):Eg P w K mg base CX k m E Z t (.ref p) H Q:=⟨p,C,dx,fs,sp,rfl,h,l,M,q⟩
theorem GZ {K:W.Frag}{f:Str}{dx:Addr}{fs:List (Str×V)}{v:V}(h:H p=some (.ins C dx fs))(c:eg K C)(n:aX K C f)(l:fs.lookup f=some v)(q:Q v H):NV K f (.ref p) H Q:=⟨p,C,dx,fs,v,rfl,h,c,n,l,q⟩
end
section
variable {Z : St} {H:Hp} {Q:Bool->Hp->Prop}
@[reducible] def oU (K:W.Frag) (ta:TE):TT:=λZ H Q=>ta Z H λx H'=>Jq K x H' Q
theorem NC {a:Expr}{ta:TE}(ha:PE X a ta)(he:∀ Tw,isTrue a X.env Tw=(do let v <- Tw;standAt a.pos;holding [v] (truthy v)):=by intro _;rfl):PT X a (oU X.K ta):=HS ha he
end
section
variable {D:Ends} {Z : St} {H:Hp}
theorem LJ {K:W.Frag}{f:Str}{dx:Addr}{fs:List (Str×V)}(h:H p=some (.ins C dx fs))(c:eg K C)(n:aX K C f)(l:fs.length<1000)(q:D.nx Z (upd H p (.ins C dx (av f y fs)))):J1 K f y D Z (.ref p) H:=⟨p,C,dx,fs,rfl,h,c,n,l,q⟩
end
theorem cW [Decidable c](h1:c->A)(h2 : ¬ c->B):if decide c=true then A else B:=by
 by_cases h:c
 . rw[if_pos (decide_eq_true h)];exact h1 h
 . rw[if_neg (by rw[decide_eq_false h];exact aan)];exact h2 h
theorem vB [Decidable c](h1 : ¬ c->A)(h2:c->B):if (!decide c)=true then A else B:=by
 by_cases h:c
 . rw[if_neg (by rw[decide_eq_true h];decide)];exact h2 h
 . rw[if_pos (by rw[decide_eq_false h];rfl)];exact h1 h
theorem ky {a b:Int}(h1:a=b->A)(h2:a≠b->B):if decide (V.int a=V.int b)=true then A else B :=
 cW (λe=>h1 (by cases e;rfl)) λe=>h2 λz=>e (by rw[z])
theorem gQ {a b:Int}(h1:a≠b->A)(h2:a=b->B):if (!decide (V.int a=V.int b))=true then A else B :=
 vB (λe=>h1 λz=>e (by rw[z])) λe=>h2 (by cases e;rfl)
section
variable {P:Program} {w:World} {K:W.Frag} {mg:Str->Option Value} {base:Heap} {x qual:Str} {st:Stmt} {N ps:List Str} {sp:Sp} {C:Addr}
def Hn (P:Program)(w:World)(K:W.Frag)(mg:Str->Option Value)(base:Heap)(qual:Str)(st:Stmt)(N:List Str)(f:Addr)(SN:Value)(A:Around)(outer:List Env)(s:Shared)(E:XK)(Q:VK)(H:Hp)(vs:List V):Prop :=
 ∃ t,gw (bU bJ P w K mg base N qual (ag st) f SN A outer s H E).eZ (aP st) t/\t { nx:=λ_ H'=>Q .aA H',rt:=Q } (start N vs) H
def BodyOk (P:Program)(w:World)(K:W.Frag)(mg:Str->Option Value)(base:Heap)(k:Nat)(qual:Str)(st:Stmt)(N:List Str)(sp:Sp):Prop :=
 ∀ (f:Addr) (SN:Value) (A:Around) (outer:List Env) (s:Shared) (H:Hp) (vs:List V) (Q:VK) (E:XK),bG k (A.deeper (envOfC qual (ag st) s.heap.objs.size f SN))->sp vs H Q E ->
   Hn P w K mg base qual st N f SN A outer s E Q H vs
theorem a_ (k:Nat)(h:∃ f fd,eC K x qual st f fd/\mg x=some (.ref f)/\Binds K fd ps [])(S:ao N ps (ag st))(len:∀ vs H Q E,sp vs H Q E->vs.length=ps.length)
   (SR:BodyOk P w K mg base k qual st N sp):iR P w K mg base bJ (k+1) x sp:=by
 obtain⟨f,fd,F,hm,hb⟩:=h;exact⟨f,fd,ps,F.ok S len (SR f),hm,F.kp,hb⟩
theorem ay (k:Nat)(c:eg K C)(h:∃ f fd,eC K x qual st f fd/\BC K C x f/\Binds K fd ps [])(S:ao N ps (ag st))(len:∀ vs H Q E,sp vs H Q E->vs.length=ps.length)
   (SR:BodyOk P w K mg base k qual st N sp):mT P w K mg base bJ (k+1) C x sp:=by
 obtain⟨f,fd,F,hm,hb⟩:=h;exact⟨c,f,fd,ps,hm,F.ok S len (SR f),hb⟩
theorem eO {y:Str}(k:Nat)(hy:mg y=some (.ref C))(h:∃ f fd,eC K "__init__" qual st f fd/\Mk K C f/\Binds K fd ps [])(S:ao N ps (ag st))(len:∀ vs H Q E,sp vs H Q E->vs.length=ps.length)
   (SR:BodyOk P w K mg base k qual st N sp):C0 P w K mg base bJ (k+1) y C sp:=by
 obtain⟨f,fd,F,hm,hb⟩:=h;exact⟨f,fd,ps,hm,F.ok S len (SR f),hy,hb⟩
end
section
variable {X:Cx} {K:W.Frag}
theorem dG (h:X.K=K):bS X (abB .Add) (dP K):=by subst h;exact Lx
theorem uA (h:X.K=K)(hu:X.A.units+64<cLine):bS X (aaT .Eq) (fT K):=by subst h;exact Mx hu
theorem mE (h:X.K=K)(hu:X.A.units+64<cLine):bS X (aaT .NotEq) (e_ K):=by subst h;exact Gc hu
theorem Mu (h:X.K=K):bS X (aaT .In) (pD K false):=by subst h;exact E1
theorem Fi (h:X.K=K):bS X (aaT .NotIn) (pD K true):=by subst h;exact AL
theorem cS (h:X.K=K):nX X (dk K):=by subst h;exact NG
theorem Hz (h:X.K=K):u_ X (gO K):=by subst h;exact Mw
theorem dR {tg l:Expr}{tl:TE}(h:X.K=K)(hl:PE X l tl):PI X tg l (OF K tl):=by subst h;exact O6 hl
theorem eG (h:X.K=K):cG X (.builtin "len") (tU K):=by subst h;exact Fh
theorem EX (h:X.K=K):cG X (.type "list") (DR K):=by subst h;exact DM
theorem xl (h:X.K=K):cG X (.builtin "isinstance") (iW K):=by subst h;exact Jl
def BH (K:W.Frag):List V->Hp->VK->Prop:=λxs H Q=>∃ p ys,xs=[.ref p]/\((aq K H p ys/\∀ l,H l=none->Q (.ref l) (upd H l (.tup ys)))∨(aJ K H p ys/\Q (.ref p) H))
theorem xI (h:X.K=K):cG X (.type "tuple") (BH K):=by subst h;exact yG
theorem cN {e:Expr}{f:Str}{pos:Pos}{ta:TE}(h:X.K=K)(he:PE X e ta)(hb:abZ e f X.env (eval e X.env)=eval e X.env:=by rfl):PE X (.Attribute e f pos) (Ot K ta f):=by subst h;exact Nf he hb
variable {pos:Pos}
theorem wC {o value : Expr}{f : Str}{Ts : Pos}{ta tv : TE}(h : X.K = K)(ha : PE X o ta)(hv : PE X value tv)(hs : acW value (some (.Attribute o f Ts)) pos.line X.env = pure false := by rfl) :
   PS X (.Assign [.Attribute o f Ts] value pos) (Nd K ta tv f):=by subst h;exact O2 ha hv hs
theorem wU {a:Expr}{ta:TE}(h:X.K=K)(ha:PE X a ta)(he:∀ Tw,isTrue a X.env Tw=(do let v <- Tw;standAt a.pos;holding [v] (truthy v)):=by intro _;rfl):PT X a (oU K ta):=by subst h;exact NC ha he
theorem wz {pos:Pos}(hK:X.K=K)(hc:X.calm=true)(h:Fv X es t)
   (hn:(acS es X.env).length=n:=by rfl) (S_:(acS es X.env).findIdx? (·.1)=none:=by rfl):PG X (.Tuple es k pos) (HW K n t):=by subst hK;exact OC hc h hn S_
theorem wM {o:Expr}{to:TE}{name:Str}{SW SQ:Pos}{T id:String}{r:V->List V->Hp->VK->Prop}(h:X.K=K)(pa:PlainAttrs T)(slot:Slot T name id)(hty:typeOf (.builtin id)=pure (.type "method_descriptor"))(hm:GS X id r)(ho:PE X o to)
   (Ti:abZ o name X.env (eval o X.env)=eval o X.env:=by rfl) (TK:(SW.endLine == SQ.line)=true:=by rfl):PE X (.Call (.Attribute o name SW) [] [] SQ) (Na K T r to):=by subst h;exact Mt pa slot hty hm ho Ti TK
theorem zB {o e:Expr}{es:List Expr}{to:TE}{t:TA}{name:Str}{SW SQ:Pos}{T id:String}{r:V->List V->Hp->VK->Prop}(h:X.K=K)(pa:PlainAttrs T)(slot:Slot T name id)(hty:typeOf (.builtin id)=pure (.type "method_descriptor"))(hm:GS X id r)(ho:PE X o to)(ha:PA X (e::es) t)
   (Ti:abZ o name X.env (eval o X.env)=eval o X.env:=by rfl)
   (Wi:((backTo SQ (aai (e::es) X.env)).all (λx=>!x.1) && (ac3 SQ (abU [] X.env)).all (λx=>x.1.isSome)
     && decide ((e::es).length+([]:List Keyword).length+(if ([]:List Keyword).isEmpty then 0 else 1)<30))=true:=by rfl)
   (TK:(SW.endLine == SQ.line)=true:=by rfl) (hs:aai (e::es) X.env=(false,eval e X.env)::aai es X.env:=by rfl) (Tb:(backTo SQ (aai es X.env)).any (·.1)=false:=by rfl) :
   PE X (.Call (.Attribute o name SW) (e::es) [] SQ) (MV K T r to t):=by subst h;exact Qb pa slot hty hm ho ha Ti Wi TK hs Tb
end
section
variable {X:Cx} {P:Program} {w:World} {K:W.Frag} {mg:Str->Option Value} {base:Heap} {CX:dQ} {k:Nat} {E:XK} {m:Str} {pos SW:Pos} {e o:Expr} {es:List Expr} {ta:TE} {t:TA}
theorem Be (hP:X.prog=P/\X.w=w/\X.K=K/\X.mg=mg/\X.base=base)(he:PE X o ta)(hr:bG k X.A)(hx:dY CX X E)(ha:PA X (e::es) t)
   (S_:aai (e::es) X.env=(false,eval e X.env)::aai es X.env:=by rfl) (SS:(backTo pos (aai es X.env)).any (·.1)=false:=by rfl)
   (ht : eval (.Call (.Attribute o m SW) (e :: es) [] pos) X.env = (do
     let ov <- eval o X.env
     standAt SW.atName
     let (f,first) <- holding [ov] (acX ov m pl)
     ac2 pos f first (backTo pos (aai (e::es) X.env)) (ac3 pos (abU [] X.env))):=by rfl) :
   PE X (.Call (.Attribute o m SW) (e::es) [] pos) (bC P w K mg base CX k m E ta t):=by
 obtain⟨rfl,rfl,rfl,rfl,rfl⟩:=hP;exact Hr (pl:=pl) he hr hx ha S_ SS ht
theorem gq (hP:X.prog=P/\X.w=w/\X.K=K/\X.mg=mg/\X.base=base)(he:PE X o ta)(hr:bG k X.A)(hx:dY CX X E)
   (ht : eval (.Call (.Attribute o m SW) [] [] pos) X.env = (do
     let ov <- eval o X.env
     standAt SW.atName
     let (f,first) <- holding [ov] (acX ov m pl)
     ac2 pos f first (backTo pos (aai [] X.env)) (ac3 pos (abU [] X.env))):=by rfl) :
   PE X (.Call (.Attribute o m SW) [] [] pos) (bC P w K mg base CX k m E ta aO):=by
 obtain⟨rfl,rfl,rfl,rfl,rfl⟩:=hP;exact Fu (pl:=pl) he hr hx ht
end
theorem L5 {R:Addr->Prop}(q:∀ p,H p=none->R p):∀ p,H p=none->R p:=q
theorem gk (h:upd H p o q=none):H q=none:=(bq h).1
theorem aF (s:ak H H')(h:H' q=none):H q=none:=by
 cases e:H q with
 | none=>rfl
 | some u=>rw[s _ _ e] at h;cases h
theorem same_none (s:ak H H1)(h:H1 p=none):ak H (upd H1 p o):=s.trans (ae h)
def iX {α : Type}(xs:List α)(f : α->V)(Sg:St->Prop)(H:Hp)(i:Nat)(ys:List V)(Z : St)(H1:Hp):Prop:=ak H H1/\Sg Z/\ys=(xs.take i).map f
theorem iX.next {α : Type}{xs:List α}{f : α->V}{Sg:St->Prop}{H5:Hp}{i:Nat}{ys:List V}{Z3:St}{x : α}(c:iX xs f Sg H i ys Z H1)(hx:xs[i]? = some x)(e:y=f x)(s:ak H H5)(sg:Sg Z3):iX xs f Sg H (i+1) (ys++[y]) Z3 H5:=by
 obtain⟨_,_,rfl⟩:=c;refine⟨s,sg,?_⟩;subst e;rw[abz,hx,abq,aaF];rfl
theorem Ke (h1:b=true->A)(h2:b=false->B):if b=true then A else B:=by
 cases b with
 | true=>exact h1 rfl
 | false=>exact h2 rfl
theorem RB {R:Prop}(h1 : -(2 ^ 62)<=j)(h2:j<2 ^ 62)(q:R) : -(2 ^ 62)<=j/\j<2 ^ 62/\R:=⟨h1,h2,q⟩
theorem PN {K:W.Frag}{a:Addr}(h:aq K H a xs)(q:A):((∃ xs,aq K H a xs)/\A)∨((∃ xs,aJ K H a xs)/\B):=.inl ⟨⟨xs,h⟩,q⟩
theorem P7 {K:W.Frag}{a:Addr}(h:aJ K H a xs)(q:B):((∃ xs,aq K H a xs)/\A)∨((∃ xs,aJ K H a xs)/\B):=.inr ⟨⟨xs,h⟩,q⟩
theorem Qr {K:W.Frag}{R:Prop}(h:H p=some (.lst xs))(q:R):Du K "list" (.ref p) H/\R:=⟨ty_list h,q⟩
theorem Di {K:W.Frag}:Dp K H .none .aA:=by rw[Dp]
theorem iI:upd (upd H p o1) p o2=upd H p o2:=LA ..
variable {D:Ends}
theorem Ii {i:Nat}{own:List Str}{fr:List (Str×Nat)}{wi:TI}{g:TG}{tc:TT}{te:TE}{Zi:St}(h:lF own fr Z = Zi)(q:wi Z H λJ H1=>iE J g tc te (λys H3=>∀ p,H3 p=none->bh i (.ref p) Z (upd H3 p (.lst ys)) D.nx) Zi H1):uv i own fr wi g tc te D Z H:=by subst h;exact q
theorem Jj (h:lF own fr Z = Zi)(q:wi Z H λJ H1=>iE J g tc te (λys H3=>∀ p,H3 p=none->Q (.ref p) (upd H3 p (.lst ys))) Zi H1):FH own fr wi g tc te Z H Q:=by subst h;exact q
def pQ:R2:=λx y H Q=>y=.aA/\Q (.bl (decide (x=.aA))) H
def kK:R2:=λx y H Q=>y=.aA/\Q (.bl (!decide (x=.aA))) H
theorem xc:bS X (aaT .Is) pQ:=M7
theorem Ab:bS X (aaT .IsNot) kK:=L6
theorem M2 (q:Q (.bl false) H):pQ (.ref p) .aA H Q:=⟨rfl,q⟩
theorem Nv (q:Q (.bl true) H):pQ .aA .aA H Q:=⟨rfl,q⟩
theorem OK (q:Q (.bl false) H):pQ (.int i) .aA H Q:=⟨rfl,q⟩
theorem LY (q:Q (.bl false) H):kK .aA .aA H Q:=⟨rfl,q⟩
theorem K4 {K:W.Frag}{a:Addr}(s:ak H H1)(h:H p=none)(q:aq K H a xs):aq K (upd H1 p o) a xs:=ak.seq (bK s h) q
def Oo (i j:Int):Prop:=0<=j/\j<=1000000/\∃ k:Nat,k<=1000000/\i.natAbs<2 ^ k
theorem Md:bS X (abB .LShift) (rI Oo λi j=>.int (i*2 ^ j.toNat)):=GA λi j _ _ _ _ _ hc q=>by
 obtain⟨h0,h1,k,hk,hb⟩:=hc
 have:=PySem.intBits_le_iff.mpr hb
 exact lshift_int h0 (by have e:(2:Int) ^ 27=134217728:=rfl;rw[e];omega) q
theorem vS (h0 : 0<=j)(h1:j<=1000000):Oo 1 j:=⟨h0,h1,1,by decide,by decide⟩
theorem wq (j:Nat):(1:Int)*2 ^ j=((2 ^ j:Nat):Int):=by rw[Int.one_mul];exact(Int.natCast_pow 2 j).symm
theorem nv (s t:Nat):aaK (s:Int) (t:Int)=((s &&& t:Nat):Int):=by
 unfold aaK;rw[decide_eq_true (abf s),decide_eq_true (abf t)];show((((s:Int).toNat &&& (t:Int).toNat:Nat)):Int)=_;rw[aaE,aaE]
theorem gj (s t:Nat):aaK (s:Int) (aav (t:Int))=((Bt.wo s t:Nat):Int):=by
 have hn : ¬ (0:Int)<=aav (t:Int):=by unfold aav;omega
 have e:(aav (aav (t:Int))).toNat=t:=by unfold aav;omega
 unfold aaK;rw[decide_eq_true (abf s),decide_eq_false hn];show(s:Int) - (((s:Int).toNat &&& (aav (aav (t:Int))).toNat:Nat):Int)=_;rw[aaE,e]
 have:(s &&& t)<=s:=adq
 unfold Bt.wo;omega
theorem GJ (s t:Nat):Builtin.bitOr (s:Int) (t:Int)=((s ||| t:Nat):Int):=by
 have hs : ¬ (0:Int)<=aav (s:Int):=by unfold aav;omega
 have ht : ¬ (0:Int)<=aav (t:Int):=by unfold aav;omega
 have es:(aav (aav (s:Int))).toNat=s:=by unfold aav;omega
 have et:(aav (aav (t:Int))).toNat=t:=by unfold aav;omega
 unfold Builtin.bitOr aaK;rw[decide_eq_false hs,decide_eq_false ht];show aav (aav (((aav (aav (s:Int))).toNat ||| (aav (aav (t:Int))).toNat:Nat):Int))=_;rw[es,et];unfold aav;omega
theorem d7 {K:W.Frag}(h:aq K H p xs)(f1:dX x=true)(f2:xs.all dX=true)(q:Q (.bl (eF x xs)) H):pD K false x (.ref p) H Q:=⟨p,xs,rfl,.inl h,f1,f2,q⟩
def Kd:List V->Hp->VK->Prop:=λxs H Q=>∃ a kvs,xs=[.ref a]/\Rd H a (.dK kvs)/\∀ p,H p=none->Q (.ref p) (upd H p (.dK kvs))
theorem DI:cG X (.type "dict") Kd:=by
 intro gV s Z H xs us Q I r h;obtain⟨a,kvs,rfl,e,q⟩:=h;obtain⟨u,rfl,rx⟩:=vals1 r;cases rx
 exact Jb I e λp s' hp I'=>⟨.ref p,_,I',rfl,q p hp⟩
variable {kvs:List (Key×V)}
theorem AS (h:H a=some (.dK kvs))(q:∀ p,H p=none->Q (.ref p) (upd H p (.dK kvs))):Kd [.ref a] H Q:=⟨a,kvs,rfl,.inl h,q⟩
theorem Ag (q:∀ p,H p=none->Q (.ref p) (upd H p (.dK []))):GD Z H Q:=q
theorem GQ (q:tv Z H λv H1=>td Z H1 λx H2=>ty Z H2 λy H3=>∃ a H4,x=.ref a/\tQ H3 a y v H4/\D.nx Z H4):JQ td ty tv D Z H:=q
theorem jj {k:Int}{v:V}{R:Hp->Prop}(h:H p=some (.dK kvs))(hl:kvs.length<aal)(q:R (upd H p (.dK (putK kvs (.inl k) v)))):∃ a H4,V.ref p=.ref a/\tQ H a (.int k) v H4/\R H4 :=
 ⟨p,_,rfl,tQ.k (k:=.inl k) h hl,q⟩
theorem uZ (q:td Z H λx H1=>ty Z H1 λy H2=>∃ a v,x=.ref a/\fY H2 a y (some v)/\Q v H2):Kb td ty Z H Q:=q
theorem DG (q:ty Z H λy H1=>td Z H1 λx H2=>∃ a o,x=.ref a/\fY H2 a y o/\Q (.bl o.isSome) H2):Nu ty td Z H Q:=q
theorem Bv {k:Int}{R:Option V->Prop}(h:H p=some (.dK kvs))(q:R (b3 kvs (.inl k))):∃ a o,V.ref p=.ref a/\fY H a (.int k) o/\R o:=⟨p,_,rfl,fY.k (k:=.inl k) h,q⟩
theorem RA {t:TE}{Q:Bool->Hp->Prop}(q:t Z H λx H'=>∃ b,x=.bl b/\Q b H'):tB t Z H Q:=q
def C3:V->List V->Hp->VK->Prop:=λx xs H Q=>∃ i,x=.int i/\xs=[]/\Q (.int ((abg i:Nat):Int)) H
theorem Fy:GS X "int.bit_length" C3:=by
 intro gV s Z H x xs v us Q I rx rs h;obtain⟨i,rfl,rfl,q⟩:=h;cases rs
 obtain⟨t,rfl⟩:=(show ∃ t,v=abl i t from rx)
 refine call_gives F.slot_int_bit_length (typeIs_int s i t) F.entry_int_bit_length (F.args_int_bit_length_1 _) (AutoIntG2.int_bit_length_int_0 i t) ?_;exact⟨.int _,H,I.tok _,⟨_,rfl⟩,q⟩
theorem Av (q:Q (.int ((abg i:Nat):Int)) H):C3 (.int i) [] H Q:=⟨i,rfl,rfl,q⟩
theorem Kr {K:W.Frag}{R:Prop}(q:R):Du K "int" (.int i) H/\R:=⟨rfl,q⟩
structure fb (K:W.Frag)(x qual:Str)(st:Stmt)(f:Addr)(fd:aa3):Prop where
 ex:∃ (oc:Value) (od:Option Addr) (da:Addr) (kV SU pm:Value) (an:Option Addr) (SN ct:Value) (Tj:Array (Option Value)) (o:Obj) (n:Nat),
   fd=W.fnOf x qual (aY st) (aP st) (ag st) (.ref da) kV SU pm an SN ct/\K.lookup f=some ⟨oc,od,.func fd,Tj⟩/\abN K SN qual=true/\K.lookup da=some o/\o.data=.seq #[.none] n
 kp:abc K (.ref f)=true
variable {f:Addr} {st:Stmt} {qual:Str}
theorem L8 {K:W.Frag}{x:Str}{da:Addr}{o:Obj}{oc:Value}{od an:Option Addr}{Tj:Array (Option Value)}{kV SU pm SN ct:Value}(l:K.lookup f=some ⟨oc,od,.func (W.fnOf x qual (aY st) (aP st) (ag st) (.ref da) kV SU pm an SN ct),Tj⟩)
   (d:K.lookup da=some o/\∃ n,o.data=.seq #[.none] n) (c:abN K SN qual=true) (k:abc K (.ref f)=true):fb K x qual st f (W.fnOf x qual (aY st) (aP st) (ag st) (.ref da) kV SU pm an SN ct) :=
 let ⟨n,e⟩:=d.2;⟨⟨oc,od,da,kV,SU,pm,an,SN,ct,Tj,o,n,rfl,l,c,d.1,e⟩,k⟩
section
variable {P:Program} {w:World} {K:W.Frag} {mg:Str->Option Value} {base:Heap}
variable {N ps:List Str} {fd:aa3}
theorem fb.ok {x:Str}(F:fb K x qual st f fd)(S:ao N ps (ag st))(len:∀ vs H Q E,sp vs H Q E->vs.length=ps.length)
   (SR:∀ (SN:Value) (A:Around) (outer:List Env) (s:Shared) (H:Hp) (vs:List V) (Q:VK) (E:XK),bG k (A.deeper (envOfC qual (ag st) s.heap.objs.size f SN))->sp vs H Q E ->
     ∃ t,gw (bU bJ P w K mg base N qual (ag st) f SN A outer s H E).eZ (aP st) t/\t { nx:=λ_ H'=>Q .aA H',rt:=Q } (start N vs) H):c6 P w K mg base bJ (k+1) f fd ps sp:=by
 obtain⟨oc,od,da,kV,SU,pm,an,SN,ct,Tj,o,n,rfl,lk,Tp,_,_⟩:=F.ex;refine qO lk Tp S len λA outer s H vs Q E hr UC=>?_;obtain⟨t,h,q⟩:=SR SN A outer s H vs Q E hr UC;exact⟨t,h.eZ,q⟩
theorem fb.uU {x:Str}{ps:List Str}(F:fb K x qual st f fd)
   (h:∀ (da:Addr) (kV SU pm:Value) (an:Option Addr) (SN ct:Value) (us:List Value),us.length+1=ps.length->∃ k:Option (Array Value)->Sem (List (Str×Value)),abR (W.fnOf x qual (aY st) (aP st) (ag st) (.ref da) kV SU pm an SN ct) ⟨us,[]⟩=acr (.ref da) >>= k/\k (some #[.none])=pure (ps.zip (us++[.none]))):Binds K fd ps [.none]:=by
 obtain⟨oc,od,da,kV,SU,pm,an,SN,ct,Tj,o,n,rfl,lk,Tp,ld,ed⟩:=F.ex;intro s us KX hl;obtain⟨k,h1,h2⟩:=h da kV SU pm an SN ct us (by rw[aab] at hl;exact hl);exact .of_defaults rfl (KX _ _ ld) ed h1 h2
end
structure QQ (P:Program)(w:World)(K:W.Frag)(mg:Str->Option Value)(base:Heap)(CX:dQ)(k:Nat)(x:Str)(C:Addr)(sp:Sp):Prop where
 ex:∃ (f:Addr) (fd:aa3) (ps:List Str),Mk K C f/\c6 P w K mg base CX k f fd ps sp/\mg x=some (.ref C)/\Binds K fd ps [.none]
section
variable {P:Program} {w:World} {K:W.Frag} {mg:Str->Option Value} {base:Heap} {x qual:Str} {st:Stmt} {N ps:List Str} {sp:Sp} {C:Addr}
theorem LH {y:Str}(k:Nat)(hy:mg y=some (.ref C))(h:∃ f fd,fb K "__init__" qual st f fd/\Mk K C f/\Binds K fd ps []/\Binds K fd ps [.none])(S:ao N ps (ag st))(len:∀ vs H Q E,sp vs H Q E->vs.length=ps.length)
   (SR:BodyOk P w K mg base k qual st N sp):C0 P w K mg base bJ (k+1) y C sp/\QQ P w K mg base bJ (k+1) y C sp:=by
 obtain⟨f,fd,F,hm,hb,UH⟩:=h;exact⟨⟨f,fd,ps,hm,F.ok S len (SR f),hy,hb⟩,⟨f,fd,ps,hm,F.ok S len (SR f),hy,UH⟩⟩
end
theorem Kp {K:W.Frag}{neg:Bool}(h:aq K H p xs)(hx:dX x=true)(hs:xs.all dX=true)(q:Q (.bl (if neg then !eF x xs else eF x xs)) H):pD K neg x (.ref p) H Q:=⟨p,xs,rfl,.inl h,hx,hs,q⟩
section
variable {K:W.Frag} {a:Addr} {xs:List V} {g:TG} {tc:TT} {te:TE} {S0:List V->Hp->Prop} {H:Hp}
variable {Z0:St}
theorem zS (Pv:Nat->List V->St->Hp->Prop)(h0:Pv 0 [] Z0 H)(hl:∀ i ys Z H,i<=xs.length->Pv i ys Z H->aJ K H a xs/\ys.length<=aal)
   (hs:∀ i x ys Z H,xs[i]? = some x->Pv i ys Z H->g x Z H λZ3 H3=>tc Z3 H3 λb H4=>if b=true then te Z3 H4 λy H5=>Pv (i+1) (ys++[y]) Z3 H5 else Pv (i+1) ys Z3 H4)
   (hd:∀ ys Z H,Pv xs.length ys Z H->S0 ys H):iE (Kq K a) g tc te S0 Z0 H:=by
 refine⟨λi m ys Z H=>m=xs.length - i/\i<=xs.length/\Pv i ys Z H,⟨xs.length,by simp,aaX _,h0⟩,?_⟩;rintro i m ys Z H ⟨rfl,hi,p⟩;obtain⟨q,hz⟩:=hl i ys Z H hi p;by_cases SV:i<xs.length
 . refine .inr ⟨⟨xs, xs[i], q, by simp[SV]⟩, Pv (i + 1), λVd Z2 H2 p' => ⟨(hl (i + 1) Vd Z2 H2 SV p').2, xs.length - (i + 1), by omega, rfl, SV, p'⟩, λx H2 y => ?_⟩;obtain⟨e,y⟩:=y;subst e;exact hs i x ys Z _ (y xs q) p
 . have e : i = xs.length := by omega
   subst e;exact .inl ⟨⟨xs,q,aah _⟩,hz,hd ys Z H p⟩
theorem xk {α : Type}{xs:List α}{emb : α->V}(f : α->V)(Sg:St->Prop)(hl:aJ K H a (xs.map emb))(hz:xs.length<=aal)(h0:Sg Z0)
   (hs:∀ (i:Nat) (x : α) (ys:List V) (Z : St) (H1:Hp),xs[i]? = some x->iX xs f Sg H i ys Z H1->ak H H1->Sg Z ->
     g (emb x) Z H1 λZ3 H3=>tc Z3 H3 λb H4=>if b=true then te Z3 H4 λy H5=>iX xs f Sg H (i+1) (ys++[y]) Z3 H5 else iX xs f Sg H (i+1) ys Z3 H4)
   (hd:∀ H1,ak H H1->S0 (xs.map f) H1):iE (Kq K a) g tc te S0 Z0 H:=by
 refine zS (xs:=xs.map emb) (iX xs f Sg H) ⟨ak.refl _,h0,rfl⟩ ?_ ?_ ?_
 . rintro i ys Z H1 hi ⟨s,_,rfl⟩;refine⟨cK s hl,?_⟩;rw[aac,aaz];omega
 . intro i x ys Z H1 hx c;rw[aag] at hx;obtain⟨z,hz,rfl⟩:=Option.map_eq_some_iff.mp hx;exact hs i z ys Z H1 hz c c.1 c.2.1
 . rintro ys Z H1 ⟨s,_,rfl⟩;rw[aac,aaU];exact hd H1 s
end
theorem P_ {K:W.Frag}(dx dy:PyData)(hx:Dp K H dx x)(hy:Dp K H dy y)(sx:shaped dx=true)(sy:shaped dy=true)(q:Q (.bl (ach dx dy)) H):fT K x y H Q:=.inr ⟨dx,dy,hx,hy,sx,sy,q⟩
section
variable {prog:Program} {w:World} {A:Around} {E:Value->Shared->Prop} {s:Shared}
theorem MJ {it t:Addr}{i:Nat}{its:Array Value}{Q:Value->Shared->Prop}(hi:s.heap.IsTupleIter it t i)(ht:s.heap.IsTuple t its)
   (q1:∀ x,its[i]? = some x->∀ h',h'.IsTupleIter it t (i+1)->ab8 it s.heap h'->Q x { s with heap:=h' })
   (q2:its[i]? = none->A.handled=none/\∀ h' e,Heap.ExtBut it s.heap h'->(∃ o,h'.get? e=some o/\o.cls=.type "StopIteration")->E (.ref e) { s with heap:=h' }) :
   wpAny (model prog w) A (abh (.ref it)) Q E s:=by
 obtain⟨o,ho,hc,hd⟩:=id hi;obtain⟨ot,hot,_,nt,hdt⟩:=ht;unfold abh;refine aad (acw (name:=aae "__next__") hi.typeIs F.slot_tuple_iterator_next (acK F.slot_tuple_iterator_next hi.typeIs F.entry_tuple_iterator_next ?_ (F.args_tuple_iterator_next_1 _)));show wpAny _ _ (field (.ref it) 0 >>= _) _ _ _;refine aad (abr ho hd (x:=.ref t) rfl ?_);show wpAny _ _ (if (S8 t == abj)=true then _ else _) _ _ _;rw[if_neg (show ¬ (S8 t == abj)=true from λz=>aan z)];show wpAny _ _ (field (.ref it) 1 >>= _) _ _ _;refine aad (abr ho hd (x:=.int i 0) rfl ?_);show wpAny _ _ (acr (.ref t) >>= _) _ _ _;refine aad (wpAny_seqItems hot hdt ?_);cases hx:its[i]? with
 | some x =>
   simp only[aaE,hx];refine aad (ac_ ho hd (by simp) (aak ⟨x,rfl,aak (q1 x hx _ ?_ (ac8 ..))⟩));refine⟨_,abb _ ho (ads (acd hd _)),(Obj.cls_mapFields ..).trans hc,?_⟩;rw[acd hd];simp[rawInt]
 | none =>
   obtain⟨hh,q2⟩:=q2 hx;simp only[aaE,hx];refine aad (wpAny_rule (aad (ac_ ho hd (by simp) ?_)));show wpAny _ _ (newExc (.type "StopIteration") [] >>= _) _ _ _;refine aad ?_;simp only[newExc,newTuple];refine aad (abp ?_ (by size_fits));refine aad (m:=firstArgMember _ _) (wpAny_of_eq (a:=abj) (by first | rfl | (simp only[firstArgMember];rfl)) (abp ?_ (by size_fits)));simp only[raiseNew];refine aad (wpAny_handled ?_);rw[show A.in1.handled=none from hh];refine aad (aak (wpAny_throw ?_));exact q2 _ _ (((ac8 ..).extBut.push _).push _) ⟨_,aau _ rfl,rfl⟩
end
def Kv (K:W.Frag)(a b:Addr):It :=
 ⟨λi H=>∃ xs ys x y,aJ K H a xs/\aJ K H b ys/\xs[i]? = some x/\ys[i]? = some y,
  λi H v H'=>∃ T x y,v=.ref T/\H T=none/\H'=upd H T (.tup [x,y])/\∀ xs ys,aJ K H a xs->aJ K H b ys->xs[i]? = some x/\ys[i]? = some y,
  λi H=>∃ xs ys,aJ K H a xs/\aJ K H b ys/\(xs.length<=i∨ys.length<=i)⟩
theorem xF {gV:List (Addr×Obj)}{h':Heap}{ch:List Addr}{T:Addr}{xs:List V}(I:Inv X gV Z H s)(hf:∀ b∈ch,pI X gV H b)(hT:s.heap.objs.size<=T)
   (k:∀ b o,b ∉ ch->s.heap.get? b=some o->h'.get? b=some o) (kc:∀ b∈ch,∃ o,h'.get? b=some o) (new:bX X.prog X.w (upd H T (.tup xs)) h' T (.tup xs)):Inv X gV Z (upd H T (.tup xs)) { s with heap:=h' }:=by
 have hn:H T=none:=I.az.fresh hT;have nc:∀ b u,H b=some u->b ∉ ch:=λb u e hb=>by rw[(hf b hb).1] at e;cases e
 have nT:∀ b o,s.heap.get? b=some o->b≠T:=λb o e z=>absurd (aap e) (by rw[z];exact Nat.not_lt.mpr hT);refine I.vz (ch:=ch) rfl ⟨λb o e _ _ hc=>k b o hc e,λb o e _ _ hc=>⟨o.slots,k b o hc e⟩,λb o e n _=>by rw[ai (nT b o e)];exact n,λb o e hc=>⟨o,k b o hc e⟩,λb xs e=>?_,λb o u e=>?_,λb ps e=>⟨#[],?_⟩⟩ ?_ I.bare ?_
 . rw[ai (af e hn)];exact e
 . rw[ai (af e hn)];exact e
 . rw[ai (af e hn),e];simp
 . intro b u e;by_cases hb:b=T
   . subst hb;rw[aa] at e;cases e
     exact new
   . rw [ai hb] at e;refine (I.az b u e).iT (λc v hc q=>k c v ?_ q) (λc q=>by rw [ai (af q hn)];exact q) λc ys q=>by rw [ai (af q hn)];exact q
     rcases hc with z | z
     . rw[z];exact nc b u e
     . exact nc c _ z
 . intro b hb;obtain⟨f0,f1,f2,f3,f4,f5⟩:=hf b hb;exact⟨f3,f1,f4,f5⟩
theorem PK:aaY "zip" = some (.type "zip"):=by nofun
def NX (K:W.Frag)(ta:TA):TI:=λZ H R=>ta Z H λvs H1=>∃ a b xs ys,vs=[.ref a,.ref b]/\aJ K H1 a xs/\aJ K H1 b ys/\R (Kv K a b) H1
theorem PR {K:W.Frag}(q:ta Z H λvs H1=>∃ a b xs ys,vs=[.ref a,.ref b]/\aJ K H1 a xs/\aJ K H1 b ys/\R (Kv K a b) H1):NX K ta Z H R:=q
variable {Z0:St}
theorem Hc {K:W.Frag}{a b:Addr}{α : Type}{xs:List α}{e1 e2 : α->V}{g:TG}{tc:TT}{te:TE}{S0:List V->Hp->Prop}(f : α->V)(Sg:St->Prop)(ha:aJ K H a (xs.map e1))(hb:aJ K H b (xs.map e2))(hz:xs.length<=aal)(h0:Sg Z0)
   (hs:∀ (i:Nat) (x : α) (ys:List V) (Z : St) (H1:Hp) (T:Addr),xs[i]? = some x->iX xs f Sg H i ys Z H1->ak H H1->Sg Z->H1 T=none ->
     g (.ref T) Z (upd H1 T (.tup [e1 x,e2 x])) λZ3 H3=>tc Z3 H3 λb H4=>if b=true then te Z3 H4 λy H5=>iX xs f Sg H (i+1) (ys++[y]) Z3 H5 else iX xs f Sg H (i+1) ys Z3 H4)
   (hd:∀ H1,ak H H1->S0 (xs.map f) H1):iE (Kv K a b) g tc te S0 Z0 H:=by
 refine⟨λi m ys Z H1=>m=xs.length - i/\i<=xs.length/\iX xs f Sg H i ys Z H1,⟨xs.length,by simp,aaX _,ak.refl _,h0,rfl⟩,?_⟩;rintro i m ys Z H1 ⟨rfl,hi,c⟩;obtain⟨s,sg,rfl⟩:=id c;by_cases SV:i<xs.length
 . refine .inr ⟨⟨_, _, e1 xs[i], e2 xs[i], cK s ha, cK s hb, by simp [SV], by simp [SV]⟩, iX xs f Sg H (i + 1), λVd Z2 H2 p' => ⟨?_, xs.length - (i + 1), by omega, rfl, SV, p'⟩, λv H2 y => ?_⟩
   . obtain⟨_, _, rfl⟩ := p';rw[aac,aaz];omega
   . obtain ⟨T, x, y', rfl, hT, rfl, WU⟩ := y;obtain ⟨q1,q2⟩:=WU _ _ (cK s ha) (cK s hb);have WM:e1 xs[i]=x:=by simpa [SV] using q1
     have e2':e2 xs[i]=y':=by simpa [SV] using q2
     rw[<- WM,<- e2'];exact hs i xs[i] _ Z H1 T (by simp[SV]) c s sg hT
 . have e : i = xs.length := by omega
   subst e;refine .inl ⟨⟨_,_,cK s ha,cK s hb,.inl (by simp)⟩,?_,?_⟩
   . rw[aac,aaz];omega
   . rw[aaU];exact hd H1 s
variable {n:Nat}
theorem Q9 {K:W.Frag}{a:Addr}{its:Array Value}{od:Option Addr}{sl:Array (Option Value)}(l:K.lookup a=some ⟨.type "tuple",od,.seq its n,sl⟩)(hz:its.size<=aal)(v:aI xs its.toList):∀ H,aJ K H a xs:=λH=>.inr ⟨_,its,n,l,rfl,rfl,hz,v⟩
theorem J8 (h:H l=some (.lst (xs++[y])))(q:Q y (upd H l (.lst xs))):NO (.ref l) [] H Q:=by
 refine⟨l,xs++[y],y,rfl,rfl,h,?_,?_⟩
 . simp
 . simpa using q
theorem Jd {b:Addr}{zs:List V}(h:H l=some (.lst xs))(hb:H b=some (.lst zs))(hz:xs.length+zs.length<=aal)(q:Q .aA (upd H l (.lst (xs++zs)))):C5 (.ref l) [.ref b] H Q:=⟨l,b,xs,zs,rfl,rfl,h,hb,hz,q⟩
theorem PS.eZ (h:PS X.eZ st t):PS X st t:=λgV s Z H D I hw =>
 aaH (h gV s Z H D (I.fX _) hw) (λ_ _ q=>q.eE) λ_ _ z=>z.elim
theorem PA.eZ (h:PA X.eZ es t):PA X es t:=λpos gV s Z H Q I hw =>
 aaH (h pos gV s Z H Q (I.fX _) hw) (λ_ _ zq=>bN zq λv H' I' r q=>⟨v,H',I'.eE,r,q⟩) λ_ _ z=>z.elim
theorem GI {P:Program}{w:World}{h0 h5:Heap}{l:List Addr}(x:de P w H h0)(hl:∀ b∈l,H b=none)(k:(acm h0 l).StaysIn h5):de P w H h5:=λa o e=>by
 refine(x a o e).iT (λb u hb q=>k b u (W.hideAll_get _ q λhm=>?_)) (λ_ q=>q) λ_ _ q=>q;have hn:=hl b hm;rcases hb with rfl | hb
 . rw[e] at hn;cases hn
 . rw[hb] at hn;cases hn
theorem Jx {fs:List Addr}{h h0 h5:Heap}{l:List Addr}(u:Un fs [] H H' h h0)(hl:∀ b∈l,b∈fs∨h.objs.size<=b)(k:(acm h0 l).StaysIn h5)(up:h0.UpToSlots h5)
   (hf:∀ b∈fs,H b=none/\∀ o,h.get? b=some o->∀ vs,o.data≠.fields vs):Un fs [] H H' h h5:=by
 have nl:∀ b o,h.get? b=some o->b ∉ fs->b ∉ l:=λb o q hb hm=>by
   rcases hl b hm with z | z
   . exact hb z
   . exact absurd (aay (aap q) z) (abS _)
 have sl:∀ b o,h.get? b=some o->b∈fs->∃ sl,h5.get? b=some { o with slots:=sl }:=λb o q hb=>by
   obtain⟨s1,e1⟩:=u.slot b o q (hf b hb).1 hb (by simp);obtain⟨s2,e2⟩:=up b _ e1 ((hf b hb).2 o q);exact⟨s2,e2⟩
 refine⟨λb o q n hb hx=>k b o (W.hideAll_get _ (u.keep b o q n hb hx) (nl b o q hb)),λb o q _ hb _=>sl b o q hb,u.free,λb o q hx=>?_,u.jB,u.iZ,u.jJ⟩;by_cases hb:b∈fs
 . obtain⟨s2, e2⟩ := sl b o q hb;exact⟨_,e2⟩
 . obtain⟨o', e'⟩ := u.there b o q hx;exact⟨o',k b o' (W.hideAll_get _ e' (nl b o q hb))⟩
structure Aw (P:Program)(w:World)(outer:List Env)(H:Hp)(s:Shared)(ea C:Addr)(H':Hp)(s':Shared):Prop where
 os:s'.os=s.os
 bare:AllBare s'.gens
 ex:∃ (h0:Heap) (l:List Addr) (a0:Value),Un (cR outer) [] H H' s.heap h0/\de P w H' h0/\(∀ b∈l,H' b=none/\(b∈cR outer∨s.heap.objs.size<=b))/\h0.get? ea=none /\
   Heap.FlyingW (acm h0 l) outer ea (.ref C) a0 s'.heap/\h0.UpToSlots s'.heap
def eV (P:Program)(w:World):dQ:=λouter H s E e s'=>∃ (ea C:Addr) (H':Hp),e=.ref ea/\Aw P w outer H s ea C H' s'/\E (.ref C) none H'
structure z8 (K:W.Frag)(mg:Str->Option Value)(x:Str)(C:Addr):Prop where
 glob:mg x=some (.ref C)
 ex:W.excIn K C [.type "ValueError",.type "Exception",.type "BaseException",.type "object"] "ValueError.__new__" = true
theorem z8.obj {K:W.Frag}{mg:Str->Option Value}{x:Str}{h:Heap}(c:z8 K mg x C)(X:K.In h) :
   ∃ (bm:List Value) (N:Addr) (nm qn:Str) (bs:List Value) (hd:Bool) (sn:List Str) (sub:List Value) (ab:Bool) (col:Option Bool) (dd:Option Addr) (k0 k1 k2 k3 k5:Option Value) (mN:Str->Option Value),
     h.get? C=some (acZ nm qn C N bs bm hd sn sub ab col dd k0 k1 k2 k3 k5 "ValueError.__new__")/\h.Ns N mN/\mN "__init__" = none /\
     OwnTail h [.type "ValueError",.type "Exception",.type "BaseException",.type "object"] bm:=by
 have hq:=c.ex;unfold W.excIn at hq;split at hq
 . rename_i dd cd sl W6;split at hq
   . rename_i C' bm k0 k1 k2 k3 id k5 VF V3;simp only[aaM,ac1,beq_iff_eq] at hq;obtain⟨⟨⟨⟨⟨e1,e2⟩,e3⟩,e4⟩,e5⟩,e6⟩:=hq;subst e1 e2;obtain⟨nm,bs,mro,ns,qn,hd,sn,sub,ab,col,del⟩:=cd;dsimp only at VF e3 e5 e6;subst VF e3;obtain⟨sl⟩:=sl;dsimp only at V3;subst V3;exact⟨bm,ns,nm,qn,bs,hd,sn,sub,ab,col,dd,k0,k1,k2,k3,k5,_,X _ _ W6,.of_isNs (W.isNs_of_in X e5),W.nsMap_none_of_in X e5 e6,W.tail_of_in X e4⟩
   . cases hq
 . cases hq
def FP (C:Addr)(E:XK)(t:TA):TS:=λ_ Z H=>t Z H λvs H1=>vs.length<=1000/\E (.ref C) none H1
theorem zX (S_:X.stack=X.env::X.outer)(Ut:X.env.frame=some X.env.locals):cR X.stack=X.env.locals::cR X.outer:=by
 rw[S_];unfold cR;rw[abE,Ut]
theorem AD {gV:List (Addr×Obj)}{h':Heap}{e C:Addr}{args:List Value}{Q:Unit->Shared->Prop}{Ex:Value->Shared->Prop}(I:Inv X gV Z H s)
   (S_:X.stack=X.env::X.outer) (Ut:X.env.frame=some X.env.locals) (hex:X.ex=[]) (hx:acU s.heap h' e (.ref C) args)
   (hQ:∀ s',Aw X.prog X.w X.outer X.H₀ X.s₀ e C H s'->Q () s'):wpAny (model X.prog X.w) X.A (leaving X.env (.ref e)) Q Ex { s with heap:=h' }:=by
 have hfs:=zX S_ Ut;have WE:∀ env∈X.stack,∀ a,env.frame=some a->a∈cR X.stack:=λenv he b hb=>List.mem_filterMap.mpr ⟨env,he,hb⟩;have hl:s.heap.FunFrames (acm s.heap (cR X.stack)) (X.env::X.outer):=by
   have z:=W.funFrames_hide I.stack WE;rw[S_] at z ⊢;exact z
 refine wpAny_leaves_madeW (s:={ s with heap:=h' }) (by rw[<- S_];exact I.ok.frames) Ut (λb o q=>W.of_hideAll _ q) hl hx λh2 t x1 _ _ x4=>hQ _ ⟨I.os,I.bare,?_⟩;have hb:=I.base;rw[hex] at hb;refine⟨s.heap,cR X.stack,.ref t,hb,I.az,λb hm=>⟨I.mK b hm,?_⟩,hx.new,x1,(Heap.UpToSlots.of_keeps hx.keeps).trans x4⟩;rw[hfs] at hm;rcases List.mem_cons.mp hm with rfl | hm
 . exact .inr I.ok.above
 . exact .inl hm
theorem mU {P:Program}{w:World}{K:W.Frag}{mg:Str->Option Value}{base:Heap}{N:List Str}{qual:Str}{scope:Scope}{f:Addr}{cd:Value}{A:Around}{outer:List Env}{s0:Shared}{H0:Hp}{E:XK}
   {C:Addr} {x:Str} {np SQ pos:Pos} {e0:Expr} {es:List Expr} {t:TA} (c:z8 K mg x C) (hg:Gl (bU (eV P w) P w K mg base N qual scope f cd A outer s0 H0 E) x)
   (ha:PA (bU (eV P w) P w K mg base N qual scope f cd A outer s0 H0 E).eZ (e0::es) t) (Tn:(x == ("__debug__" : Str))=false:=by decide)
   (he:aai (e0::es) (bU (eV P w) P w K mg base N qual scope f cd A outer s0 H0 E).env=(false,eval e0 (bU (eV P w) P w K mg base N qual scope f cd A outer s0 H0 E).env)::aai es (bU (eV P w) P w K mg base N qual scope f cd A outer s0 H0 E).env:=by rfl)
   (SS:(backTo SQ (aai es (bU (eV P w) P w K mg base N qual scope f cd A outer s0 H0 E).env)).any (·.1)=false:=by rfl) :
   PS (bU (eV P w) P w K mg base N qual scope f cd A outer s0 H0 E) (.Raise (some (.Call (.Name x np) (e0::es) [] SQ)) none pos) (FP C E t):=by
 intro gV s Z H D I h;obtain⟨bm,N',nm,qn,bs,hd,sn,sub,ab,col,dd,k0,k1,k2,k3,k5,mN,hC,hN,hni,TL⟩:=c.obj I.ok.mod.vK
 refine wpAny_Raise_call_subU (C:=C) (mN:=mN) (N:=N') (nm:=nm) (q:=qn) (bs:=bs) (bm:=bm) (hdct:=hd) (sn:=sn) (sub:=sub) (ab:=ab) (col:=col) (dd:=dd) (k0:=k0) (k1:=k1) (k2:=k2) (k3:=k3) (k5:=k5)
   abo (by nofun) abo (TL.hasType (by nofun)) (I.ok.hd rfl) (by rw[he];show(false || (backTo SQ (aai es _)).any (·.1))=false;rw[SS];rfl) hni ?_
 refine eX I hg c.glob ⟨rfl,?_⟩ Tn;have TV:=(L3.PA.eZ ha) SQ gV s Z H _ I h;rw[he] at TV ⊢;refine acD (aQ TV λus s1 zq=>?_);obtain⟨vs,H1,I1,r,SO,q⟩:=zq;refine⟨rfl,?_,I1.bk _ _ hC,hN.keeps I1.bk,TL.keeps I1.bk,λh' e hm=>?_⟩
 . show us.length <= aal;rw[<- r.length];exact aaJ SO (by nofun)
 . exact AD (X:=bU (eV P w) P w K mg base N qual scope f cd A outer s0 H0 E) I1 rfl rfl rfl hm λs' th=>⟨e,C,H1,rfl,th,q⟩
theorem lN {P:Program}{w:World}{K:W.Frag}{mg:Str->Option Value}{base:Heap}{N:List Str}{qual:Str}{scope:Scope}{f:Addr}{cd:Value}{A:Around}{outer:List Env}{s0:Shared}{H0:Hp}{E:XK} :
   dY (eV P w) (bU (eV P w) P w K mg base N qual scope f cd A outer s0 H0 E) E:=by
 intro gV Z H s e s' I h;obtain⟨ea,C,H',rfl,⟨os,bare,h0,l,a0,u,az,hl,hn,fl,up⟩,q⟩:=h;show wpAny _ _ (leaving _ (.ref ea)) _ _ s';refine wpAny_leaves_onW (outer:=outer) I.ok.frames rfl fl λh2 fl2 up2=>⟨ea,C,H',rfl,⟨os.trans I.os,bare,h0,l,a0,?_,az,λb hb=>⟨(hl b hb).1,?_⟩,hn,fl2,up.trans up2⟩,q⟩
 . have J := I.call (h' := h0) (g' := s'.gens) (d' := s'.drawn) (t' := s'.toks) (ch := []) u az bare (λb z => absurd z (by simp));exact J.base
 . rcases(hl b hb).2 with z | z
   . have z' : b ∈ cR (envOfC qual scope s0.heap.objs.size f cd :: outer) := z;have e1:cR (envOfC qual scope s0.heap.objs.size f cd::outer)=s0.heap.objs.size::cR outer:=by unfold cR;rw [abE];rfl
     rw[e1] at z';rcases List.mem_cons.mp z' with rfl | z'
     . exact .inr (aah _)
     . exact .inl z'
   . exact .inr (aaJ I.sz z)
section
variable {P:Program} {w:World} {K:W.Frag} {mg:Str->Option Value} {base:Heap} {x qual:Str} {st:Stmt} {N ps:List Str} {sp:Sp} {C:Addr} {k:Nat}
def K3 (P:Program)(w:World)(K:W.Frag)(mg:Str->Option Value)(base:Heap)(qual:Str)(st:Stmt)(N:List Str)(f:Addr)(SN:Value)(A:Around)(outer:List Env)(s:Shared)(E:XK)(Q:VK)(H:Hp)(vs:List V):Prop :=
 ∃ t,gw (bU (eV P w) P w K mg base N qual (ag st) f SN A outer s H E) (aP st) t/\t { nx:=λ_ H'=>Q .aA H',rt:=Q } (start N vs) H
def y3 (P:Program)(w:World)(K:W.Frag)(mg:Str->Option Value)(base:Heap)(k:Nat)(qual:Str)(st:Stmt)(N:List Str)(sp:Sp):Prop :=
 ∀ (f:Addr) (SN:Value) (A:Around) (outer:List Env) (s:Shared) (H:Hp) (vs:List V) (Q:VK) (E:XK),bG k (A.deeper (envOfC qual (ag st) s.heap.objs.size f SN))->sp vs H Q E ->
   K3 P w K mg base qual st N f SN A outer s E Q H vs
variable {fd:aa3}
theorem eC.J0 (F:eC K x qual st f fd)(S:ao N ps (ag st))(len:∀ vs H Q E,sp vs H Q E->vs.length=ps.length)(SR:y3 P w K mg base k qual st N sp):c6 P w K mg base (eV P w) (k+1) f fd ps sp:=by
 obtain⟨oc,od,kV,SU,pm,an,SN,ct,Tj,rfl,lk,Tp⟩:=F.ex;exact qO lk Tp S len λA outer s H vs Q E hr UC=>SR f SN A outer s H vs Q E hr UC
theorem Al (k:Nat)(h:∃ f fd,eC K x qual st f fd/\mg x=some (.ref f)/\Binds K fd ps [])(S:ao N ps (ag st))(len:∀ vs H Q E,sp vs H Q E->vs.length=ps.length)
   (SR:y3 P w K mg base k qual st N sp):iR P w K mg base (eV P w) (k+1) x sp:=by
 obtain⟨f,fd,F,hm,hb⟩:=h;exact⟨f,fd,ps,eC.J0 F S len SR,hm,F.kp,hb⟩
end
section
variable {X:Cx} {gV:List (Addr×Obj)} {Z : St} {H:Hp} {s:Shared}
abbrev Cx.sup (X:Cx)(e:Addr)(pl:List (Addr×Obj)):Cx:={ X with A:=X.A.mark (some (.ref e)),calm:=false,xe:=λ_ _=>False,pn:=X.pn++pl }
variable {e:Addr}
theorem Cx.Ok.sup (ok:X.Ok):(Cx.sup X e pl).Ok :=
 ⟨ok.mod,ok.kind,ok.glob,ok.blt,ok.above,ok.inj,ok.has,ok.A8,(λz=>by cases z),ok.frames,ok.Dn,ok.JZ,ok.bs,ok.rG,ok.tW,ok.xf,ok.gC,ok.ua⟩
theorem Cx.Ok.vb (ok:(Cx.sup X e pl).Ok)(h:X.calm=true->X.A.handled=none):X.Ok :=
 ⟨ok.mod,ok.kind,ok.glob,ok.blt,ok.above,ok.inj,ok.has,ok.A8,h,ok.frames,ok.Dn,ok.JZ,ok.bs,ok.rG,ok.tW,ok.xf,ok.gC,ok.ua⟩
theorem Inv.sup (I:Inv X gV Z H s)(h:∀ p∈pl,s.heap.get? p.1=some p.2/\H p.1=none/\p.1≠X.env.locals/\p.1 ∉ X.fs/\∀ v,p.2.data≠.cell v):Inv (Cx.sup X e pl) gV Z H s :=
 ⟨Cx.Ok.sup I.ok,I.os,I.bare,I.base,I.loc,I.cell,I.free,I.fQ,λp hp=>by
   rcases List.mem_append.mp hp with hp | hp
   . rcases List.mem_append.mp hp with hp | hp
     . exact I.pin p (aa5 _ hp)
     . exact h p hp
   . exact I.pin p (aax _ hp),I.az,I.len⟩
theorem Inv.vb (I:Inv (Cx.sup X e pl) gV Z H s)(h:X.calm=true->X.A.handled=none):Inv X gV Z H s :=
 ⟨Cx.Ok.vb I.ok h,I.os,I.bare,I.base,I.loc,I.cell,I.free,I.fQ,λp hp=>by
   rcases List.mem_append.mp hp with hp | hp
   . exact I.pin p (aa5 _ (aa5 _ hp))
   . exact I.pin p (aax _ hp),I.az,I.len⟩
end
def JB (X:Cx)(gV:List (Addr×Obj))(Z : St)(Ew:XK)(ex:Value)(s':Shared):Prop :=
 ∃ (ea C:Addr) (H1:Hp) (s1:Shared) (H':Hp),ex=.ref ea/\Inv X gV Z H1 s1/\Aw X.prog X.w X.stack H1 s1 ea C H' s'/\Ew (.ref C) none H'
abbrev TB:=Ends->XK->St->Hp->Prop
def PB (X:Cx)(body:List Stmt)(tb:TB):Prop :=
 ∀ (gV:List (Addr×Obj)) (s:Shared) (Z : St) (H:Hp) (D:Ends) (Ew:XK),Inv X gV Z H s->tb D Ew Z H->wpAny (model X.prog X.w) X.A (execs body X.env) (SP X gV D) (JB X gV Z Ew) s
section
variable {X:Cx} {gV:List (Addr×Obj)} {Z : St} {H:Hp} {s:Shared} {k:Nat} {g x n:Str} {sp:Sp} {e:Expr} {es:List Expr} {t:TA} {gp SQ pos py:Pos}
theorem Cs (G:iR X.prog X.w X.K X.mg X.base (eV X.prog X.w) k g sp)(hr:bG k X.A)(hg:Gl X g)(ha:PA X.eZ (e::es) t)(I:Inv X gV Z H s)(h:t Z H λvs H1=>sp vs H1 Q Ew)
   (Tn:(g == ("__debug__" : Str))=false) (he:aai (e::es) X.env=(false,eval e X.env)::aai es X.env) (SS:(backTo SQ (aai es X.env)).any (·.1)=false) :
   wpAny (model X.prog X.w) X.A (eval (.Call (.Name g gp) (e::es) [] SQ) X.env) (EP X gV Z Q) (JB X gV Z Ew) s:=by
 obtain⟨f,fd,ps,F,hm,hk,hb⟩:=G.ex;refine abw (eX I hg hm ?_ Tn);refine adx (h₀:=X.base) I.ok.mod.vK hk (aaH (ha SQ gV s Z H _ (I.fX _) h) (λus s1 zq=>bN zq λvs H1 I1 r q=>⟨I1.df,?_⟩) λ_ _ z=>z.elim) he SS;have J:Inv X gV Z H1 s1:=I1.eE;have hl:us.length=ps.length:=by rw[<- r.length];exact F.len _ _ _ _ q
 have VE:=hb s1 us J.df (by rw[aaL];exact hl);rw[aaL] at VE;refine acR (abV (F.run X.A X.stack s1 H1 ⟨us,[]⟩ us vs Q Ew hr J.zm VE r q) λr2 s' hq=>?_);cases r2 with
 | error ex =>
   obtain⟨ea,C,H',rfl,th,q2⟩:=(show eV X.prog X.w X.stack H1 s1 Ew ex s' from hq)
   exact⟨ea,C,H1,s1,H',rfl,J,th,q2⟩
 | ok fl =>
   cases fl with
   | ret u=>exact J.after hq
   | next=>exact aaW hq
   | brk=>exact aaW hq
   | cont=>exact aaW hq
def JF (sp:Sp)(i:Nat)(t:TA):TB:=λD Ew Z H=>t Z H λvs H1=>sp vs H1 (λv H2=>D.nx (Z.set i (some v)) H2) Ew
theorem N0 {i:Nat}(hN:X.N.Nodup)(hi:X.N[i]? = some x)(hx:Loc X.env.scope x)(G:iR X.prog X.w X.K X.mg X.base (eV X.prog X.w) k g sp)(hr:bG k X.A)(hg:Gl X g)(ha:PA X.eZ (e::es) t)
   (hf:X.fn x=true∨X.env.scope.names.lookup x=some .local:=by first | exact .inl rfl | exact .inr rfl | assumption) (Tn:(g == ("__debug__" : Str))=false:=by decide)
   (he:aai (e::es) X.env=(false,eval e X.env)::aai es X.env:=by rfl) (SS:(backTo SQ (aai es X.env)).any (·.1)=false:=by rfl) :
   PB X [.Assign [.Name x py] (.Call (.Name g gp) (e::es) [] SQ) pos] (JF sp i t):=by
 intro gV s Z H D Ew I h;refine adu (wpAny_Assign_Name (aaH (Cs G hr hg ha I h Tn he SS) (λv s1 zq=>bN zq λy H1 I1 r1 q1=>?_) λ_ _ z=>z) rfl);exact mX I1 hN hi hx r1 (λs2 I2=>abH ⟨_,H1,I2,q1⟩) hf
end
section
variable {X:Cx} {gV:List (Addr×Obj)} {Z : St} {H H1 H':Hp} {s s1 s':Shared} {ea C:Addr}
theorem kA {h0 h5:Heap}{l:List Addr}(I:Inv X gV Z H1 s1)(os:s'.os=s1.os)(bare:AllBare s'.gens)(u:Un (cR X.stack) [] H1 H' s1.heap h0)(az:de X.prog X.w H' h0)
   (hl:∀ b∈l,H' b=none/\(b∈cR X.stack∨s1.heap.objs.size<=b)) (k:(acm h0 l).StaysIn h5) (up:h0.UpToSlots h5):Inv X gV Z H' { s' with heap:=h5 } :=
 I.vz (s':={ s' with heap:=h5 }) os (Jx u (λb hb=>(hl b hb).2) k up λb hb=>⟨I.mK b hb,λo q=>by
   obtain⟨_,o',q',d⟩:=I.stack.mem hb;rw[q] at q';cases q';exact d⟩) (GI az (λb hb=>(hl b hb).1) k) bare (λb z=>absurd z (by simp))
end
open PySem PySem.Spec PyProof.Rows L2 PySem.SeqAt PySem.W Builtin Builtin.ObjectAttr Builtin.Getset_descriptor
structure NS (K:W.Frag)(C:Addr):Prop where
 cl:(W.clsIn K C).isSome=true
 ga:aa_ K (.ref C) "__getattribute__" = some (some (.builtin "BaseException.__getattribute__"))
 gt:aa_ K (.ref C) "__getattr__" = some none
 co:aa_ K (.ref C) "__class__" = some (some (.builtin "object.__class__"))
 gs:W.specialIn K (.builtin "object.__class__") "__get__" = some (some (.builtin "getset_descriptor.__get__"))
 tk:W.takesIn K (.builtin "object.__class__")=some true
 mo:W.mroIn K C (.type "object")=some true
 mb:W.mroIn K C (.type "BaseException")=some true
section
variable {prog:Program} {w:World} {A:Around} {E:Value->Shared->Prop} {s:Shared} {K:W.Frag} {x C:Addr} {ox:Obj}
theorem jm {E:XK}{t:TA}{Z : L2.St}(h:t Z H λvs H1=>vs.length<=1000/\E (.ref C) none H1):FP C E t D Z H:=h
end
def D0 (K:W.Frag)(a b c:Addr):It :=
 ⟨λi H=>∃ xs ys zs x y u,aJ K H a xs/\aJ K H b ys/\aJ K H c zs/\xs[i]? = some x/\ys[i]? = some y/\zs[i]? = some u,
  λi H v H'=>∃ T x y u,v=.ref T/\H T=none/\H'=upd H T (.tup [x,y,u])/\∀ xs ys zs,aJ K H a xs->aJ K H b ys->aJ K H c zs->xs[i]? = some x/\ys[i]? = some y/\zs[i]? = some u,
  λi H=>∃ xs ys zs,aJ K H a xs/\aJ K H b ys/\aJ K H c zs/\(xs.length<=i∨ys.length<=i∨zs.length<=i)⟩
def JN (K:W.Frag)(ta:TA):TI:=λZ H R=>ta Z H λvs H1=>∃ a b c xs ys zs,vs=[.ref a,.ref b,.ref c]/\aJ K H1 a xs/\aJ K H1 b ys/\aJ K H1 c zs/\R (D0 K a b c) H1
theorem Nw {K:W.Frag}(q:ta Z H λvs H1=>∃ a b c xs ys zs,vs=[.ref a,.ref b,.ref c]/\aJ K H1 a xs/\aJ K H1 b ys/\aJ K H1 c zs/\R (D0 K a b c) H1):JN K ta Z H R:=q
theorem IT {K:W.Frag}{a b c:Addr}{ys zs:List V}{g:TG}{tb:TS}{D:Ends}(hy:ys.length=xs.length)(hz:zs.length=xs.length)(Pv:Nat->St->Hp->Prop)(h0:Pv 0 Z H)(hl:∀ i Z H,i<=xs.length->Pv i Z H->aJ K H a xs/\aJ K H b ys/\aJ K H c zs)
   (hs:∀ i x y u T Z H,xs[i]? = some x->ys[i]? = some y->zs[i]? = some u->Pv i Z H->H T=none->g (.ref T) Z (upd H T (.tup [x,y,u])) λZ2 H2=>tb { D with nx:=Pv (i+1),ct:=Pv (i+1),bk:=D.nx } Z2 H2) (hd:∀ Z H,Pv xs.length Z H->D.nx Z H):zL (D0 K a b c) g tb D Z H:=by
 refine⟨λi m Z H=>m=xs.length - i/\i<=xs.length/\Pv i Z H,⟨xs.length,by simp,aaX _,h0⟩,?_⟩;rintro i m Z H ⟨rfl,hi,p⟩;obtain⟨q1,q2,q3⟩:=hl i Z H hi p;by_cases SV:i<xs.length
 . refine .inr ⟨⟨xs, ys, zs, xs[i], ys[i], zs[i], q1, q2, q3, by simp[SV], by simp[hy, SV], by simp[hz, SV]⟩, Pv (i + 1), λZ' H' p' => ⟨xs.length - (i + 1), by omega, rfl, SV, p'⟩, λx H' y => ?_⟩;obtain⟨T,x',y',u',rfl,hT,rfl,WU⟩:=y;obtain⟨r1,r2,r3⟩:=WU _ _ _ q1 q2 q3;exact hs i x' y' u' T Z H r1 r2 r3 p hT
 . have e : i = xs.length := by omega
   subst e;exact .inl ⟨⟨xs,ys,zs,q1,q2,q3,.inl (aah _)⟩,hd Z H p⟩
theorem pR:∀ {vs:List Value} {ns:List Int},IntsAre vs ns->aI (ns.map V.int) vs
 | [],_,h=>by cases h;exact .nil
 | _::_,_,h=>by cases h with | cons n t h=>exact .cons ⟨_,rfl⟩ (pR h)
theorem vM:∀ {vs:List Value} {ns:List Int},vs.length=ns.length->(∀ (j:Nat) (v:Value),vs[j]? = some v->∃ n t,ns[j]? = some n/\v=.int n t)->IntsAre vs ns
 | [],[],_,_=>.nil
 | [],_::_,h,_=>by simp at h
 | _::_,[],h,_=>by simp at h
 | v :: vs, n :: ns, hl, h => by
   obtain⟨n',t,e1,e2⟩:=h 0 v rfl;simp only[List.getElem?_cons_zero,Option.some.injEq] at e1;subst e1 e2;exact .cons _ _ (vM (by simpa using hl) λj u hu=>by
     obtain⟨n2,t2,e3,e4⟩:=h (j+1) u (by simpa using hu);exact⟨n2,t2,by simpa using e3,e4⟩)
def Gj:List V->Hp->VK->Prop:=λxs H Q=>∃ (a:Addr) (kvs:List (Key×V)) (ks:List Int),xs=[.ref a]/\Rd H a (.dK kvs)/\kvs.map (·.1)=ks.map Sum.inl/\ks.length<64 /\
 ∀ (ks':List Int) (p:Addr),ks'.Perm ks->ks'.Pairwise (· <= ·)->H p=none->Q (.ref p) (upd H p (.lst (ks'.map V.int)))
theorem Bc (hc:X.calm=true):cG X (.builtin "sorted") Gj:=by
 intro gV s Z H xs us Q I r h;obtain⟨a,kvs,ks,rfl,e,hk,h64,q⟩:=h;obtain⟨u,rfl,rx⟩:=vals1 r;cases rx
 have hh:X.A.handled=none:=I.ok.hd hc;obtain⟨z,hd,vs,Tz,dd⟩:=kT I.az e;obtain⟨ep,Tx⟩:=dd.dictAt;have hlv:vs.length=ks.length:=by rw[<- Tz.length,<- aac (f:=(·.1)) (as:=kvs),hk,aac]
 refine Calls.call_function_entry kind_sorted plain_sorted entry_sorted (args_sorted1 _) ?_;unfold Builtin.«sorted»;refine aad (m:=checkCount "sorted" 1 1 _) (aak ?_);refine aad (W.kdu_collect (A:=X.A.in1) (W.kdl_dict (knd:=cX X.prog X.w) (kvs:=vs) (ep:=ep) hd) hh Tx (by rw[hlv,aaI];omega) λh' tk T3 hk' UR=>?_);have hl:T3.toList.length=ks.length:=by rw[ab1,<- hlv];exact UR.1
 have hI:IntsAre T3.toList ks:=vM hl λj v hv=>by
   obtain⟨k,x,e1,e2⟩:=UR.2 j v (by rw[<- adh];exact hv);have e3:(kvs.map (·.1))[j]? = some k:=by
     have e4:∀ {kvs:List (Key×V)} {vs:List (Key×Value)},KV kvs vs->kvs.map (·.1)=vs.map (·.1):=λr=>by
       unfold KV at r
       induction r with
       | nil=>rfl
       | cons r1 r2 ih=>rw[aaN,aaN,r1.1,ih]
     rw[e4 Tz,aag,e1];rfl
   rw[hk,aag] at e3;obtain⟨n,e5,e6⟩:=Option.map_eq_some_iff.mp e3;rcases cC e2 with ⟨i,t,e7,e8⟩ | ⟨x,t,e7,e8⟩
   . rw[e7] at e6;cases e6
     exact⟨_,t,e5,e8⟩
   . rw[e7] at e6;cases e6
 refine aad (wpAny_newList ?_ (by rw[hl,aaI];omega));have hoL:(h'.push (seqObj "list" T3.toList.toArray 0)).get? h'.objs.size=some (seqObj "list" T3.toList.toArray 0):=aau _ rfl;show wpAny _ _ _ _ _ { s with heap:=h'.push (seqObj "list" T3.toList.toArray 0),toks:=tk };refine aad (aa9 (acK slot_list_sort ⟨_,hoL,rfl⟩ entry_list_sort (list_sort_tree hoL hI (by omega) λout ns' a1 a2 a3=>⟨_,rfl,?_⟩) (args_list_sort _)));have I1:Inv X gV Z H { s with heap:=h',toks:=tk }:=I.un (Un.kept hk') (I.az.kept hk');obtain⟨e9,he⟩:=sortedHeap_at (out:=out) hoL;have hn:H h'.objs.size=none:=I1.az.fresh (aah _);refine aak ⟨_,rfl,.ref h'.objs.size,_,I1.laid (o:=.lst (ns'.map V.int)) (λb o hb'=>?_) (aah _) ⟨?_,out.toList,e9,pR a1,?_⟩,rfl,q ns' _ a2 a3 hn⟩
 . have SV := aap hb';rw[sortedHeap_old (aaC SV) (by rw[size_push'];exact acv SV)];exact aaf _ hb'
 . rw[aac,a2.length_eq,aaI];omega
 . exact he
theorem Ll {Q:VK}(h:H a=some (.dK kvs))(hk:kvs.map (·.1)=ks.map Sum.inl)(hl:ks.length<64)
   (q:∀ (ks':List Int) (p:Addr),ks'.Perm ks->ks'.Pairwise (· <= ·)->H p=none->Q (.ref p) (upd H p (.lst (ks'.map V.int)))):Gj [.ref a] H Q:=⟨a,kvs,ks,rfl,.inl h,hk,hl,q⟩
structure lg (K:W.Frag)(dv:Value)(x qual:Str)(st:Stmt)(f:Addr)(fd:aa3):Prop where
 ex:∃ (oc:Value) (od:Option Addr) (da:Addr) (kV SU pm:Value) (an:Option Addr) (SN ct:Value) (Tj:Array (Option Value)) (o:Obj) (n:Nat),
   fd=W.fnOf x qual (aY st) (aP st) (ag st) (.ref da) kV SU pm an SN ct/\K.lookup f=some ⟨oc,od,.func fd,Tj⟩/\abN K SN qual=true/\K.lookup da=some o/\o.data=.seq #[dv] n
 kp:abc K (.ref f)=true
theorem wA {K:W.Frag}{dv:Value}{x:Str}{da:Addr}{n:Nat}{oc dc:Value}{od an dd:Option Addr}{Tj dl:Array (Option Value)}{kV SU pm SN ct:Value}(l:K.lookup f=some ⟨oc,od,.func (W.fnOf x qual (aY st) (aP st) (ag st) (.ref da) kV SU pm an SN ct),Tj⟩)
   (d:K.lookup da=some ⟨dc,dd,.seq #[dv] n,dl⟩) (c:abN K SN qual=true) (k:abc K (.ref f)=true):lg K dv x qual st f (W.fnOf x qual (aY st) (aP st) (ag st) (.ref da) kV SU pm an SN ct) :=
 ⟨⟨oc,od,da,kV,SU,pm,an,SN,ct,Tj,_,n,rfl,l,c,d,rfl⟩,k⟩
section
variable {P:Program} {w:World} {K:W.Frag} {mg:Str->Option Value} {base:Heap} {dv:Value}
variable {N ps:List Str} {fd:aa3}
theorem lg.ok {x:Str}(F:lg K dv x qual st f fd)(S:ao N ps (ag st))(len:∀ vs H Q E,sp vs H Q E->vs.length=ps.length)
   (SR:BodyOk P w K mg base k qual st N sp):c6 P w K mg base bJ (k+1) f fd ps sp:=by
 obtain⟨oc,od,da,kV,SU,pm,an,SN,ct,Tj,o,n,rfl,lk,Tp,_,_⟩:=F.ex;refine qO lk Tp S len λA outer s H vs Q E hr UC=>?_;obtain⟨t,h,q⟩:=SR f SN A outer s H vs Q E hr UC;exact⟨t,h.eZ,q⟩
theorem lg.binds {x:Str}{ps:List Str}(F:lg K dv x qual st f fd)
   (h:∀ (da:Addr) (kV SU pm:Value) (an:Option Addr) (SN ct:Value) (us:List Value),us.length=ps.length->∃ k:Option (Array Value)->Sem (List (Str×Value)),abR (W.fnOf x qual (aY st) (aP st) (ag st) (.ref da) kV SU pm an SN ct) ⟨us,[]⟩=acr (.ref da) >>= k/\k (some #[dv])=pure (ps.zip us)):Binds K fd ps []:=by
 obtain⟨oc,od,da,kV,SU,pm,an,SN,ct,Tj,o,n,rfl,lk,Tp,ld,ed⟩:=F.ex;intro s us KX hl;rw[aaL] at hl ⊢;obtain⟨k,h1,h2⟩:=h da kV SU pm an SN ct us hl;exact .of_defaults rfl (KX _ _ ld) ed h1 h2
theorem lg.uU {x:Str}{ps:List Str}(F:lg K dv x qual st f fd)
   (h:∀ (da:Addr) (kV SU pm:Value) (an:Option Addr) (SN ct:Value) (us:List Value),us.length+1=ps.length->∃ k:Option (Array Value)->Sem (List (Str×Value)),abR (W.fnOf x qual (aY st) (aP st) (ag st) (.ref da) kV SU pm an SN ct) ⟨us,[]⟩=acr (.ref da) >>= k/\k (some #[dv])=pure (ps.zip (us++[dv]))):Binds K fd ps [dv]:=by
 obtain⟨oc,od,da,kV,SU,pm,an,SN,ct,Tj,o,n,rfl,lk,Tp,ld,ed⟩:=F.ex;intro s us KX hl;obtain⟨k,h1,h2⟩:=h da kV SU pm an SN ct us (by rw[aab] at hl;exact hl);exact .of_defaults rfl (KX _ _ ld) ed h1 h2
end
structure JV (P:Program)(w:World)(K:W.Frag)(mg:Str->Option Value)(base:Heap)(CX:dQ)(k:Nat)(x:Str)(C:Addr)(dV:V)(sp:Sp):Prop where
 ex:∃ (f:Addr) (fd:aa3) (ps:List Str) (dv:Value),Mk K C f/\c6 P w K mg base CX k f fd ps sp/\mg x=some (.ref C)/\Binds K fd ps [dv]/\RelV dV dv
def vF (C:Addr)(dV:V)(sp:Sp)(E:XK)(t:TA):TE:=λZ H Q=>t Z H λvs H1=>∀ x dx,H1 x=none->H1 dx=none->dx≠x ->
 sp (.ref x::(vs++[dV])) (upd (upd H1 dx (.own x)) x (.ins C dx [])) (λv H2=>v=.aA/\Q (.ref x) H2) E
section
variable {X:Cx} {CX:dQ} {k:Nat} {C:Addr} {dV:V} {sp:Sp} {E:XK} {x m:Str} {p pos SW:Pos} {e o:Expr} {es:List Expr} {ta:TE} {t:TA}
theorem Ho (G : JV X.prog X.w X.K X.mg X.base CX k x C dV sp)(hr : bG (k + 1) X.A)(hx : dY CX X E)(hg : Gl X x)(ha : PA X (e :: es) t)(Tn : (x == ("__debug__" : Str)) = false := by decide)
   (he:aai (e::es) X.env=(false,eval e X.env)::aai es X.env:=by rfl) (SS:(backTo pos (aai es X.env)).any (·.1)=false:=by rfl):PE X (.Call (.Name x p) (e::es) [] pos) (vF C dV sp E t):=by
 obtain⟨f,fd,ps,dv,M,F,hm,hb,rv⟩:=G.ex;exact CL (p:=p) (pos:=pos) M F hr hg hm hb (.cons rv .nil) hx ha Tn he SS
theorem Li (q:t Z H λvs H1=>∀ x dx,H1 x=none->H1 dx=none->dx≠x->sp (.ref x::(vs++[dV])) (upd (upd H1 dx (.own x)) x (.ins C dx [])) (λv H2=>v=.aA/\Q (.ref x) H2) E):vF C dV sp E t Z H Q:=q
end
section
variable {P:Program} {w:World} {K:W.Frag} {mg:Str->Option Value} {base:Heap} {x qual:Str} {st:Stmt} {N ps:List Str} {sp:Sp} {C:Addr}
theorem LL {y:Str}{dV:V}(k:Nat)(hy:mg y=some (.ref C))(h:∃ f fd dv,lg K dv "__init__" qual st f fd/\Mk K C f/\Binds K fd ps []/\Binds K fd ps [dv]/\RelV dV dv)(S:ao N ps (ag st))(len:∀ vs H Q E,sp vs H Q E->vs.length=ps.length)
   (SR:BodyOk P w K mg base k qual st N sp):C0 P w K mg base bJ (k+1) y C sp/\JV P w K mg base bJ (k+1) y C dV sp:=by
 obtain⟨f,fd,dv,F,hm,hb,UH,rv⟩:=h;exact⟨⟨f,fd,ps,hm,F.ok S len SR,hy,hb⟩,⟨f,fd,ps,dv,hm,F.ok S len SR,hy,UH,rv⟩⟩
end
end L3
namespace FB
open PySem PySem.Spec PyProof.Rows L2 L3 PySem.SeqAt
inductive Rw where
 | set (b n:Int) | copy (b o:Int) | add (b o t:Int) | sub (b o t:Int) | mul (b o t:Int) | less (b o t:Int)
 | grow (m:Int) | shrink (m:Int) | put (b c:Int) | get (b c:Int)
 | dA (t:Int) | branch (b t:Int) | call (t:Int) | back (b:Int) | drop (b:Int)
def aM (b:Int):Prop:=0<=b/\b<=7
def isVal (n:Int):Prop:=0<=n/\n<=4294967295
def aH (n:Int):Prop:=0<=n/\n<=4000
def aW (n:Int):Prop:=0<=n/\n<=2000
def Rw.ok:Rw->Prop
 | .set b n=>aM b/\isVal n
 | .copy b o=>aM b/\aM o
 | .add b o t | .sub b o t | .mul b o t | .less b o t=>aM b/\aM o/\aM t
 | .grow m | .shrink m=>aH m
 | .put b c | .get b c=>aM b/\aH c
 | .dA t | .call t=>aW t
 | .branch b t=>aM b/\aW t
 | .back b | .drop b=>aM b
def gI (xs:List Int)(i:Int):Int:=xs.getD i.toNat 0
def sI (xs:List Int)(i v:Int):List Int:=xs.set i.toNat v
theorem dw (xs:List Int)(i v:Int):(sI xs i v).length=xs.length:=by unfold sI;exact abx ..
variable {i:Int} {xs:List Int}
theorem Eb (h0 : 0<=i)(h1:i<xs.length):b_ (xs.map V.int) i=some (.int (gI xs i)):=by
 have e:i=((i.toNat:Nat):Int):=by omega
 have hl:i.toNat<xs.length:=by omega
 have z:b_ (xs.map V.int) ((i.toNat:Nat):Int)=some (.int (gI xs i)):=bw (by
   rw[aag,aaa hl];simp[gI,List.getD,aaa hl])
 rw[<- e] at z;exact z
theorem Nj {xs:List V}(h0 : 0<=i)(h1:i<xs.length):og xs.length i=some i.toNat:=by
 unfold og;rw[if_pos h0,if_pos h1]
theorem MY (xs:List Int)(i v:Int):(xs.map V.int).set i.toNat (.int v)=(sI xs i v).map V.int:=by
 unfold sI;rw[List.map_set]
variable {H:Hp} {p:Addr}
theorem Ml {k v:Int}{Q:Hp->Prop}(h:H p=some (.lst (xs.map V.int)))(h0 : 0<=k)(h1:k<xs.length)(q:Q (upd H p (.lst ((sI xs k v).map V.int)))):EL (.ref p) (.int k) (.int v) H Q :=
 uY h (Nj h0 (by rw[aac];exact h1)) (by rw[MY];exact q)
variable {Q:VK}
theorem OE {K:W.Frag}(h:aq K H p (xs.map V.int))(q:Q (.int xs.length) H):tU K [.ref p] H Q:=fj h (by rw[aac];exact q)
theorem Ik (h:H l=some (.lst [.int n]))(h0 : 0<=k)(h1:k<=4001)(q:∀ p,H p=none->Q (.ref p) (upd H p (.lst ((aat k.toNat n).map V.int)))):Ad (.ref l) (.int k) H Q:=by
 refine .inr ⟨l,k,_,rfl,rfl,h,by omega,by omega,?_,λp hp=>?_⟩
 . show 1 * k.toNat <= aal;rw[aaI];omega
 . have e : (aat k.toNat [V.int n]).flatten = (aat k.toNat n).map V.int := by
     generalize k.toNat=j
     induction j with
     | zero=>rfl
     | succ j ih=>rw[abm,acn,ih,abm];rfl
   rw[e];exact q p hp
theorem II {K:W.Frag}{a b:Addr}{ys:List Int}(ha:H a=some (.lst (xs.map V.int)))(hb:H b=some (.lst (ys.map V.int)))(hz:xs.length+ys.length<=aal)(q:∀ p,H p=none->Q (.ref p) (upd H p (.lst ((xs++ys).map V.int)))) :
   dP K (.ref a) (.ref b) H Q:=qR ha hb (by rw[aac,aac];exact hz) (by rw[<- aaF];exact q)
def cu (xs:List Int)(lo hi:Option Int):List Int:=(xs.drop (HT.ba xs.length 0 lo)).take (HT.ba xs.length xs.length hi - HT.ba xs.length 0 lo)
theorem Hq (xs:List Int)(lo hi:Option Int):fS (xs.map V.int) lo hi=(cu xs lo hi).map V.int:=by
 unfold fS cu;rw[aac,List.map_take,List.map_drop]
theorem Am (xs:List Int)(lo hi:Option Int):(cu xs lo hi).length<=xs.length:=by
 unfold cu;rw[aaz,aaZ];omega
theorem gh (xs:List Int)(h0 : 0<=k):cu xs none (some k)=xs.take k.toNat:=by
 unfold cu;have e:HT.ba xs.length 0 none=0:=rfl;have e2:HT.ba xs.length xs.length (some k)=min k.toNat xs.length:=by
   show(if k<0 then _ else _)=_;rw[if_neg (by omega)]
 rw[e,e2,List.drop_zero,Nat.sub_zero];rcases Nat.le_total k.toNat xs.length with h | h
 . rw[acL h]
 . rw[Nat.min_eq_right h,aaU,adg h]
theorem Qn {K:W.Frag}{lo hi:Option Int}(h:aq K H p (xs.map V.int))(q:∀ l,H l=none->Q (.ref l) (upd H l (.lst ((cu xs lo hi).map V.int)))):gO K (.ref p) lo hi H Q :=
 Kg h (by rw[Hq];exact q)
def Rw.run:Rw->Int->List Int->List Int->Option (Int×List Int×List Int)
 | .set b n,a,bs,pl=>some (a+1,sI bs b n,pl)
 | .copy b o,a,bs,pl=>some (a+1,sI bs b (gI bs o),pl)
 | .add b o t,a,bs,pl=>some (a+1,sI bs b ((gI bs o+gI bs t)%4294967296),pl)
 | .sub b o t,a,bs,pl=>some (a+1,sI bs b ((gI bs o - gI bs t)%4294967296),pl)
 | .mul b o t,a,bs,pl=>some (a+1,sI bs b ((gI bs o*gI bs t)%4294967296),pl)
 | .less b o t,a,bs,pl=>some (a+1,sI bs b (if gI bs o<gI bs t then 1 else 0),pl)
 | .grow m,a,bs,pl=>if (pl.length:Int)+m > 4000 then none else some (a+1,bs,pl++aat m.toNat 0)
 | .shrink m,a,bs,pl=>if (pl.length:Int)<m then none else some (a+1,bs,pl.take (pl.length - m.toNat))
 | .put b c,a,bs,pl=>if (pl.length:Int)<=c then none else some (a+1,bs,sI pl (pl.length - 1 - c) (gI bs b))
 | .get b c,a,bs,pl=>if (pl.length:Int)<=c then none else some (a+1,sI bs b (gI pl (pl.length - 1 - c)),pl)
 | .dA t,_,bs,pl=>some (t,bs,pl)
 | .branch b t,a,bs,pl=>some (if gI bs b=0 then a+1 else t,bs,pl)
 | .call t,a,bs,pl=>some (t,sI bs 7 (a+1),pl)
 | .back b,_,bs,pl=>some (gI bs b,bs,pl)
 | .drop _,_,_,_=>none
def Rw.du:Rw->Int->List Int
 | .dA t,_=>[t]
 | .branch _ t,a=>[a+1,t]
 | .back _,_=>[]
 | .drop _,_=>[]
 | _,a=>[a+1]
theorem HJ (r:Rw)(n:Int):(r.du n).length<=2:=by cases r <;> simp[Rw.du]
def Rw.aB:Rw->Int->Option Int
 | .grow m,h=>if h+m > 4000 then none else some (h+m)
 | .shrink m,h=>if h<m then none else some (h - m)
 | .put _ c,h=>if h<=c then none else some h
 | .get _ c,h=>if h<=c then none else some h
 | _,h=>some h
def fC (s p src:Nat):Nat:=if s &&& src=0 then Bt.wo s p else s ||| p
def Rw.keep:Rw->Nat->Int->Nat
 | .set b _,s,_ | .add b _ _,s,_ | .sub b _ _,s,_ | .mul b _ _,s,_ | .less b _ _,s,_=>Bt.wo s (2 ^ b.toNat)
 | .copy b o,s,_=>fC s (2 ^ b.toNat) (2 ^ o.toNat)
 | .shrink m,s,h=>Bt.wo s ((2 ^ m.toNat - 1)*2 ^ (8+h - m).toNat)
 | .put b c,s,h=>fC s (2 ^ (8+h - 1 - c).toNat) (2 ^ b.toNat)
 | .get b c,s,h=>fC s (2 ^ b.toNat) (2 ^ (8+h - 1 - c).toNat)
 | .call _,s,_=>Bt.wo s 143
 | _,s,_=>s
def Rw.ei:Rw->Str×List Int
 | .set b n=>("set",[b,n])
 | .copy b o=>("copy",[b,o])
 | .add b o t=>("add",[b,o,t])
 | .sub b o t=>("sub",[b,o,t])
 | .mul b o t=>("mul",[b,o,t])
 | .less b o t=>("less",[b,o,t])
 | .grow m=>("grow",[m])
 | .shrink m=>("shrink",[m])
 | .put b c=>("put",[b,c])
 | .get b c=>("get",[b,c])
 | .dA t=>("jump",[t])
 | .branch b t=>("branch",[b,t])
 | .call t=>("call",[t])
 | .back b=>("back",[b])
 | .drop b=>("drop",[b])
def Rw.mV:Rw->List (Str×V)
 | .set b n=>av "number" (.int n) (av "box" (.int b) [])
 | .copy b o=>av "one" (.int o) (av "box" (.int b) [])
 | .add b o t | .sub b o t | .mul b o t | .less b o t=>av "other" (.int t) (av "one" (.int o) (av "box" (.int b) []))
 | .grow m | .shrink m=>av "many" (.int m) []
 | .put b c | .get b c=>av "cell" (.int c) (av "box" (.int b) [])
 | .dA t | .call t=>av "target" (.int t) []
 | .branch b t=>av "target" (.int t) (av "box" (.int b) [])
 | .back b | .drop b=>av "box" (.int b) []
structure bE where
 SK:Addr
 cP:Addr
 bW:Addr
 cH:Addr
 Ql:Addr
 Qf:Addr
 O4:Addr
 b9:Addr
 bz:Addr
 cQ:Addr
 cO:Addr
 b8:Addr
 bp:Addr
 aV:Addr
 a8:Addr
 a9:Addr
 Pj:Addr
 PZ:Addr
 oH:Addr
 LX:Addr
 fh:Addr
 RJ:Addr
 bZ:Addr
 QF:Addr
 aw:Addr
 dO:Addr
 Pg:Addr
 Rf:Addr
 Ru:Addr
 jn:Addr
 RO:Addr
 QY:Addr
 gF:Addr
 iD:Addr
 RP:Addr
 Pf:Addr
def Rw.cls (a:bE):Rw->Addr
 | .set ..=>a.cP
 | .copy ..=>a.bW
 | .add ..=>a.cH
 | .sub ..=>a.Ql
 | .mul ..=>a.Qf
 | .less ..=>a.O4
 | .grow ..=>a.b9
 | .shrink ..=>a.bz
 | .put ..=>a.cQ
 | .get ..=>a.cO
 | .dA ..=>a.b8
 | .branch ..=>a.bp
 | .call ..=>a.aV
 | .back ..=>a.a8
 | .drop ..=>a.a9
def bA (a:bE)(H:Hp)(p:Addr)(r:Rw):Prop:=∃ dx,H p=some (.ins (r.cls a) dx r.mV)
theorem bA.same (h:bA a H p r)(s:ak H H'):bA a H' p r:=let ⟨dx,e⟩:=h;⟨dx,s _ _ e⟩
def xx:Sp:=λvs H Q _=>∃ n top:Int,vs=[.int n,.int top]/\0<=n/\n<=top/\Q (.int n) H
def xR (K:W.Frag):Sp:=λvs H Q _=>∃ (p:Addr) (xs:List Int) (b v:Int),vs=[.ref p,.int b,.int v]/\aq K H p (xs.map V.int)/\0<=b/\b<xs.length /\
 ∀ q,H q=none->Q (.ref q) (upd H q (.lst ((sI xs b v).map V.int)))
def ux (H:Hp)(x dx C:Addr)(fs:List (Str×V))(Q:VK):Prop:=H x=some (.ins C dx [])/\∀ H',(∀ b o,H b=some o->b≠x->H' b=some o)->H' x=some (.ins C dx fs)->Q .aA H'
def l_ (C:Addr)(mk:Int->Rw):Sp:=λvs H Q _=>∃ (x dx:Addr) (i:Int),vs=[.ref x,.int i]/\(mk i).ok/\ux H x dx C (mk i).mV Q
def mv (C:Addr)(mk:Int->Int->Rw):Sp:=λvs H Q _=>∃ (x dx:Addr) (i j:Int),vs=[.ref x,.int i,.int j]/\(mk i j).ok/\ux H x dx C (mk i j).mV Q
def Gg (C:Addr)(mk:Int->Int->Int->Rw):Sp:=λvs H Q _=>∃ (x dx:Addr) (i j k:Int),vs=[.ref x,.int i,.int j,.int k]/\(mk i j k).ok/\ux H x dx C (mk i j k).mV Q
variable {x:Addr}
theorem CN (hc:r.cls a=C)(q:∀ p H',ak H H'->H p=none->bA a H' p r->Q (.ref p) H')(hx:H x=none)(UL:H dx=none) :
   ux (upd (upd H dx (.own x)) x (.ins C dx [])) x dx C r.mV (λv H2=>v=.aA/\Q (.ref x) H2):=by
 refine⟨aa,λH' kp hH'=>⟨rfl,q x H' (λb o e=>?_) hx ⟨dx,by rw[hc];exact hH'⟩⟩⟩;exact kp b o (by rw[ai (af e hx),ai (af e UL)];exact e) (af e hx)
theorem A1 (hk:(mk i j).ok)(hc:(mk i j).cls a=C)(q:∀ p H',ak H H'->H p=none->bA a H' p (mk i j)->Q (.ref p) H') :
   ∀ x dx,H x=none->H dx=none->dx≠x->mv C mk (.ref x::[.int i,.int j]) (upd (upd H dx (.own x)) x (.ins C dx [])) (λv H2=>v=.aA/\Q (.ref x) H2) E:=λx dx hx UL _=>⟨x,dx,i,j,rfl,hk,CN hc q hx UL⟩
theorem Ou (hk:(mk i j k).ok)(hc:(mk i j k).cls a=C)(q:∀ p H',ak H H'->H p=none->bA a H' p (mk i j k)->Q (.ref p) H') :
   ∀ x dx,H x=none->H dx=none->dx≠x->Gg C mk (.ref x::[.int i,.int j,.int k]) (upd (upd H dx (.own x)) x (.ins C dx [])) (λv H2=>v=.aA/\Q (.ref x) H2) E:=λx dx hx UL _=>⟨x,dx,i,j,k,rfl,hk,CN hc q hx UL⟩
theorem pP:∀ b o,H b=some o->b≠x->upd (upd H x o1) x o2 b=some o:=λb o e ne=>by rw[ai ne,ai ne];exact e
theorem ml:∀ b o,H b=some o->b≠x->upd H x o1 b=some o:=λb o e ne=>by rw[ai ne];exact e
theorem Je:∀ b o,H b=some o->b≠x->upd (upd (upd H x o1) x o2) x o3 b=some o:=λb o e ne=>by rw[ai ne,ai ne,ai ne];exact e
def h_ (H:Hp)(Q:VK):Option (Int×List Int×List Int)->Prop
 | none=>∀ H',ak H H'->Q .aA H'
 | some (n,bs,pl)=>∀ (t b p:Addr) (H':Hp),ak H H'->H t=none->H b=none->H p=none->t≠b->t≠p->b≠p->H' t=some (.tup [.int n,.ref b,.ref p])->H' b=some (.lst (bs.map V.int))->H' p=some (.lst (pl.map V.int))->Q (.ref t) H'
def ez (K:W.Frag)(a:bE)(r:Rw):Sp:=λvs H Q _=>∃ (x b p:Addr) (n:Int) (bs pl:List Int),vs=[.ref x,.int n,.ref b,.ref p]/\bA a H x r/\r.ok/\aq K H b (bs.map V.int)/\bs.length=8/\(∀ v∈bs,isVal v) /\
 aq K H p (pl.map V.int)/\pl.length<=4000/\h_ H Q (r.run n bs pl)
def eB (a:bE)(r:Rw):Sp:=λvs H Q _=>∃ (x:Addr) (n:Int),vs=[.ref x,.int n]/\bA a H x r/\∀ p,H p=none->Q (.ref p) (upd H p (.lst ((r.du n).map V.int)))
def bI:Option Int->V
 | none=>.aA
 | some i=>.int i
def c9 (a:bE)(r:Rw):Sp:=λvs H Q _=>∃ (x:Addr) (h:Int),vs=[.ref x,.int h]/\bA a H x r/\Q (bI (r.aB h)) H
def dF (a:bE)(r:Rw):Sp:=λvs H Q _=>∃ (x:Addr) (s:Nat) (h:Int),vs=[.ref x,.int (s:Int),.int h]/\bA a H x r/\r.ok/\0<=h/\h<=4000/\(r.aB h).isSome=true/\Q (.int (r.keep s h:Nat)) H
def CS:Sp:=λvs H Q _=>∃ b:Int,vs=[.int b]/\0<=b/\b<=7/\Q (.int ((2 ^ b.toNat:Nat):Int)) H
def AU:Sp:=λvs H Q _=>∃ c h:Int,vs=[.int c,.int h]/\0<=c/\c<h/\h<=4000/\Q (.int ((2 ^ (8+h - 1 - c).toNat:Nat):Int)) H
def xB:Sp:=λvs H Q _=>∃ s p:Nat,vs=[.int (s:Int),.int (p:Int)]/\Q (.int (Bt.wo s p:Nat)) H
def zA:Sp:=λvs H Q _=>∃ s p t:Nat,vs=[.int (s:Int),.int (p:Int),.int (t:Int)]/\Q (.int (fC s p t:Nat)) H
variable {E:XK}
theorem K8 (h0 : 0<=b)(h1:b<=7)(q:Q (.int ((2 ^ b.toNat:Nat):Int)) H):CS [.int b] H Q E:=⟨b,rfl,h0,h1,q⟩
theorem Ju (h0 : 0<=c)(h1:c<h)(h2:h<=4000)(q:Q (.int ((2 ^ (8+h - 1 - c).toNat:Nat):Int)) H):AU [.int c,.int h] H Q E:=⟨c,h,rfl,h0,h1,h2,q⟩
theorem xq {s p:Nat}(q:Q (.int (Bt.wo s p:Nat)) H):xB [.int (s:Int),.int (p:Int)] H Q E:=⟨s,p,rfl,q⟩
theorem Ic {s p t:Nat}(q:Q (.int (fC s p t:Nat)) H):zA [.int (s:Int),.int (p:Int),.int (t:Int)] H Q E:=⟨s,p,t,rfl,q⟩
theorem FY (h0 : 0<=n)(h1:n<=top)(q:Q (.int n) H):xx [.int n,.int top] H Q E:=⟨n,top,rfl,h0,h1,q⟩
theorem Gy {K:W.Frag}{b v:Int}{E:XK}(h:aq K H p (xs.map V.int))(h0 : 0<=b)(h1:b<xs.length)(q:∀ q,H q=none->Q (.ref q) (upd H q (.lst ((sI xs b v).map V.int)))) :
   xR K [.ref p,.int b,.int v] H Q E:=⟨p,xs,b,v,rfl,h,h0,h1,q⟩
theorem fm (hb:H b=none)(hp:upd H b (.lst (bs.map V.int)) p=none)(ht:upd (upd H b (.lst (bs.map V.int))) p (.lst (pl.map V.int)) t=none)(q:h_ H Q (some (n,bs,pl))) :
   Q (.ref t) (upd (upd (upd H b (.lst (bs.map V.int))) p (.lst (pl.map V.int))) t (.tup [.int n,.ref b,.ref p])):=by
 have h1:=bq hp;have h2:=bq ht;have h3:=bq h2.1;refine q t b p _ ((ae hb).trans ((ae hp).trans (ae ht))) h3.1 hb h1.1 h3.2 h2.2 h1.2.symm aa ?_ ?_
 . rw[ai h3.2.symm,ai h1.2.symm,aa]
 . rw[ai h2.2.symm,aa]
def cellAt (ns:List Int)(k:Int):Int:=ns.getD k.toNat 0
def ix (K:W.Frag):Sp:=λvs H Q _=>∃ (p:Addr) (ns:List Int) (k:Int),vs=[.ref p,.int k]/\aq K H p (ns.map V.int)/\0<=k/\Q (.int (cellAt ns k)) H
theorem JA {K:W.Frag}{ns:List Int}{k:Int}(h:aq K H p (ns.map V.int))(h0 : 0<=k)(q:Q (.int (cellAt ns k)) H):ix K [.ref p,.int k] H Q E:=⟨p,ns,k,rfl,h,h0,q⟩
theorem Et (h0 : 0<=k)(h : ¬ k<ns.length):cellAt ns k=0:=by
 unfold cellAt;rw[aar,acy (by omega)];rfl
def qG (K:W.Frag):Sp:=λvs H Q _=>∃ (a:Addr) (ns:List Int),vs=[.ref a]/\aq K H a (ns.map V.int)/\ns.length<=63/\∀ H',Q (.bl true) H'
variable {f:Str}
theorem aG (h:f≠g)(e:fs.lookup f=some w):(av g v fs).lookup f=some w:=by rw[fP,if_neg h];exact e
theorem cq:(av f v fs).lookup f=some v:=by rw[fP,if_pos rfl]
theorem iy (h:f≠g)(e:fs.lookup f=none):(av g v fs).lookup f=none:=by rw[fP,if_neg h];exact e
theorem fN (e:fs.length<=n):(av f v fs).length<=n+1:=aaJ (lA _ _ _) (ade e)
end FB
namespace L3
open PySem PySem.Spec PyProof.Rows L2 PySem.SeqAt
section
variable {prog:Program} {w:World} {A:Around} {E:Value->Shared->Prop} {h:Heap} {g:Array GenState} {d:Drawn} {t:Nat} {os:OsState}
variable {nm q:Str} {C N:Addr} {bs bm WN:List Value} {hdct:Bool} {sn:List Str} {sub:List Value} {ab:Bool} {col:Option Bool} {dd:Option Addr} {k0 k1 k2 k3 k5:Option Value} {B Bn newId nid UA inN:String} {bmN:List Value}
theorem yj (Fn:ac4 Bn newId inN bmN)(hBn:WN.contains (.type Bn)=true)(F:ac4 B nid UA WN)(T:OwnTail h WN bm) 
   (hC:h.get? C=some (acZ nm q C N bs bm hdct sn sub ab col dd k0 k1 k2 k3 k5 newId)) (hn:h.Ns N mN) (hi:mN "__init__" = some (.ref fI)) (hfI:h.get? fI=some oI) (W_:oI.cls=.type "function")
   (hq:∀ h' e,acU h h' e (.ref C) rest->h.objs.size<=e->wpAny (model prog w) A (call (.ref fI) (.ref e::rest)) (λr s'=>r=.none/\Q (.done (.ret (.ref e))) s') E ⟨h',g,d,t,os⟩) (Ur:rest.length<=aal) :
   wpAny (model prog w) A (Builtin.«type.__call__» ⟨.ref C::rest,[]⟩) Q E ⟨h,g,d,t,os⟩:=by
 repeat (first | with_reducible refine acF hC ?_ | with_reducible refine wpAny_madeBy_exc hC ?_ | wp_step)
 refine codeAny_call_builtin_code (adN _ Fn.quiet) (wpAny_check_new_subU Fn hBn T hC (codeAny_exc_new_subU Fn hBn F T hC ?_ Ur));show wpAny _ _ _ _ _ _;have up:∀ b o,h.get? b=some o->((h.push { cls:=.type "tuple",data:=.seq rest.toArray }).push { cls:=.ref C,data:=.fields #[.ref h.objs.size,.none,.none,.none,.bool false,.none] }).get? b=some o :=
   λb o e=>aaf _ (aaf _ e)
 have hget : ((h.push { cls := .type "tuple", data := .seq rest.toArray }).push { cls := .ref C, data := .fields #[.ref h.objs.size, .none, .none, .none, .bool false, .none] }).get? (h.objs.size + 1) = some
     { cls:=.ref C,data:=.fields #[.ref h.objs.size,.none,.none,.none,.bool false,.none] }:=by heap_get
 have htup:((h.push { cls:=.type "tuple",data:=.seq rest.toArray }).push { cls:=.ref C,data:=.fields #[.ref h.objs.size,.none,.none,.none,.bool false,.none] }).get? h.objs.size=some { cls:=.type "tuple",data:=.seq rest.toArray } :=
   aaf _ (Heap.get?_push_at rfl rfl)
 have hC':=up _ _ hC;have hf':=up _ _ hfI;have hn':=hn.keeps up;have T':=T.keeps up;have hm:acU h ((h.push { cls:=.type "tuple",data:=.seq rest.toArray }).push { cls:=.ref C,data:=.fields #[.ref h.objs.size,.none,.none,.none,.bool false,.none] }) (h.objs.size+1) (.ref C) rest :=
   ⟨up,adw (abn _),h.objs.size,hget,adw (aah _),htup⟩
 have go:=hq _ _ hm (abn _);generalize ((h.push { cls:=.type "tuple",data:=.seq rest.toArray }).push { cls:=.ref C,data:=.fields #[.ref h.objs.size,.none,.none,.none,.bool false,.none] })=h1 at *;generalize h.objs.size+1=e at *;have hcC:(S8 C::bm).contains (.ref C)=true:=by simp
 unfold isInstance;repeat (first | with_reducible refine acF hget ?_ | (with_reducible refine wpAny_isSubtype_exc hC' ?_;rw[hcC]) | wp_step)
 show wpAny _ _ (typeLookup (.ref C) _) _ _ _;refine wpAny_typeLookup_tail hC' hn' T' F.mroIs F.init.lookup ?_;rw[hi];refine aa9 (aad ?_);unfold bindSpecial;refine aad (wpAny_typeOf (T:="function") ⟨_,hf',W_⟩ ?_);rw[if_pos (by decide)];refine aak (aad (aaH go (λr s' hr=>?_) λ_ _ x=>x));obtain⟨rfl,hQ⟩:=hr
 wp_walk
 exact hQ
theorem ym (Fn:ac4 Bn newId inN bmN)(hBn:WN.contains (.type Bn)=true)(F:ac4 B nid UA WN)(T:OwnTail h WN bm) 
   (hC:h.get? C=some (acZ nm q C N bs bm hdct sn sub ab col dd k0 k1 k2 k3 k5 newId)) (hn:h.Ns N mN) (hi:mN "__init__" = some (.ref fI)) (hfI:h.get? fI=some oI) (W_:oI.cls=.type "function")
   (hq:∀ h' e,acU h h' e (.ref C) rest->h.objs.size<=e->wpAny (model prog w) (A.under (.builtin "type.__call__" ⟨.ref C::rest,[]⟩)) (call (.ref fI) (.ref e::rest)) (λr s'=>r=.none/\Q (.ref e) s') E ⟨h',g,d,t,os⟩) (Ur:rest.length<=aal) :
   wpAny (model prog w) A (call (.ref C) rest) Q E ⟨h,g,d,t,os⟩:=by
 have f1:=tc_lookup;have f2:=tc_bind (.ref C);have hT:(⟨h,g,d,t,os⟩:Shared).TypeIs (.ref C) "type":=⟨_,hC,rfl⟩
 refine acR (codeAny_of_tree ?_);show wpAny _ _ (callAny (.ref C) _) _ _ _;repeat (any_goals (first | assumption | with_reducible refine acF hC ?_ | wp_step))
 exact⟨rfl,codeAny_call_builtin_at (adN _ (by nofun)) entry_typeCall (wpAny_check_type_call_sub hC (yj Fn hBn F T hC hn hi hfI W_ (λh' e hm hz=>hq h' e hm hz) Ur))⟩
end
def XB (e C:Addr)(od:Option Addr):HO:=.ext λh=>∃ t,h.get? e=some { cls:=.ref C,dict:=od,data:=.fields #[.ref t,.none,.none,.none,.bool false,.none] }
variable {od:Option Addr} {e C:Addr} {h:Heap} {H:Hp}
theorem Dv (q:h.get? e=some { cls:=.ref C,dict:=od,data:=.fields #[.ref t,.none,.none,.none,.bool false,.none] }):bX P w H h e (XB e C od) :=
 ⟨⟨t,q⟩,⟨_,q⟩,λ_ _ ⟨t,z⟩ k=>⟨t,k _ z⟩⟩
theorem y_ (x:de P w H h)(q:H e=some (XB e C od)):∃ t,h.get? e=some { cls:=.ref C,dict:=od,data:=.fields #[.ref t,.none,.none,.none,.bool false,.none] }:=(x e _ q).1
theorem N4 (h:H a=some o):upd H a o=H:=by
 funext b;unfold upd;split
 . rename_i z;rw[z,h]
 . rfl
variable {mN:Str->Option Value}
theorem DJ {K:W.Frag}{N:Addr}{n:Str}{v:Value}(X:K.In h)(G:h.Ns N mN)(e:W.nsIn K N n=some (some v)):mN n=some v:=by
 obtain⟨o,es,ep,ho,hd,_,hf⟩:=G;unfold W.nsIn at e;split at e
 . rename_i q
   have:=X _ _ q
   rw[ho] at this;cases this
   cases hd
   split at e
   . rename_i y he;rw[<- hf];unfold nsFind findBy;rw[<- Array.find?_toList,he];exact aaw e
   . split at e <;> cases e
 . cases e
def qD (K:W.Frag)(C f:Addr):Bool:=match K.lookup C with
 | some ⟨.type "type", _, .cls cd, sl⟩ => (match cd.mro, sl.toList with
   | .ref C'::bm,[_,_,_,_,some (.builtin n),_]=>C' == C && n == "ValueError.__new__" && !cd.hasDel && W.tailIn K [.type "ValueError",.type "Exception",.type "BaseException",.type "object"] bm && W.nsOkIn K cd.ns && W.nsIn K cd.ns "__init__" == some (some (.ref f)) && W.typeIn K (.ref f) == some (.type "function")
   | _,_=>false)
 | _=>false
structure kU (K:W.Frag)(mg:Str->Option Value)(x:Str)(C f:Addr):Prop where
 glob:mg x=some (.ref C)
 ex:qD K C f=true
variable {f:Addr} {x:Str}
theorem kU.obj {K:W.Frag}{mg:Str->Option Value}(c:kU K mg x C f)(X:K.In h) :
   ∃ (bm:List Value) (N:Addr) (nm qn:Str) (bs:List Value) (hd:Bool) (sn:List Str) (sub:List Value) (ab:Bool) (col:Option Bool) (dd:Option Addr) (k0 k1 k2 k3 k5:Option Value) (mN:Str->Option Value) (o:Obj),
     h.get? C=some (acZ nm qn C N bs bm hd sn sub ab col dd k0 k1 k2 k3 k5 "ValueError.__new__")/\h.Ns N mN/\mN "__init__" = some (.ref f) /\
     OwnTail h [.type "ValueError",.type "Exception",.type "BaseException",.type "object"] bm/\h.get? f=some o/\o.cls=.type "function":=by
 have hq:=c.ex;unfold qD at hq;split at hq
 . rename_i dd cd sl W6;split at hq
   . rename_i C' bm k0 k1 k2 k3 id k5 VF V3;simp only[aaM,ac1,beq_iff_eq] at hq;obtain⟨⟨⟨⟨⟨⟨e1,e2⟩,e3⟩,e4⟩,e5⟩,e6⟩,e7⟩:=hq;subst e1 e2;obtain⟨nm,bs,mro,ns,qn,hd,sn,sub,ab,col,del⟩:=cd;dsimp only at VF e3 e5 e6;subst VF e3;obtain⟨sl⟩:=sl;dsimp only at V3;subst V3;obtain⟨o,ho,hoc⟩:=Option.map_eq_some_iff.mp e7;have G:h.Ns ns (h.nsMap ns):=.of_isNs (W.isNs_of_in X e5);exact⟨bm,ns,nm,qn,bs,hd,sn,sub,ab,col,dd,k0,k1,k2,k3,k5,_,o,X _ _ W6,G,DJ X G e6,W.tail_of_in X e4,X _ _ ho,hoc⟩
   . cases hq
 . cases hq
structure JJ (K:W.Frag)(mg:Str->Option Value)(x:Str)(B:Addr):Prop where
 glob:mg x=some (.ref B)
 sp:W.specialIn K (.ref B) "__getattribute__" = some (some (.builtin "type.__getattribute__"))
 rd:W.readsIn K B (.type "type")=true
 fc:(match W.findCls K (.ref B) (.type "type") "__init__" with | some (.val v)=>v == .builtin "ValueError.__init__" | _=>false)=true
def Kt (C:Addr)(t:TA):TE:=λZ H Q=>t Z H λvs H1=>∃ e u,vs=[.ref e,u]/\H1 e=some (XB e C none)/\Q .aA H1
variable {X:Cx}
theorem Cu {y : Str}{B : Addr}{np SW SQ : Pos}{a0 : Expr}{as : List Expr}{t : TA}{pl : Sem Bool}(b : JJ X.K X.mg x B)(c : kU X.K X.mg y C f)(hg : Gl X x)(ha : PA X (a0 :: as) t)(Tn : (x == ("__debug__" : Str)) = false := by decide)
   (hs:aai (a0::as) X.env=(false,eval a0 X.env)::aai as X.env:=by rfl) (Tb:(backTo SQ (aai as X.env)).any (·.1)=false:=by rfl)
   (ht : eval (.Call (.Attribute (.Name x np) "__init__" SW) (a0 :: as) [] SQ) X.env = (do
     let ov <- eval (.Name x np) X.env
     standAt SW.atName
     let (f,first) <- holding [ov] (acX ov "__init__" pl)
     ac2 SQ f first (backTo SQ (aai (a0::as) X.env)) (ac3 SQ (abU [] X.env))):=by rfl) :
   PE X (.Call (.Attribute (.Name x np) "__init__" SW) (a0::as) [] SQ) (Kt C t):=by
 intro gV s Z H Q I h;refine W.methodCall_KW (pl:=pl) (eX I hg b.glob ?_ Tn) ht;have fc:=b.fc;split at fc
 . rename_i v hv;have ev:v=.builtin "ValueError.__init__":=beq_iff_eq.mp fc;subst ev;refine W.method_cls I.df b.sp (W.cls_value I.df b.rd hv (by nofun) ?_);have hA:=ha SQ gV _ Z H _ (I.tok (s.toks+1)) h;rw [hs] at hA ⊢;refine adb (first:=[]) (by show (false || (backTo SQ (aai as X.env)).any (·.1))=false;rw [Tb] <;> rfl) (acD ?_);refine aQ hA λus s2 zq=>?_;obtain ⟨vs,H2,I2,r2,e,u,ev,he,q⟩:=zq;subst ev;obtain ⟨t,he'⟩:=y_ I2.az he;obtain ⟨bm,N',nm,qn,bs,hd,sn,sub,ab,col,dd,k0,k1,k2,k3,k5,mN,o,hC,hN,hni,TL,hf,W_⟩:=c.obj I2.df;obtain ⟨v1,v2,rfl,rv1,rv2⟩:=vals2 r2;cases (show v1=S8 e from rv1)
   obtain⟨hp,g,d,tk,os⟩:=s2;refine acR (acP PySem.F.excBase_ValueError.init.plain PySem.F.excBase_ValueError.initEntry (wpAny_check_init_subU abo TL hC he' rfl ?_))
   wp_walk
   refine⟨.aA,H2,?_,rfl,q⟩;have ep:(hp.push { cls:=.type "tuple",data:=.seq #[v2] }).get? e=some { cls:=.ref C,dict:=none,data:=.fields #[.ref t,.none,.none,.none,.bool false,.none] }:=aaf _ he';have e0:((hp.push { cls:=.type "tuple",data:=.seq #[v2] }).update e (aca (·.setIfInBounds 0 (S8 hp.objs.size)))).get? e=some { cls:=.ref C,dict:=none,data:=.fields #[.ref hp.objs.size,.none,.none,.none,.bool false,.none] } :=
     abb _ ep rfl
   have I3 := I2.write (t' := tk) (x := e) (e := e) (o := XB e C none) (h' := (hp.push { cls := .type "tuple", data := .seq #[v2] }).update e (aca (·.setIfInBounds 0 (S8 hp.objs.size)))) (by rw [he]; exact aas) (.inl rfl)
     (λb u hb z=>(aa7 _ _ (Ne.symm hb)).trans (aaf _ z)) ⟨_,e0⟩ (Dv (t:=hp.objs.size) e0)
   rw[N4 he] at I3;exact I3
 . cases fc
open PySem PySem.Spec PyProof.Rows L2 PySem.SeqAt PySem.W Builtin Builtin.ObjectAttr
abbrev vZ:List Value:=[.type "ValueError",.type "Exception",.type "BaseException",.type "object"]
def qH:List Value->Bool
 | .ref _::r=>qH r
 | l=>l == vZ
theorem uN (self:Value):∀ {l:List Value},qH l=true->refuseLoop self "__setattr__" l=pure ()
 | [],e=>by cases e
 | v :: r, e => by
   cases v with
   | ref c=>rw[refuseLoop_ref];exact uN self e
   | _=>rw[beq_iff_eq.mp (show((_::r) == vZ)=true from e)];exact PySem.F.store_ValueError.passes self
theorem CY:∀ {l:List Value},qH l=true->l.contains (.type "object")=true
 | [],e=>by cases e
 | v :: r, e => by
   cases v with
   | ref c=>rw[List.contains_cons,CY (l:=r) e,Bool.or_true]
   | _=>rw[beq_iff_eq.mp (show((_::r) == vZ)=true from e)];nofun
structure vV (K:W.Frag)(C:Addr)(name:Str):Prop where
 sa:aa_ K (.ref C) "__setattr__" = some (some (.builtin "object.__setattr__"))
 mro:((W.clsIn K C).any λcd=>qH cd.mro)=true
 no:aa_ K (.ref C) name=some none
 hd:((W.clsIn K C).any (·.hasDict))=true
section
variable {prog:Program} {w:World} {A:Around} {E:Value->Shared->Prop} {s:Shared} {K:W.Frag} {x C t:Addr} {name:Str} {v:Value}
theorem KY (X:K.In s.heap)(I:W.InstAt s.heap x ox C none)(S:vV K C name)
   (h:∀ b,wpAny (model prog w) A.in1 (storeInOwnDict (.ref x) (.ref C) (.str name tk) name v b) (λS0 s'=>match S0 with | .done f=>R (.ok f) s' | .again c'=>c'.quiet=true/\codeAny (model prog w) A c' R s') (λe s'=>R (.error e) s') s) :
   codeAny (model prog w) A (.call (.builtin "object.__setattr__") ⟨[.ref x,.str name tk,v],[]⟩) R s:=by
 have SF:=PySem.F.store_object;obtain⟨cd,hc,ho⟩:=W.any_some S.mro;have ne:cd.mro.isEmpty=false:=by cases q:cd.mro with | nil=>rw[q] at ho;cases ho | cons _ _=>rfl
 have sub:W.Looks (model prog w) s.heap (isInstance (.ref x) (.type "object")) true:=I.type.andThen (W.looks_mroIn X (by unfold W.mroIn;rw[hc,Option.bind_some,if_neg (by rw[ne];decide),CY ho]));refine acP SF.slot.plain SF.entry (@check_slot (model prog w) _ _ s "object.__setattr__" "object" "__setattr__" (.ref x) [.str name tk,v] [] _ SF.kind SF.split sub (SF.args (.ref x) (.str name tk) v) ?_);have hm:W.Looks (model prog w) s.heap (mroOf (.ref C)) cd.mro:=(W.looks_clsIn X hc).andThen .now;rw[W.osa_eq,refuse_eq];refine aad (aad (I.type.here (aad (hm.here ?_))));rw[uN _ ho];refine aak (aad (I.type.here (aad ((W.looks_findIn X S.no).here (aad (aak ?_))))));exact h _
theorem Lh (X:K.In s.heap)(hx:s.heap.get? x=some { cls:=.ref C,dict:=none,data:=.fields #[.ref t,.none,.none,.none,.bool false,.none] })(S:vV K C name)
   (h:∀ h' tk,h'.Ns1 s.heap.objs.size (λy=>if y=name then some v else none)->h'.get? x=some { cls:=.ref C,dict:=some s.heap.objs.size,data:=.fields #[.ref t,.none,.none,.none,.bool false,.none] }->(∀ b o,b≠x->s.heap.get? b=some o->h'.get? b=some o)->Q () { s with heap:=h',toks:=tk }) :
   wpAny (model prog w) A (setAttr (.ref x) name v) Q E s:=by
 have J:W.InstAt s.heap x { cls:=.ref C,dict:=none,data:=.fields #[.ref t,.none,.none,.none,.bool false,.none] } C none:=⟨hx,rfl,rfl,aas⟩
 refine W.set_plain X J S.sa (KY (s:={ s with toks:=s.toks+1 }) X J S λb=>?_);obtain⟨cd,hc,WI⟩:=W.any_some S.hd;obtain⟨hp,g,d,tk,os⟩:=s;have hx₁ : (hp.push { cls:=.type "dict",data:=.dict #[] }).get? x=some { cls:=.ref C,dict:=none,data:=.fields #[.ref t,.none,.none,.none,.bool false,.none] }:=aaf _ hx;have Wy:x≠hp.objs.size:=aaC (aap hx);refine aad (aak (aad (aad (wpAny_loadPart hx (aad (W.Looks.here (s:=⟨hp,g,d,tk+1,os⟩) (W.looks_clsIn X hc) ?_))))));rw[WI];refine aad (wpAny_alloc' ?_);refine aad (wpAny_update' hx₁ ?_);have hgd:((hp.push { cls:=.type "dict",data:=.dict #[] }).update x λo=>{ cls:=o.cls,dict:=some hp.objs.size,data:=o.data,slots:=o.slots }).get? hp.objs.size=some { cls:=.type "dict",data:=.dict #[] } :=
   (Heap.get?_update_ne _ _ _ _ Wy.symm).trans (Heap.get?_push_at rfl rfl)
 have hge:((hp.push { cls:=.type "dict",data:=.dict #[] }).update x λo=>{ cls:=o.cls,dict:=some hp.objs.size,data:=o.data,slots:=o.slots }).get? x=some { cls:=.ref C,dict:=some hp.objs.size,data:=.fields #[.ref t,.none,.none,.none,.bool false,.none] } :=
   abb _ hx₁ rfl
 have Us:((hp.push { cls:=.type "dict",data:=.dict #[] }).update x λo=>{ cls:=o.cls,dict:=some hp.objs.size,data:=o.data,slots:=o.slots }).Ns hp.objs.size (λ_=>none) :=
   ⟨_,#[],_,hgd,rfl,λe he=>absurd he (by simp),λ_=>rfl⟩
 refine aak ?_;show wpAny _ _ (storeInDict hp.objs.size (.str name tk) name v) _ _ _;unfold storeInDict newKeyGuard;refine aad (aak (aad (wpAny_nsSet1 (Heap.Ns1.of_empty Us) λh' hn' hs=>?_)));obtain⟨oD,esD,epD,hoD,hdD,hcD⟩:=hn'.count (Within.cons name v Within.nil);refine aad (wpAny_lookBehind hoD (by rw[hdD];exact pastItsLine_dict (aaJ hcD (by rw[aaA,acJ,aaI];omega))) ?_);refine aak ?_;exact h h' _ hn' ((hs.2 x Wy).trans hge) λb o hb z=>(hs.2 b (aaC (aap z))).trans ((Heap.get?_update_ne _ _ _ _ hb).trans (aaf _ z))
end
section
variable {X:Cx} {gV:List (Addr×Obj)} {Z : L2.St} {H:Hp} {s:Shared} {a C:Addr} {f:Str} {A:Around} {E:Value->Shared->Prop}
theorem BN (I:Inv X gV Z H s)(e:H a=some (XB a C none))(S:vV X.K C f)(ry:RelV y u)
   (h:∀ d s',H d=none->Inv X gV Z (upd (upd H d (.xd [(f,y)])) a (XB a C (some d))) s'->Q () s'):wpAny (model X.prog X.w) A (setAttr (.ref a) f u) Q E s:=by
 obtain⟨t,hx⟩:=y_ I.az e;refine Lh I.df hx S λh' tk hn Wz hk=>h s.heap.objs.size _ (I.az.fresh (aah _)) ?_;have fr:=I.az.fresh (aah s.heap.objs.size);have na:a≠s.heap.objs.size:=aaC (aap hx);have nd:∀ b o,s.heap.get? b=some o->b≠s.heap.objs.size:=λb o z=>aaC (aap z);have oth:∀ b,b≠a->b≠s.heap.objs.size->upd (upd H s.heap.objs.size (.xd [(f,y)])) a (XB a C (some s.heap.objs.size)) b=H b:=λb h1 h2=>by rw[ai h1,ai h2]
 have nm:∀ b,H b=none->b≠a:=λb z q=>by rw[q,e] at z;cases z
 have nt:∀ b o,H b=some o->(∀ φ,o≠.ext φ)->b≠a:=λb o z q r=>by rw[r,e] at z;exact q _ (aaw z).symm
 refine I.un (t':=tk) ⟨λb o q n hb _=>hk b o (nm b n) q,λb o q n hb _=>⟨o.slots,hk b o (nm b n) q⟩,λb o q n _=>?_,λb o q _=>?_,λb xs q=>?_,λb o u q=>?_,λb ps q=>⟨#[],?_⟩⟩ λb o q=>?_
 . rw[oth b (nm b n) (nd b o q)];exact n
 . by_cases hb:b=a
   . subst hb;exact⟨_,Wz⟩
   . exact⟨o,hk b o hb q⟩
 . rw[oth b (nt b _ q λ_ z=>nomatch z) (af q fr)];exact q
 . rw[oth b (nt b _ q λ_ z=>nomatch z) (af q fr)];exact q
 . rw[oth b (nt b _ q λ_ z=>nomatch z) (af q fr),Array.append_empty];exact q
 . by_cases hb:b=a
   . subst hb;rw[aa] at q;cases q
     exact Dv Wz
   . rw[ai hb] at q;by_cases hd:b=s.heap.objs.size
     . subst hd;rw[aa] at q;cases q
       refine⟨_,hn,λg=>?_⟩;show fe (abv g [(f,y)]) (if g=f then some u else none);by_cases z:g=f
       . subst z;rw[if_pos rfl,aa8,beq_self_eq_true];exact ry
       . rw[if_neg z,aa8,beq_eq_false_iff_ne.mpr z];exact aas
     . rw [ai hd] at q;refine (I.az b o q).iT (λc v hc z=>hk c v (λr=>?_) z) (λc z=>?_) λc xs z=>?_
       . subst r;rcases hc with hc | hc
         . exact hb hc.symm
         . rw[e] at hc;cases hc
       . rw[oth c (nt c _ z λ_ z=>nomatch z) (af z fr)];exact z
       . rw[oth c (nt c _ z λ_ z=>nomatch z) (af z fr)];exact z
end
def sX (K:W.Frag)(ta tv:TE)(f:Str):TS:=λD Z H=>tv Z H λy H1=>ta Z H1 λx H2=>∃ a C,x=.ref a/\H2 a=some (XB a C none)/\vV K C f/\∀ d,H2 d=none->D.nx Z (upd (upd H2 d (.xd [(f,y)])) a (XB a C (some d)))
variable {pos:Pos} {tv:TE}
theorem Lq {o value:Expr}{ta:TE}{f:Str}{Ts:Pos}(ha:PE X o ta)(hv:PE X value tv)(hs:acW value (some (.Attribute o f Ts)) pos.line X.env=pure false):PS X (.Assign [.Attribute o f Ts] value pos) (sX X.K ta tv f):=by
 intro gV s Z H D I h;refine plainObj_wpAny_Assign_Attribute (aQ (hv gV s Z H _ I h) λu s1 zq=>bN zq λy H1 I1 ry q=>aQ (ha gV s1 Z H1 _ I1 q) λov s2 zq=>?_) hs;obtain⟨x,H2,I2,rx,a,C,ex,ea,S,q2⟩:=zq;subst ex;obtain rfl:ov=S8 a:=rx;exact BN I2 ea S ry λd s3 hd I3=>⟨Z,_,I3,q2 d hd⟩
def C9 (C:Addr)(f:Str):Sp:=λvs H Q _=>∃ (e:Addr) (i:Int),vs=[.ref e,.int i]/\H e=some (XB e C none)/\i.natAbs.log2<1900/\∀ d,H d=none->Q .aA (upd (upd H d (.xd [(f,.int i)])) e (XB e C (some d)))
def ia (base:Heap)(l:List Env)(e:Addr)(cls:Value)(od:Option Addr)(fl:Value)(h:Heap):Prop :=
 base.StaysIn h/\base.get? e=none/\h.FunFrames base l/\∃ oe vs T oT ts,h.get? e=some oe/\oe.cls=cls/\oe.dict=od/\oe.data=.fields vs/\vs[1]? = some (.ref T)/\base.get? T=none/\T≠e/\h.get? T=some oT/\oT.data=.fields ts/\ts[3]? = some fl
theorem vX (f:Array Value->Array Value)(o:Obj):(aca f o).dict=o.dict:=by
 obtain⟨c,d,dt,sl⟩:=o;cases dt <;> rfl
section
variable {M:Model} {A:Around} {E:Value->Shared->Prop} {s:Shared}
theorem ip {x:Addr}{o:Obj}{vs:Array Value}(hx:h.get? x=some o)(hd:o.data=.fields vs){b:Addr}{u:Obj}(hb:h.get? b=some u)(hn:∀ ws,u.data≠.fields ws):b≠x:=λq=>by
 rw[q,hx] at hb;cases hb
 exact hn vs hd
theorem G1 {base:Heap}{env:Env}{outer:List Env}{L e:Addr}{oe:Obj}{vs:Array Value}{head:Value}{hadNext:Bool}{Q:Unit->Shared->Prop}
   (Ut:A.frames=some (env::outer)) (hl:s.heap.FunFrames base (env::outer)) (hf:env.frame=some L) (he:s.heap.get? e=some oe) (WC:base.StaysIn s.heap) (VO:base.get? e=none) (hd:oe.data=.fields vs) (hsz : 1<vs.size)
   (h:∀ h',ia base (env::outer) e oe.cls oe.dict (rawInt L) h'->s.heap.UpToSlots h'->Q () { s with heap:=h' }) :
   wpAny M A (do let a <- frameOf env;let pl <- entryPlaceOf L hadNext;let b <- EntryCells.newEntry head a .none (rawInt L) .none pl;setField (.ref e) 1 b) Q E s:=by
 have hene:e ∉ (env::outer).filterMap (·.frame):=λhm=>by
   obtain⟨_,o,ho,hnf⟩:=hl.mem hm;exact ip he hd ho hnf rfl
 refine aad (wpAny_frameOf_fun Ut hl hf λh₁ hs₁=>aad (wpAny_entryPlaceOf λpl SS=>?_));unfold EntryCells.newEntry newFields;refine aad (abp ?_ (SS.sizeOk5 _ _ _ _ _));have he₁ : h₁.get? e=some oe:=(hs₁.2.1 e hene).trans he;have kb₁ : base.StaysIn h₁:=λb o hbo=>(hs₁.2.1 b λhm=>by rw[(hl.mem hm).1] at hbo;cases hbo).trans (WC b o hbo);have hts:∃ ts:Array Value,([head,.ref L,.none,rawInt L,.none]++(if pl.isEmpty then aat 6 abj else pl)).toArray=ts/\ts[3]? = some (rawInt L):=⟨_,rfl,by first | (simp;done) | (rcases SS with rfl | ⟨_,_,_,_,_,_,_,rfl⟩ <;> simp)⟩
 obtain⟨ts,ets,h3⟩:=hts;rw[ets];have he₂:=aaf (h:=h₁) { cls:=.type "traceback",dict:=none,data:=.fields ts } he₁;have hTe:h₁.objs.size≠e:=abP (aap he₁);refine ac_ he₂ hd hsz (h _ ?_ ?_)
 . have hd₃ := acd hd (·.setIfInBounds 1 (S8 h₁.objs.size));have he₃:=abb (aca (·.setIfInBounds 1 (S8 h₁.objs.size))) he₂ (ads hd₃);have ot:∀ b o,b≠e->h₁.get? b=some o->((h₁.push { cls:=.type "traceback",dict:=none,data:=.fields ts }).update e (aca (·.setIfInBounds 1 (S8 h₁.objs.size)))).get? b=some o:=λb o hb z =>
     (aa7 _ _ (Ne.symm hb)).trans (aaf _ z)
   refine⟨λb o z=>ot b o (λq=>by rw[q,VO] at z;cases z) (kb₁ b o z),VO,hl.of_keeps λb o z hn=>?_,?_⟩
   . obtain⟨sl, z'⟩ := hs₁.2.2 b o z;exact⟨_,ot b _ (ip he hd z hn) z',rfl⟩
   . refine⟨_, _, h₁.objs.size, { cls := .type "traceback", dict := none, data := .fields ts }, ts, he₃, Obj.cls_mapFields _ _, vX _ _, hd₃, by simp[hsz], kb₁.fresh, hTe, ?_, rfl, h3⟩;exact(aa7 _ _ (Ne.symm hTe)).trans (aau h₁ rfl)
 . intro b o z hn;obtain⟨sl,z'⟩:=hs₁.2.2 b o z;exact⟨sl,(aa7 _ _ (Ne.symm (ip he hd z hn))).trans (aaf _ z')⟩
variable {L:Addr} {outer:List Env} {env:Env}
theorem JS {base:Heap}{cls:Value}{Q:Unit->Shared->Prop}(Ut:A.frames=some (env::outer))(hf:env.frame=some L)(WG:ia base (env::outer) e cls od .none s.heap)
   (h:∀ h',ia base (env::outer) e cls od (rawInt L) h'->s.heap.UpToSlots h'->Q () { s with heap:=h' }):wpAny M A (noteFrame (.ref e) env) Q E s:=by
 obtain⟨WC,VO,hl,oe,vs,T,oT,ts,he,rfl,rfl,hd,h1,hnT,hTe,hT,WH,h3⟩:=WG;unfold noteFrame;simp only[hf];refine aad (abr he hd h1 ?_);rw[if_pos (show(S8 T != abj)=true from by simp)];refine aad (abr hT WH h3 ?_);rw[if_neg (show ¬ ((abj == rawInt L)=true) from by simp[rawInt])];refine aad (ac_ hT WH (Array.getElem?_eq_some_iff.mp h3).1 ?_);have ot:∀ b,b≠T->(s.heap.update T (aca (·.setIfInBounds 3 abj))).get? b=s.heap.get? b:=λb hb=>aa7 _ _ (Ne.symm hb)
 refine G1 Ut (hl.of_keeps λb o hb hnf => ⟨o, (ot b (ip hT WH hb hnf)).trans hb, rfl⟩) hf ((ot e (Ne.symm hTe)).trans he) (λb o z => (ot b λq => by rw [q, hnT] at z; cases z).trans (WC b o z)) VO hd (Array.getElem?_eq_some_iff.mp h1).1
   λh' f1 f2=>h h' f1 λb o z hn=>f2 b o ((ot b (ip hT WH z hn)).trans z) hn
theorem qv {base:Heap}{l:List Env}{cls fl:Value}{Q:Unit->Shared->Prop}(WG:ia base l e cls od fl s.heap)
   (h:∀ h',ia base l e cls od .none h'->s.heap.UpToSlots h'->Q () { s with heap:=h' }):wpAny M A (setFlight (.ref e) none) Q E s:=by
 obtain⟨WC,VO,hl,oe,vs,T,oT,ts,he,rfl,rfl,hd,h1,hnT,hTe,hT,WH,h3⟩:=WG;have hsz3 : 3<ts.size:=(Array.getElem?_eq_some_iff.mp h3).1;unfold setFlight;refine aad (abr he hd h1 ?_);rw[if_pos (show(S8 T != abj)=true from by simp)];have ot:∀ b,b≠T->(s.heap.update T (aca (·.setIfInBounds 3 ((none:Option Addr).elim abj λf=>rawInt f)))).get? b=s.heap.get? b:=λb hb=>aa7 _ _ (Ne.symm hb);refine ac_ hT WH hsz3 (h _ ⟨λb o z=>(ot b λq=>by rw[q,hnT] at z;cases z).trans (WC b o z),VO,hl.of_keeps λb o hb hnf=>⟨o,(ot b (ip hT WH hb hnf)).trans hb,rfl⟩,?_⟩ λb o hb hnf=>⟨o.slots,(ot b (ip hT WH hb hnf)).trans hb⟩);exact⟨oe,vs,T,_,_,(ot e (Ne.symm hTe)).trans he,rfl,rfl,hd,h1,hnT,hTe,abb _ hT (ads (acd WH _)),acd WH _,by simp[hsz3]⟩
theorem ia.out (x:ia base (env::outer) e cls od fl h):ia base outer e cls od fl h:=⟨x.1,x.2.1,x.2.2.1.2.2,x.2.2.2⟩
theorem KS (Ut:A.frames=some (env::outer))(hf:env.frame=some L)(WG:ia base (env::outer) e cls od .none s.heap)
   (h:∀ h',ia base outer e cls od .none h'->s.heap.UpToSlots h'->Q () { s with heap:=h' }):wpAny M A (leaving env (.ref e)) Q E s:=by
 unfold leaving;refine aad (JS Ut hf WG λh1 f1 u1=>qv f1 λh2 f2 u2=>h h2 f2.out (u1.trans u2))
theorem Co {e:Addr}(Ut:A.frames=some (env::outer))(hl:s.heap.FunFrames base (env::outer))(hf:env.frame=some L)
   (he:s.heap.get? e=some oe) (WC:base.StaysIn s.heap) (VO:base.get? e=none) (hd:oe.data=.fields vs) (h1:vs[1]? = some .none)
   (h:∀ h',ia base outer e oe.cls oe.dict .none h'->s.heap.UpToSlots h'->Q () { s with heap:=h' }):wpAny M A (leaving env (.ref e)) Q E s:=by
 unfold leaving noteFrame;simp only[hf];refine aad (aad (abr he hd h1 ?_));rw[if_neg (by decide)];exact G1 Ut hl hf he WC VO hd (Array.getElem?_eq_some_iff.mp h1).1 λh1 f1 u1=>qv f1 λh2 f2 u2=>h h2 f2.out (u1.trans u2)
end
section
variable {M:Model} {A:Around} {E:Value->Shared->Prop} {env:Env}
variable {nm q:Str} {C N:Addr} {bs bm:List Value} {hdct:Bool} {sn:List Str} {sub:List Value} {ab:Bool} {col:Option Bool} {dd:Option Addr} {k0 k1 k2 k3 k5:Option Value} {newId:String}
theorem Fs {s:Shared}{x:Sem Value}{Q:Flow->Shared->Prop}(Ti:bm.contains (.type "BaseException")=true)(hh:A.handled=none)
   (h:wpAny M A x (λv s₁=>∃ e t od,v=.ref e/\s₁.heap.get? C=some (acZ nm q C N bs bm hdct sn sub ab col dd k0 k1 k2 k3 k5 newId)/\s₁.heap.get? e=some { cls:=.ref C,dict:=od,data:=.fields #[.ref t,.none,.none,.none,.bool false,.none] }/\E (.ref e) s₁) E s):wpAny M A (raiseStmt env (some x) none) Q E s:=by
 have hcB:(S8 C::bm).contains (.type "BaseException")=true:=by rw[List.contains_cons,Ti,Bool.or_true]
 unfold raiseStmt;refine aad (aaH h (λv s₁ h₁=>?_) λ_ _ x=>x);obtain⟨e,t,od,rfl,hC,he,hE⟩:=h₁;obtain⟨hp,g,d,tk,os⟩:=s₁;repeat (first | with_reducible refine acF he ?_ | with_reducible refine acF hC ?_ | (with_reducible refine wpAny_isSubtype_exc hC ?_;rw[hcB]) | wp_step)
 exact wpAny_raiseNew_none hh hE
end
section
variable {prog:Program} {w:World} {A:Around} {E:Value->Shared->Prop} {s:Shared} {env:Env}
variable {nm q:Str} {C N:Addr} {bs bm WN:List Value} {hdct:Bool} {sn:List Str} {sub:List Value} {ab:Bool} {col:Option Bool} {dd:Option Addr} {k0 k1 k2 k3 k5:Option Value} {B Bn newId nid UA inN:String} {bmN:List Value}
theorem D1 (Fn:ac4 Bn newId inN bmN)(hBn:WN.contains (.type Bn)=true)(F:ac4 B nid UA WN){mN:Str->Option Value}{x:Str}{np SQ pos:Pos} 
   (Ti:bm.contains (.type "BaseException")=true) (hh:A.handled=none) (Tb:(backTo SQ (aai args env)).any (·.1)=false) (hi:mN "__init__" = some (.ref fI)) (W_:oI.cls=.type "function")
   (h:wpAny (model prog w) A (eval (.Name x np) env) (λf s₁=>f=.ref C/\wpAny (model prog w) A (evalArgs (.ref C) true (backTo SQ (aai args env)) [])
     (λa s₂=>a.kw=[]/\a.pos.length<=aal/\s₂.heap.get? C=some (acZ nm q C N bs bm hdct sn sub ab col dd k0 k1 k2 k3 k5 newId)/\s₂.heap.Ns N mN/\OwnTail s₂.heap WN bm/\s₂.heap.get? fI=some oI /\
       ∀ h' e,acU s₂.heap h' e (.ref C) a.pos->s₂.heap.objs.size<=e->wpAny (model prog w) (A.under (.builtin "type.__call__" ⟨.ref C::a.pos,[]⟩)) (call (.ref fI) (.ref e::a.pos))
         (λr s'=>r=.none/\s'.heap.get? C=some (acZ nm q C N bs bm hdct sn sub ab col dd k0 k1 k2 k3 k5 newId)/\(∃ t od,s'.heap.get? e=some { cls:=.ref C,dict:=od,data:=.fields #[.ref t,.none,.none,.none,.bool false,.none] })/\E (.ref e) s') E { s₂ with heap:=h' }) E s₁) E s) :
   wpAny (model prog w) A (exec (.Raise (some (.Call (.Name x np) args [] SQ)) none pos) env) Q E s:=by
 rw[arm_exec_Raise];refine aad (acu (Fs (C:=C) (nm:=nm) (q:=q) (N:=N) (bs:=bs) (bm:=bm) (hdct:=hdct) (sn:=sn) (sub:=sub) (ab:=ab) (col:=col) (dd:=dd) (k0:=k0) (k1:=k1) (k2:=k2) (k3:=k3) (k5:=k5) (newId:=newId) Ti hh ?_));refine aad (aaH (wpAny_Call_ofName (aaH h (λf s₁ h₁=>?_) λ_ _ x=>x)) (λv s₃ h₃=>aad (acu (aak h₃))) λ_ _ x=>x);obtain⟨rfl,h₁⟩:=h₁;unfold ac2;refine aad (aa9 (aaH h₁ (λa s₂ h₂=>aad (acu ?_)) λ_ _ x=>x));obtain⟨SW,akw⟩:=a;obtain⟨hkw,SO,hC,hn,T,hf,h₂⟩:=h₂;obtain rfl:akw=[]:=hkw;obtain⟨hp,g,d,tk,os⟩:=s₂;simp only[Tb];refine aad (wpAny_keeperOf_exc hC ?_);refine aad (ym Fn hBn F T hC hn hi hf W_ (λh' e hm hz=>aaH (h₂ h' e hm hz) (λr s' z=>⟨z.1,?_⟩) λ_ _ z=>z) SO);obtain⟨_,hC',⟨t,od,T5⟩,hE⟩:=z;exact aad (aa9 (wpAny_point (aak ⟨e,t,od,rfl,hC',T5,hE⟩)))
end
structure wL (P:Program)(w:World)(outer:List Env)(H:Hp)(s:Shared)(ea C:Addr)(od:Option Addr)(H':Hp)(s':Shared):Prop where
 os:s'.os=s.os
 bare:AllBare s'.gens
 fr:H' ea=none
 hi:s.heap.objs.size<=ea
 ex:∃ (h0:Heap) (l:List Addr),Un (cR outer) [] H H' s.heap h0/\de P w H' h0/\(∀ b∈l,H' b=none/\(b∈cR outer∨s.heap.objs.size<=b))/\ia (acm h0 l) outer ea (.ref C) od .none s'.heap/\h0.UpToSlots s'.heap
def eS (P:Program)(w:World):dQ:=λouter H s E e s'=>∃ (ea C:Addr) (od:Option Addr) (H':Hp),e=.ref ea/\wL P w outer H s ea C od H' s'/\E (.ref C) od H'
variable {Z : L2.St}
theorem BZ {e C:Addr}{od:Option Addr}(I:Inv X gV Z H s)
   (S_:X.stack=X.env::X.outer) (Ut:X.env.frame=some X.env.locals) (hex:X.ex=[]) (he:H e=some (XB e C od)) (hi:X.s₀.heap.objs.size<=e) (h0:H' e=none) (h1:∀ b,b≠e->H' b=H b)
   (hQ:∀ s',wL X.prog X.w X.outer X.H₀ X.s₀ e C od H' s'->Q () s'):wpAny (model X.prog X.w) X.A (leaving X.env (.ref e)) Q Ex s:=by
 obtain⟨t,hx⟩:=y_ I.az he;have hfs:=zX S_ Ut;have WE:∀ env∈X.stack,∀ a,env.frame=some a->a∈e::cR X.stack:=λenv hm b hb=>aa0 _ (List.mem_filterMap.mpr ⟨env,hm,hb⟩);have hl:s.heap.FunFrames (acm s.heap (e::cR X.stack)) (X.env::X.outer):=by
   have z:=W.funFrames_hide I.stack WE;rw[S_] at z ⊢;exact z
 have nx:∀ b o,H b=some o->(∀ φ,o≠.ext φ)->b≠e:=λb o z q r=>by rw[r,he] at z;exact q _ (aaw z).symm
 have hb:=I.base;rw[hex] at hb;refine Co (base:=acm s.heap (e::cR X.stack)) (by rw[<- S_];exact I.ok.frames) hl Ut hx (λb o q=>W.of_hideAll _ q) (W.hideAll_none _ (.head _)) rfl rfl λh' f u=>hQ _ ⟨I.os,I.bare,h0,hi,s.heap,e::cR X.stack,?_,?_,?_,f,u⟩
 . refine ⟨hb.keep,hb.slot,λb o q n Wz=>?_,hb.there,λb xs q=>?_,λb o u q=>?_,λb ps q=>?_⟩
   . by_cases z:b=e
     . rw[z];exact h0
     . rw[h1 b z];exact hb.free b o q n Wz
   . have z := hb.jB b xs q;rw[h1 b (nx b _ z λ_ z=>nomatch z)];exact z
   . have z := hb.iZ b o u q;rw[h1 b (nx b _ z λ_ z=>nomatch z)];exact z
   . obtain⟨m, z⟩ := hb.jJ b ps q;exact⟨m,by rw[h1 b (nx b _ z λ_ z=>nomatch z)];exact z⟩
 . intro b o q;by_cases z:b=e
   . rw[z,h0] at q;cases q
   . rw [h1 b z] at q;refine (I.az b o q).iT (λc v _ z=>z) (λc z'=>?_) λc xs z'=>?_
     . rw[h1 c (nx c _ z' λ_ z=>nomatch z)];exact z'
     . rw[h1 c (nx c _ z' λ_ z=>nomatch z)];exact z'
 . intro b hm;rcases List.mem_cons.mp hm with rfl | hm
   . exact⟨h0,.inr hi⟩
   . have hn := I.mK b hm;have nb:b≠e:=λz=>by rw [z,he] at hn;cases hn
     refine⟨by rw[h1 b nb];exact hn,?_⟩;rw[hfs] at hm;rcases List.mem_cons.mp hm with rfl | hm
     . exact .inr I.ok.above
     . exact .inl hm
def wY (C:Addr)(f:Str)(E:XK)(t:TA):TS:=λ_ Z H=>t Z H λvs H1=>∃ i:Int,vs=[.int i]/\i.natAbs.log2<1900/\∀ d,H1 d=none->E (.ref C) (some d) (upd H1 d (.xd [(f,.int i)]))
theorem Fx {P:Program}{w:World}{K:W.Frag}{mg:Str->Option Value}{base:Heap}{N:List Str}{qual:Str}{scope:Scope}{f:Addr}{cd:Value}{A:Around}{outer:List Env}{s0:Shared}{H0:Hp}{E:XK}
   {C fI:Addr} {fd:aa3} {ps:List Str} {fn x:Str} {k:Nat} {np SQ pos:Pos} {e0:Expr} {es:List Expr} {t:TA} (c:kU K mg x C fI) (F:c6 P w K mg base bJ k fI fd ps (C9 C fn)) (hb:Binds K fd ps [])
   (hr:bG (k+1) (bU (eS P w) P w K mg base N qual scope f cd A outer s0 H0 E).A) (hg:Gl (bU (eS P w) P w K mg base N qual scope f cd A outer s0 H0 E) x)
   (ha:PA (bU (eS P w) P w K mg base N qual scope f cd A outer s0 H0 E).eZ (e0::es) t) (Tn:(x == ("__debug__" : Str))=false:=by decide)
   (he:aai (e0::es) (bU (eS P w) P w K mg base N qual scope f cd A outer s0 H0 E).env=(false,eval e0 (bU (eS P w) P w K mg base N qual scope f cd A outer s0 H0 E).env)::aai es (bU (eS P w) P w K mg base N qual scope f cd A outer s0 H0 E).env:=by rfl)
   (SS:(backTo SQ (aai es (bU (eS P w) P w K mg base N qual scope f cd A outer s0 H0 E).env)).any (·.1)=false:=by rfl) :
   PS (bU (eS P w) P w K mg base N qual scope f cd A outer s0 H0 E) (.Raise (some (.Call (.Name x np) (e0::es) [] SQ)) none pos) (wY C fn E t):=by
 intro gV s Z H D I h;obtain⟨bm,N',nm,qn,bs,hd,sn,sub,ab,col,dd,k0,k1,k2,k3,k5,mN,o,hC,hN,hni,TL,hf,W_⟩:=c.obj I.ok.mod.vK
 refine D1 (C:=C) (mN:=mN) (N:=N') (nm:=nm) (q:=qn) (bs:=bs) (bm:=bm) (hdct:=hd) (sn:=sn) (sub:=sub) (ab:=ab) (col:=col) (dd:=dd) (k0:=k0) (k1:=k1) (k2:=k2) (k3:=k3) (k5:=k5)
   abo (by nofun) abo (TL.hasType (by nofun)) (I.ok.hd rfl) (by rw[he];show(false || (backTo SQ (aai es _)).any (·.1))=false;rw[SS];rfl) hni W_ ?_
 refine eX I hg c.glob ⟨rfl,?_⟩ Tn;have TV:=(L3.PA.eZ ha) SQ gV s Z H _ I h;rw[he] at TV ⊢;refine acD (aQ TV λus s1 zq=>?_);obtain⟨vs,H1,I1,r,i,ev,WB,q⟩:=zq;subst ev;obtain⟨u,rfl,ru⟩:=vals1 r;refine⟨rfl,by show 1<=aal;nofun,I1.bk _ _ hC,hN.keeps I1.bk,TL.keeps I1.bk,I1.bk _ _ hf,λh' e hm hz=>?_⟩;obtain⟨t',hte,_,_⟩:=hm.there;have I2:=I1.laid (a:=e) (o:=XB e C none) (h':=h') (t':=s1.toks) hm.keeps hz (Dv hte);have fr1:H1 e=none:=I1.az.fresh hz;have hl : [S8 e,u].length=ps.length:=by
   have:=F.len [.ref e,.int i] (upd H1 e (XB e C none)) (λ_ _=>True) E ⟨e,i,rfl,aa,WB,λ_ _=>aas⟩
   simpa using this
 have VE:=hb { s1 with heap:=h' } [.ref e,u] I2.df (by rw[aaL];exact hl);rw[aaL] at VE;refine acR (abV (F.run _ _ _ (upd H1 e (XB e C none)) ⟨[.ref e,u],[]⟩ [.ref e,u] [.ref e,.int i] (λv H2=>v=.aA/\∃ d,upd H1 e (XB e C none) d=none/\H2=upd (upd (upd H1 e (XB e C none)) d (.xd [(fn,.int i)])) e (XB e C (some d))) E (hr.make C [u] []) (I2.zm.make C [u] []) VE (.cons rfl (.cons ru .nil)) ⟨e,i,rfl,aa,WB,λd hd=>⟨rfl,d,hd,rfl⟩⟩) λr2 s' hq=>?_);cases r2 with
 | error ex=>exact(show False from hq).elim
 | ok fl =>
   cases fl with
   | ret u2 =>
     obtain⟨v,H2,I3,rv,ev,d,VC,eH⟩:=I2.after hq;subst ev eH;have nd:d≠e:=(bq VC).2;have Uv:H1 d=none:=(bq VC).1;obtain⟨t3,h3⟩:=y_ I3.az aa;refine⟨rv,I3.bk _ _ hC,⟨_,_,h3⟩,?_⟩;exact BZ (X:=bU (eS P w) P w K mg base N qual scope f cd A outer s0 H0 E) (H':=upd H1 d (.xd [(fn,.int i)])) I3 rfl rfl rfl aa (aaJ I1.sz hz) (by rw[ai nd.symm];exact fr1) (λb WL=>by
       rw[ai WL];by_cases z:b=d
       . rw[z,aa,aa]
       . rw[ai z,ai z,ai WL]) λs'' th=>⟨e,C,some d,_,rfl,th,q d Uv⟩
   | next=>exact aaW hq
   | brk=>exact aaW hq
   | cont=>exact aaW hq
theorem Iw {P:Program}{w:World}{K:W.Frag}{mg:Str->Option Value}{base:Heap}{N:List Str}{qual:Str}{scope:Scope}{f:Addr}{cd:Value}{A:Around}{outer:List Env}{s0:Shared}{H0:Hp}{E:XK} :
   dY (eS P w) (bU (eS P w) P w K mg base N qual scope f cd A outer s0 H0 E) E:=by
 intro gV Z H s e s' I h;obtain⟨ea,C,od,H',rfl,⟨os,bare,fr,hi,h0,l,u,az,hl,fl,up⟩,q⟩:=h;show wpAny _ _ (leaving _ (.ref ea)) _ _ s';refine KS (outer:=outer) I.ok.frames rfl fl λh2 fl2 up2=>⟨ea,C,od,H',rfl,⟨os.trans I.os,bare,fr,aaJ I.sz hi,h0,l,?_,az,λb hb=>⟨(hl b hb).1,?_⟩,fl2,up.trans up2⟩,q⟩
 . have J := I.call (h' := h0) (g' := s'.gens) (d' := s'.drawn) (t' := s'.toks) (ch := []) u az bare (λb z => absurd z (by simp));exact J.base
 . rcases(hl b hb).2 with z | z
   . have z' : b ∈ cR (envOfC qual scope s0.heap.objs.size f cd :: outer) := z;have e1:cR (envOfC qual scope s0.heap.objs.size f cd::outer)=s0.heap.objs.size::cR outer:=by unfold cR;rw [abE];rfl
     rw[e1] at z';rcases List.mem_cons.mp z' with rfl | z'
     . exact .inr (aah _)
     . exact .inl z'
   . exact .inr (aaJ I.sz z)
section
variable {P:Program} {w:World} {K:W.Frag} {mg:Str->Option Value} {base:Heap} {x qual:Str} {st:Stmt} {N ps:List Str} {sp:Sp} {C:Addr} {k:Nat}
def LB (P:Program)(w:World)(K:W.Frag)(mg:Str->Option Value)(base:Heap)(qual:Str)(st:Stmt)(N:List Str)(f:Addr)(SN:Value)(A:Around)(outer:List Env)(s:Shared)(E:XK)(Q:VK)(H:Hp)(vs:List V):Prop :=
 ∃ t,gw (bU (eS P w) P w K mg base N qual (ag st) f SN A outer s H E) (aP st) t/\t { nx:=λ_ H'=>Q .aA H',rt:=Q } (start N vs) H
def Pu (P:Program)(w:World)(K:W.Frag)(mg:Str->Option Value)(base:Heap)(k:Nat)(qual:Str)(st:Stmt)(N:List Str)(sp:Sp):Prop :=
 ∀ (f:Addr) (SN:Value) (A:Around) (outer:List Env) (s:Shared) (H:Hp) (vs:List V) (Q:VK) (E:XK),bG k (A.deeper (envOfC qual (ag st) s.heap.objs.size f SN))->sp vs H Q E ->
   LB P w K mg base qual st N f SN A outer s E Q H vs
theorem F8 (k:Nat)(h:∃ f fd,eC K x qual st f fd/\mg x=some (.ref f)/\Binds K fd ps [])(S:ao N ps (ag st))(len:∀ vs H Q E,sp vs H Q E->vs.length=ps.length)
   (SR:Pu P w K mg base k qual st N sp):iR P w K mg base (eS P w) (k+1) x sp:=by
 obtain⟨f,fd,F,hm,hb⟩:=h;obtain⟨oc,od,kV,SU,pm,an,SN,ct,Tj,rfl,lk,Tp⟩:=F.ex;exact⟨f,_,ps,qO lk Tp S len λA outer s H vs Q E hr UC=>SR f SN A outer s H vs Q E hr UC,hm,F.kp,hb⟩
structure J6 (P:Program)(w:World)(K:W.Frag)(mg:Str->Option Value)(base:Heap)(k:Nat)(x:Str)(C:Addr)(fn:Str):Prop where
 ex:∃ (f:Addr) (fd:aa3) (ps:List Str),kU K mg x C f/\c6 P w K mg base bJ k f fd ps (C9 C fn)/\Binds K fd ps []
end
def GY (X:Cx)(gV:List (Addr×Obj))(Z : L2.St)(Ew:XK)(ex:Value)(s':Shared):Prop :=
 ∃ (ea C:Addr) (od:Option Addr) (H1:Hp) (s1:Shared) (H':Hp),ex=.ref ea/\Inv X gV Z H1 s1/\wL X.prog X.w X.stack H1 s1 ea C od H' s'/\Ew (.ref C) od H'
abbrev Ka:=L2.St->Hp->VK->XK->Prop
def QO (X:Cx)(e:Expr)(t:Ka):Prop:=∀ (gV:List (Addr×Obj)) (s:Shared) (Z : L2.St) (H:Hp) (Q:VK) (Ew:XK),Inv X gV Z H s->t Z H Q Ew->wpAny (model X.prog X.w) X.A (eval e X.env) (EP X gV Z Q) (GY X gV Z Ew) s
section
variable {X:Cx} {gV:List (Addr×Obj)} {Z : L2.St} {H:Hp} {s:Shared} {k:Nat} {g x n:Str} {sp:Sp} {e:Expr} {es:List Expr} {t:TA} {tx:Ka} {ta:TAX} {te:TE} {gp SQ pos py:Pos}
def Ko (sp:Sp)(t:TA):Ka:=λZ H Q Ew=>t Z H λvs H1=>sp vs H1 Q Ew
theorem Lz (G : iR X.prog X.w X.K X.mg X.base (eS X.prog X.w) k g sp)(hr : bG k X.A)(hg : Gl X g)(ha : PA X.eZ (e :: es) t)(Tn : (g == ("__debug__" : Str)) = false := by decide)
   (he:aai (e::es) X.env=(false,eval e X.env)::aai es X.env:=by rfl) (SS:(backTo SQ (aai es X.env)).any (·.1)=false:=by rfl):QO X (.Call (.Name g gp) (e::es) [] SQ) (Ko sp t):=by
 intro gV s Z H Q Ew I h;obtain⟨f,fd,ps,F,hm,hk,hb⟩:=G.ex;refine abw (eX I hg hm ?_ Tn);refine adx (h₀:=X.base) I.ok.mod.vK hk (aaH (ha SQ gV s Z H _ (I.fX _) h) (λus s1 zq=>bN zq λvs H1 I1 r q=>⟨I1.df,?_⟩) λ_ _ z=>z.elim) he SS;have J:Inv X gV Z H1 s1:=I1.eE;have hl:us.length=ps.length:=by rw[<- r.length];exact F.len _ _ _ _ q
 have VE:=hb s1 us J.df (by rw[aaL];exact hl);rw[aaL] at VE;refine acR (abV (F.run X.A X.stack s1 H1 ⟨us,[]⟩ us vs Q Ew hr J.zm VE r q) λr2 s' hq=>?_);cases r2 with
 | error ex =>
   obtain⟨ea,C,od,H',rfl,th,q2⟩:=(show eS X.prog X.w X.stack H1 s1 Ew ex s' from hq)
   exact⟨ea,C,od,H1,s1,H',rfl,J,th,q2⟩
 | ok fl =>
   cases fl with
   | ret u=>exact J.after hq
   | next=>exact aaW hq
   | brk=>exact aaW hq
   | cont=>exact aaW hq
def QU (X:Cx)(body:List Stmt)(tb:TB):Prop :=
 ∀ (gV:List (Addr×Obj)) (s:Shared) (Z : L2.St) (H:Hp) (D:Ends) (Ew:XK),Inv X gV Z H s->tb D Ew Z H->wpAny (model X.prog X.w) X.A (execs body X.env) (SP X gV D) (GY X gV Z Ew) s
def Ms (i:Nat)(tx:Ka):TB:=λD Ew Z H=>tx Z H (λv H2=>D.nx (Z.set i (some v)) H2) Ew
theorem Lk (hN : X.N.Nodup)(hi : X.N[i]? = some x)(hx : Loc X.env.scope x)(hv : QO X v tx)(hw : acW v (some (.Name x py)) pos.line X.env = pure false := by rfl)
   (hf:X.fn x=true∨X.env.scope.names.lookup x=some .local:=by first | exact .inl rfl | exact .inr rfl | assumption):QU X [.Assign [.Name x py] v pos] (Ms i tx):=by
 intro gV s Z H D Ew I h;refine adu (wpAny_Assign_Name (aaH (hv gV s Z H _ Ew I h) (λv s1 zq=>bN zq λy H1 I1 r1 q1=>?_) λ_ _ z=>z) hw);exact mX I1 hN hi hx r1 (λs2 I2=>abH ⟨_,H1,I2,q1⟩) hf
end
def Kf (x:Str)(tv:TE):TE:=λZ H Q=>tv Z H λu H1=>∃ i,u=.int i/\i.natAbs.log2<1900/\Q (.str (adl++x++aae (toString i))) H1
theorem qI {v:Expr}{j1:Nat}{p0 p1 p2:Pos}(hv:PE X v tv)(hx:(adl++x).length<=1000:=by nofun):PE X (.JoinedStr [.Constant (.str x) j1 p1,.FormattedValue v (-1) none p2] p0) (Kf x tv):=by
 intro gV s Z H Q I h;refine JoinedStr_many (joinParts_cons (aQ (gK (X:=X) gV s Z H (λu H'=>u=.str x/\H'=H) I ⟨rfl,rfl⟩) λu1 s1 zq=>?_));obtain⟨v1,H1,I1,r1,e1,e2⟩:=zq;subst e1 e2;obtain⟨t1,rfl⟩:=r1;refine⟨by rw[aaI];omega,joinParts_cons (FormattedValue_plain (aQ (hv gV s1 Z H1 _ I1 h) λu2 s2 zq=>?_))⟩;obtain⟨v2,H2,I2,r2,i,e,hd,q⟩:=zq;subst e;obtain⟨t2,rfl⟩:=r2;have hl:=int_text_len_1921 (i:=i) (by omega);have hz:(adl++x++aae (toString i)).length<=aal:=by
   rw[aaI]
   have:(adl++x++aae (toString i)).length=(adl++x).length+(aae (toString i)).length:=by
     show Array.size _=Array.size _+Array.size _;exact Array.size_append
   omega
 refine formatField_int_small (by omega) ?_;exact⟨hz,joinParts_nil ⟨.str _,_,(I2.tok _).tok _,⟨_,rfl⟩,q⟩ hz⟩
theorem Hw {K:W.Frag}{o value:Expr}{ta:TE}{f:Str}{Ts:Pos}(h:X.K=K)(ha:PE X o ta)(hv:PE X value tv)(hs:acW value (some (.Attribute o f Ts)) pos.line X.env=pure false:=by rfl):PS X (.Assign [.Attribute o f Ts] value pos) (sX K ta tv f):=by
 subst h;exact Lq ha hv hs
theorem kL {P:Program}{w:World}{K:W.Frag}{mg:Str->Option Value}{base:Heap}{N:List Str}{qual:Str}{scope:Scope}{f:Addr}{cd:Value}{A:Around}{outer:List Env}{s0:Shared}{H0:Hp}{E:XK}
   {C:Addr} {fn x:Str} {k:Nat} {np SQ pos:Pos} {e0:Expr} {es:List Expr} {t:TA} (G:J6 P w K mg base k x C fn)
   (hr:bG (k+1) (bU (eS P w) P w K mg base N qual scope f cd A outer s0 H0 E).A) (hg:Gl (bU (eS P w) P w K mg base N qual scope f cd A outer s0 H0 E) x)
   (ha:PA (bU (eS P w) P w K mg base N qual scope f cd A outer s0 H0 E).eZ (e0::es) t) (Tn:(x == ("__debug__" : Str))=false:=by decide)
   (he:aai (e0::es) (bU (eS P w) P w K mg base N qual scope f cd A outer s0 H0 E).env=(false,eval e0 (bU (eS P w) P w K mg base N qual scope f cd A outer s0 H0 E).env)::aai es (bU (eS P w) P w K mg base N qual scope f cd A outer s0 H0 E).env:=by rfl)
   (SS:(backTo SQ (aai es (bU (eS P w) P w K mg base N qual scope f cd A outer s0 H0 E).env)).any (·.1)=false:=by rfl) :
   PS (bU (eS P w) P w K mg base N qual scope f cd A outer s0 H0 E) (.Raise (some (.Call (.Name x np) (e0::es) [] SQ)) none pos) (wY C fn E t):=by
 obtain⟨fI,fd,ps,c,F,hb⟩:=G.ex;exact Fx c F hb hr hg ha Tn he SS
variable {D:Ends}
theorem IV {f:Str}{E:XK}{t:TA}(h:t Z H λvs H1=>∃ i:Int,vs=[.int i]/\i.natAbs.log2<1900/\∀ d,H1 d=none->E (.ref C) (some d) (upd H1 d (.xd [(f,.int i)]))):wY C f E t D Z H:=h
theorem Og (h:t Z H λvs H1=>∃ e u,vs=[.ref e,u]/\H1 e=some (XB e C none)/\Q .aA H1):Kt C t Z H Q:=h
theorem oY (h:tv Z H λu H1=>∃ i,u=.int i/\i.natAbs.log2<1900/\Q (.str (adl++x++aae (toString i))) H1):Kf x tv Z H Q:=h
theorem RD {K:W.Frag}{ta:TE}{f:Str}(h:tv Z H λy H1=>ta Z H1 λx H2=>∃ a C,x=.ref a/\H2 a=some (XB a C none)/\vV K C f/\∀ d,H2 d=none->D.nx Z (upd (upd H2 d (.xd [(f,y)])) a (XB a C (some d)))):sX K ta tv f D Z H:=h
theorem fk (h1 : -(2 ^ 62)<=i)(h2:i<2 ^ 62):i.natAbs.log2<1900:=by
 have h3:i.natAbs<2 ^ 63:=by omega
 by_cases h0:i.natAbs=0
 . rw[h0];decide
 . have := (Nat.log2_lt h0).mpr h3;omega
theorem Nh (h:tx Z H (λv H2=>D.nx (Z.set i (some v)) H2) Ew):Ms i tx D Ew Z H:=h
theorem La (h:t Z H λvs H1=>sp vs H1 Q Ew):Ko sp t Z H Q Ew:=h
def D6 (K:W.Frag)(a b:Addr):It :=
 ⟨λi H=>∃ xs ys x y,aq K H a xs/\aq K H b ys/\xs[i]? = some x/\ys[i]? = some y,
  λi H v H'=>∃ T x y,v=.ref T/\H T=none/\H'=upd H T (.tup [x,y])/\∀ xs ys,aq K H a xs->aq K H b ys->xs[i]? = some x/\ys[i]? = some y,
  λi H=>∃ xs ys,aq K H a xs/\aq K H b ys/\(xs.length<=i∨ys.length<=i)⟩
def Ku (K:W.Frag)(ta:TA):TI:=λZ H R=>ta Z H λvs H1=>∃ a b xs ys,vs=[.ref a,.ref b]/\aq K H1 a xs/\aq K H1 b ys/\R (D6 K a b) H1
theorem Mp {K:W.Frag}{ta:TA}{Z : St}{R:It->Hp->Prop}(q:ta Z H λvs H1=>∃ a b xs ys,vs=[.ref a,.ref b]/\aq K H1 a xs/\aq K H1 b ys/\R (D6 K a b) H1):Ku K ta Z H R:=q
theorem zT {K:W.Frag}{p:Addr}{xs:List V}{Q:VK}(h:aq K H p xs)(q:∀ l,H l=none->Q (.ref l) (upd H l (.tup xs))):BH K [.ref p] H Q:=⟨p,xs,rfl,.inl ⟨h,q⟩⟩
section
variable {X:Cx} {gV:List (Addr×Obj)} {Z : L2.St} {C fI:Addr}
def Hf (tb:TB)(C:Addr)(th:TS):TS:=λD Z H=>tb D (λc od H2=>c=.ref C/\∃ d,od=some d/\th { nx:=λZ' H'=>D.nx Z' H',rt:=λv H'=>D.rt v H' } Z H2) Z H
theorem HH {body:List Stmt}{tb:TB}{x:Str}{np UP pos:Pos}{b0:Stmt}{Vr:List Stmt}{th:TS}(S_:X.stack=X.env::X.outer)(Ut:X.env.frame=some X.env.locals)(hc:X.calm=true)
   (hb:QU X body tb) (c:kU X.K X.mg x C fI) (hg:Gl X x) (hs:∀ ea,gw (Cx.sup X ea []) (b0::Vr) th) (Tn:(x == ("__debug__" : Str))=false:=by decide) :
   PS X (.Try body [.ExceptHandler (some (.Name x np)) none (b0::Vr) UP] [] [] pos) (Hf tb C th):=by
 intro gV s Z H D I0 h;refine wpAny_Try_except (aaH (hb gV s Z H D _ I0 h) (λf s1 q=>?_) λex s' q=>?_)
 . cases f with
   | next=>exact abH q
   | brk=>exact q
   | cont=>exact q
   | ret u=>exact q
 obtain⟨ea,C',od,H1,s1,H',rfl,I,⟨os,bare,fr,hz,h0,l,u,az,hl,fl,up⟩,ec,d,ed,q⟩:=q;cases ec
 subst ed;have hh:X.calm=true->X.A.handled=none:=I.ok.hd;have fl':ia (acm h0 l) (X.env::X.outer) ea (.ref C) (some d) .none s'.heap:=by rw[<- S_];exact fl
 refine JS (by rw[<- S_];exact I.ok.frames) Ut fl' λh4 Wv up4=>?_;refine qv Wv λh5 fl5 up5=>?_;have I5:Inv X gV Z H' { s' with heap:=h5 }:=kA I os bare u az hl fl5.1 ((up.trans up4).trans up5);obtain⟨oe,vs,T,oT,ts,T5,hoec,hoedd,hoed,_⟩:=fl5.2.2.2;refine wpAny_handleBy_cons (codeAny_handlers_test (eX (X:=Cx.sup X ea []) (Inv.sup I5 (λp hp=>nomatch hp)) hg c.glob ?_ Tn)) (by intro z;cases z);obtain⟨bm,N',nm,qn,bs,hd,sn,sub,ab,col,dd,k0,k1,k2,k3,k5,mN,o,hC,hNs,hni,TL,hf,W_⟩:=c.obj I5.df;refine wpAny_excMatches_sub_self hC T5 hoec (TL.hasType (by nofun)) (codeAny_handlers_suite ?_);refine qv fl5 λh6 fl6 up6=>?_;have I6:Inv (Cx.sup X ea []) gV Z H' { s' with heap:=h6 }:=Inv.sup (kA I os bare u az hl fl6.1 (((up.trans up4).trans up5).trans up6)) λp hp=>nomatch hp;refine aaH (hs ea gV _ Z H' _ I6 q) (λf s8 q8=>?_) λ_ _ z=>z.elim;cases f with
 | next =>
   obtain⟨Z',H'',I8,q9⟩:=q8;exact⟨Z',H'',Inv.vb I8 hh,q9⟩
 | brk=>obtain⟨_,_,_,z⟩:=q8;exact z.elim
 | cont=>obtain⟨_,_,_,z⟩:=q8;exact z.elim
 | ret v =>
   obtain⟨v',Z',H'',I8,r8,q9⟩:=q8;exact⟨v',Z',H'',Inv.vb I8 hh,r8,q9⟩
theorem Lw (h:tb D (λc od H2=>c=.ref C/\∃ d,od=some d/\th { nx:=λZ' H'=>D.nx Z' H',rt:=λv H'=>D.rt v H' } Z H2) Z H):Hf tb C th D Z H:=h
end
theorem R6 (a v:Value):checkTypeCall "enumerate" ⟨[a],[("start",v)]⟩=pure ():=by kernel_rfl
theorem SH (a v:Value):checkBuiltinCall "enumerate.__new__" ⟨[.type "enumerate",a],[("start",v)]⟩=pure ():=by kernel_rfl
theorem RU (obj a v:Value):argsOk "object.__init__" ⟨[obj,a],[("start",v)]⟩:=by
 unfold argsOk;rw[signature?_of (id:="object.__init__") (n:=['_','_','t','i','n','i','_','_']) (o:=['t','c','e','j','b','o']) (by kernel_rfl) F.owner_object];kernel_rfl
set_option maxHeartbeats 1000000 in
theorem Rm (l:Addr)(items:Array Value)(n:Nat)(dct:Option Addr)(sl:Array (Option Value))(k:Int)(t:Tok)(hk:Builtin.SmallTypes.fitsIndex k=true) :
   Meets (Builtin.«enumerate.__new__» ⟨[.type "enumerate",.ref l],[("start",.int k t)]⟩) (λ_ R s=>s.heap.get? l=some { cls:=.type "list",dict:=dct,data:=.seq items n,slots:=sl } /\
     R (.ok (.ret (.ref (s.heap.push { cls:=.type "list_iterator",data:=.fields #[.ref l,.int 0 0] }).objs.size)))
       { s with heap:=(s.heap.push { cls:=.type "list_iterator",data:=.fields #[.ref l,.int 0 0] }).push { cls:=.type "enumerate",data:=.fields #[.none,.bool false,.ref s.heap.objs.size,rawInt k,.none,.none] } }) :=
 .of_wp λprog w A R s h=>by
   obtain⟨hp,g,d,tk,os⟩:=s;obtain⟨hl,h⟩:=h;have hsub:=sub_enumerate;have hL:Heap.IsList (Shared.heap ⟨hp,g,d,tk,os⟩) l items:=⟨_,hl,rfl,n,rfl⟩
   have hk' : ¬ ((!Builtin.SmallTypes.fitsIndex k)=true):=by rw[hk];decide
   wp_walk using abX hl
   refine wpAny_stack_any λst=>aak ?_;split
   . rename_i c _ _ _ _ _;cases (c == Value.type "enumerate")
     . wp_walk using abX hl,abI hL
       exact⟨_,rfl,h⟩
     . wp_walk using abX hl,abI hL
       exact⟨_,rfl,h⟩
   . wp_walk using abX hl,abI hL
     exact⟨_,rfl,h⟩
theorem Pt:Meets (Builtin.«object.__init__» ⟨[self,a],[("start",v)]⟩) (λ_ R s=>s.TypeIs self "enumerate"/\R (.ok (.ret .none)) s):=by
 have hl:=F.called_enumerate.init.lookup;have hm:=F.called_enumerate.made;have Ui:(some "enumerate.__new__" != some "object.__new__")=true:=by decide
 refine Meets.of_wp λprog w A R s hs=>?_;obtain⟨hT,hq⟩:=hs;repeat (any_goals (first | assumption | wp_step))
 exact⟨_,rfl,hq⟩
section
variable {prog:Program} {w:World} {A:Around} {E:Value->Shared->Prop} {s:Shared}
theorem Qz (hk:Builtin.SmallTypes.fitsIndex k=true)(hL:s.heap.IsList l items)
   (h:∀ h',IsEnum h' (s.heap.objs.size+1) s.heap.objs.size k .none->h'.IsListIter s.heap.objs.size l 0->(∀ b o,s.heap.get? b=some o->h'.get? b=some o)->Q (.ref (s.heap.objs.size+1)) { s with heap:=h' }) :
   wpAny (model prog w) A (call (.type "enumerate") [.ref l] [("start",.int k t)]) Q E s:=by
 obtain⟨⟨c0,dct,dt,sl⟩,hl,VQ,n,VC⟩:=hL
 replace VQ:c0=.type "list":=VQ
 replace VC:dt=.seq items n:=VC
 subst VQ VC;have ft:=F.called_enumerate;obtain⟨c,tl,VF⟩:=ft.mro;have hmade:=ft.made;have hsub:=ft.sub;have hct:=R6 (.ref l) (.int k t);refine acR (codeAny_of_tree ?_);show wpAny _ _ (callAny (.type "enumerate") _) _ _ _;refine aak ⟨adN _ (by nofun),codeAny_builtin F.entry_type_call ?_⟩;rw[Around.under_plain (weight_type_call_type "enumerate" [.ref l] [("start",.int k t)]) (units_type_call_type "enumerate" [.ref l] [("start",.int k t)])];have h1:=ft.notType;have h2:=ft.canCreate;repeat (any_goals (first | assumption | wp_step))
 have hz:(s.heap.push { cls:=.type "list_iterator",data:=.fields #[.ref l,.int 0 0] }).objs.size=s.heap.objs.size+1:=abY ..
 refine abV (acP ft.plain F.entry_enumerate_new (wpAny_of_eq (SH _ _) (Rm l items n dct sl k t hk prog w A.in1 (wants (λobj s₁=>obj=.ref (s.heap.push { cls:=.type "list_iterator",data:=.fields #[.ref l,.int 0 0] }).objs.size /\
   s₁ = { s with heap:=(s.heap.push { cls:=.type "list_iterator",data:=.fields #[.ref l,.int 0 0] }).push { cls:=.type "enumerate",data:=.fields #[.none,.bool false,.ref s.heap.objs.size,rawInt k,.none,.none] } }) E) s ⟨hl,rfl,rfl⟩))) λr s₁ hr=>?_
 cases r with
 | error e=>exact hr
 | ok fl =>
   cases fl with
   | ret obj =>
     obtain⟨eo,es⟩:=hr;rw[hz] at eo;subst eo es
     have he : IsEnum ((s.heap.push { cls := .type "list_iterator", data := .fields #[.ref l, .int 0 0] }).push
         { cls:=.type "enumerate",data:=.fields #[.none,.bool false,.ref s.heap.objs.size,rawInt k,.none,.none] }) (s.heap.objs.size+1) s.heap.objs.size k .none:=by
       have := aau (s.heap.push { cls := .type "list_iterator", data := .fields #[.ref l, .int 0 0] })
         (o:={ cls:=.type "enumerate",data:=.fields #[.none,.bool false,.ref s.heap.objs.size,rawInt k,.none,.none] }) rfl
       rw[hz] at this;exact this
     have hT:Shared.TypeIs { s with heap:=(s.heap.push { cls:=.type "list_iterator",data:=.fields #[.ref l,.int 0 0] }).push { cls:=.type "enumerate",data:=.fields #[.none,.bool false,.ref s.heap.objs.size,rawInt k,.none,.none] } } (.ref (s.heap.objs.size+1)) "enumerate":=⟨_,he,rfl⟩
     have hq:=h _ he ⟨_,aaf _ (aau _ rfl),rfl,rfl⟩ λb o x=>aaf _ (aaf _ x);have hli:=ft.init.lookup;have hbi:=ft.init.bind (.ref (s.heap.objs.size+1));repeat (any_goals (first | assumption | wp_step))
     refine abV (acP ft.init.plain F.entry_object_init (ft.init.check _ _ _ _ _ _ _ _ hT (RU _ _ _) (Pt prog w A.in1 (wants (λr s₂=>r=.none/\Q (.ref (s.heap.objs.size+1)) s₂) E) _ ⟨hT,rfl,hq⟩))) λr₂ s₂ hr₂=>?_;cases r₂ with
     | error e=>exact hr₂
     | ok fl₂ =>
       cases fl₂ with
       | ret r =>
         obtain⟨rfl,hq⟩:=hr₂;repeat (any_goals (first | assumption | wp_step))
       | _=>exact hr₂.elim
   | _=>exact hr.elim
end
variable {A:Around}
theorem Ct {prog:Program}{w:World}{it:Addr}{fp:List Addr}{n:Nat}{P:Nat->Value->Prop}{St:Nat->Heap->Prop}(D:Draws prog w A it fp n P St) :
   Draws prog w A it fp (n+1) (λi v=>match i with | 0=>False | j+1=>P j v) (λi h=>match i with | 0=>False | j+1=>St j h) where
 live:=λi h st=>match i,st with | j+1,st=>D.live j h st
 frame:=λi h h' st k=>match i,st with | j+1,st=>D.frame j h h' st k
 item:=λi s Q E hi st hQ=>match i,hi,st,hQ with | j+1,hi,st,hQ=>D.item j s Q E (by omega) st hQ
 done:=λs Q E st hE=>D.done s Q E st hE
def J9 (K:W.Frag)(a:Addr):It :=
 ⟨λi H=>∃ xs x,aq K H a xs/\xs[i]? = some x,
  λi H v H'=>∃ T x,v=.ref T/\H T=none/\H'=upd H T (.tup [.int ((i:Int)+1),x])/\∀ xs,aq K H a xs->xs[i]? = some x,
  λi H=>∃ xs,aq K H a xs/\xs.length<=i⟩
theorem Gv {P:Program}{w:World}{K:W.Frag}{es:List Expr}{n:Nat}{pos:Pos}{a it:Addr}(n1:e≠it)(n2:e≠a)(n3:a≠it) :
   Turn P w K (.Tuple es n pos) (J9 K a) [e,it] e (λi h=>(∃ Vu,IsEnum h e it ((i:Int)+1) Vu)/\h.IsListIter it a i) where
 mem:=by simp
 obj:=λi h st c hc=>by
   obtain⟨⟨Vu,he⟩,⟨o1,e1,_,d1⟩⟩:=st;have hc:c=e∨c=it:=by simpa using hc
   rcases hc with rfl | rfl
   . exact⟨_,he,λv z=>by cases z⟩
   . exact⟨_,e1,λv z=>by rw[d1] at z;cases z⟩
 keep:=λi h h' st k=>by
   obtain⟨⟨Vu,he⟩,h1⟩:=st;exact⟨⟨Vu,k e (by simp) _ he⟩,h1.at λo z=>k it (by simp) o z⟩
 item:=by
   intro X hP hw hK hc i gV s Z H E I hf st hg;subst hP hw hK;obtain⟨⟨Vu,he⟩,h1⟩:=st;obtain⟨xs,x,UT,hx⟩:=hg;obtain⟨Vb,rv1,p1,_⟩:=I.list UT;obtain⟨u,hu,ru⟩:=rv1.get hx;have SV:i<Vb.length:=(List.getElem?_eq_some_iff.mp hu).1;refine wpAny_pyNext_enum_itemD (i:=i+1) (Ct (Draws.list (A:=X.A.in1) (show X.A.in1.handled=none from I.ok.hd hc) it a n3 Vb.toArray)) (by simpa using he) ⟨h1,p1.isList⟩ (by simpa using SV) n1 (by simp[n1,n2]) λu' h' tk hu' ho S_ ht hz kk=>?_;have e1:u'=u:=by
     have hu'':Vb.toArray[i]? = some u':=hu'
     simpa [hu] using hu''.symm
   subst e1;refine⟨_,rfl,wpAny_letOwnedTupleGo_enum ho λh2' he2 s2=>?_⟩;have T0:H s.heap.objs.size=none:=I.az.fresh (aah _);have te:s.heap.objs.size≠e:=abP (aap he);have J:Inv X gV Z (upd H s.heap.objs.size (.tup [.int ((i:Int)+1),x])) { s with heap:=h2' }:=by
     refine xF (ch:=[e,it]) I hf (aah _) (λc o hc z=>?_) (λc hc=>?_) ?_
     . have c1 : c ≠ e := λq => hc (by simp[q]);exact s2.extBut _ _ c1 (kk c o c1 (λq=>hc (by simp[q])) z)
     . have hc : c = e ∨ c = it := by simpa using hc
       rcases hc with rfl | rfl
       . exact⟨_,he2⟩
       . obtain⟨o,z,_⟩:=S_.1;exact⟨o,s2.extBut _ _ n1.symm z⟩
     . exact⟨by show 2<=aal;decide,[.int ((i:Int)+1) tk,u'],.cons ⟨_,rfl⟩ (.cons ru .nil),⟨_,s2.extBut _ _ te (by simpa using ht),rfl,_,rfl⟩⟩
   refine⟨.ref s.heap.objs.size,_,J.tok _,rfl,⟨_,x,rfl,T0,rfl,λxs' q1=>by rw[I.tu q1 UT];exact hx⟩,⟨⟨_,by simpa using he2⟩,S_.1.at λo z=>s2.extBut _ _ n1.symm z⟩,λc hc=>?_⟩;have SV:c<s.heap.objs.size:=by
     have hc:c=e∨c=it:=by simpa using hc
     rcases hc with z | z <;> rw[z]
     . exact aap he
     . obtain⟨o,z,_⟩:=h1;exact aap z
   rw[ai (aaC SV)];exact(hf c hc).1
 done:=by
   intro X hP hw hK hc i gV s Z H E I hf st hg;subst hP hw hK;obtain⟨⟨Vu,he⟩,h1⟩:=st;obtain⟨xs,UT,hl⟩:=hg;obtain⟨Vb,rv1,p1,_⟩:=I.list UT;have l1:=rv1.length;have hge:Vb.length<=i:=by omega
   have D:Draws X.prog X.w X.A.in1 it [it,a] 0 (λ_ _=>False) (λ_ h=>h.IsListIter it a i/\h.IsList a Vb.toArray) :=
     ⟨λ_ _ st => let ⟨o, ho, _⟩ := st.1; ⟨o, ho⟩, λ_ _ _ st hk => ⟨st.1.at λo z => hk it (by simp) o z, st.2.at λo z => hk a (by simp) o z⟩, λj s Q E hj => absurd hj (acb _),
       λs Q E st hE=>wpAny_nextOf_list_end (show X.A.in1.handled=none from I.ok.hd hc) st.1 st.2 (by simp;omega) hE⟩
   refine wpAny_pyNext_enum_endD D he ⟨h1,p1.isList⟩ λh' hx=>⟨rfl,?_⟩;have W3:∀ c o,c ∉ [e,it]->s.heap.get? c=some o->h'.get? c=some o:=λc o hc z=>hx c o (λq=>hc (by simp[q])) z;refine I.vz (s':={ s with heap:=h' }) (ch:=[e,it]) rfl ⟨λb o z _ _ hc=>W3 b o hc z,λb o z _ _ hc=>⟨o.slots,W3 b o hc z⟩,λb o z n _=>n,λb o z hc=>⟨o,W3 b o hc z⟩,λ_ _ z=>z,λ_ _ _ z=>z,λb ps z=>⟨#[],by rw[z];simp⟩⟩ (λb u z=>?_) I.bare ?_
   . have nc : ∀ b u, H b = some u -> b ∉ [e, it] := λb u z hb => by rw [(hf b hb).1] at z; cases z
     refine(I.az b u z).iT (λc v hc q=>W3 c v ?_ q) (λ_ q=>q) λ_ _ q=>q;rcases hc with q | q
     . rw[q];exact nc b u z
     . exact nc c _ q
   . intro b hb;obtain⟨f0,f1,f2,f3,f4,f5⟩:=hf b hb;exact⟨f3,f1,f4,f5⟩
 self:=λ_ _ _ _ _ st h=>by
   obtain⟨⟨Vu,he⟩,_⟩:=st;exact wpAny_pyIter_enum he h
section
variable {M:Model} {A:Around} {E:Value->Shared->Prop} {s:Shared}
theorem yn {pos:Pos} 
   (Tb:args.any (·.1)=false) (hkw:keywords.any (·.1.isNone)=false)
   (h:wpAny M A (evalArgs (.type T) true args keywords) (λa s₁=>wpAny M A (call (.type T) (first++a.pos) a.kw) Q E s₁) E s):wpAny M A (ac2 pos (.type T) first args keywords) Q E s:=by
 unfold ac2;refine aad (aa9 (aaH h (λa s₁ h₁=>aad (acu ?_)) λ_ _ x=>x));simp only[Tb,hkw,Bool.or_false];refine aad (aak ?_);exact aad (aaH h₁ (λr s₂ hr=>aad (aa9 (wpAny_point (aak hr)))) λ_ _ x=>x)
end
theorem BY:aaY "enumerate" = some (.type "enumerate"):=by nofun
def JH (K:W.Frag)(ta:TA)(tv:TE):TI:=λZ H R=>ta Z H λvs H1=>tv Z H1 λv H2=>∃ a xs,vs=[.ref a]/\v=.int 1/\aq K H2 a xs/\R (J9 K a) H2
theorem Lr {K:W.Frag}{es:List Expr}{n:Nat}{TH:Pos}{a v:Expr}{ta:TA}{p pos kp:Pos}(hK:X.K=K)(hg:Gl X "enumerate")(hm:X.mg "enumerate" = none)(ha:PA X [a] ta)(hv:PE X v tv)
   (he:backTo pos (aai [a] X.env)=[(false,eval a X.env)]:=by rfl) :
   PI X (.Tuple es n TH) (.Call (.Name "enumerate" p) [a] [⟨some "start",v,kp⟩] pos) (JH K ta tv):=by
 subst hK;intro gV s Z H R I h;refine abw (l7 I hg hm BY ?_);refine yn (by rw[he];rfl) rfl ?_;have TV:=ha pos gV s Z H _ I h;rw[he] at TV ⊢;refine evalArgs_kwB rfl (aQ TV λus s1 zq=>bN zq λvs H1 I1 r1 q1=>?_);refine kws_cons (aQ (hv gV s1 Z H1 _ I1 q1) λu s2 zq=>bN zq λy H2 I2 ry q2=>kws_nil ?_);obtain⟨l,xs,e1,e2,hx,q⟩:=q2;subst e1 e2;obtain⟨t,rfl⟩:=ry;cases r1 with
 | cons r rr =>
   cases rr
   cases r
   obtain⟨Vb,rv1,p1,_⟩:=I2.list hx;have lx:l<s2.heap.objs.size:=(by obtain⟨o,n,e,_⟩:=p1;exact aap e)
   refine Qz (by decide) (p1.isList) λh' z1 z2 kk=>?_;refine wpAny_pyIter_enum z1 ⟨_,[s2.heap.objs.size+1,s2.heap.objs.size],_,_,H2,rfl,I2.kept (t':=s2.toks) kk,Gv (Nat.succ_ne_self _) (abP (acv lx)) (aaC lx),⟨⟨_,by simpa using z1⟩,z2⟩,λc hc=>?_,q⟩;have hc:c=s2.heap.objs.size+1∨c=s2.heap.objs.size:=by simpa using hc
   have hge:s2.heap.objs.size<=c:=by rcases hc with e | e <;> rw[e] <;> first | exact abn _ | exact aah _
   exact I2.tO hge (I2.az.fresh hge)
theorem Pd {K:W.Frag}{ta:TA}{R:It->Hp->Prop}(q:ta Z H λvs H1=>tv Z H1 λv H2=>∃ a xs,vs=[.ref a]/\v=.int 1/\aq K H2 a xs/\R (J9 K a) H2):JH K ta tv Z H R:=q
def DX (K:W.Frag):List V->Hp->VK->Prop:=λxs H Q=>∃ (p:Addr) (ns:List Int),xs=[.ref p]/\aq K H p (ns.map V.int)/\Q (.bl (ns.all λn=>n != 0)) H
theorem DO (ns:List Int):(ab7 ns.length).all (λi=>ns.getD i 0 != 0)=ns.all λn=>n != 0:=by
 induction ns with
 | nil=>rfl
 | cons b r ih =>
   rw[aaA,List.range_succ_eq_map,acH,acH,List.all_map,<- ih];rfl
theorem FV (hc:X.calm=true):cG X (.builtin "all") (DX X.K):=by
 intro gV s Z H xs us Q I r h;obtain⟨p,bs,rfl,hq,q⟩:=h;obtain⟨u,rfl,rx⟩:=vals1 r;cases rx
 obtain⟨its,rv,pl,hz⟩:=I.list hq;have SO:=rv.length;rw[aac] at SO;have SV:p<s.heap.objs.size:=by obtain⟨o,e,_⟩:=pl.isList;exact aap e
 refine call_all_walk (abI pl.isList ?_);refine⟨s.heap.objs.size,_,_,_,_,_,λi=>bs.getD i 0 != 0,rfl,Walks.list (by exact I.ok.hd hc) s.heap.objs.size p (aaC SV) its.toArray,⟨⟨_,aau _ rfl,rfl,rfl⟩,pl.isList.push _⟩,?_,?_⟩
 . intro i v s' Q' E' hP hQ';have hP':its[i]? = some v:=by simpa using hP
   have hi:i<its.length:=(List.getElem?_eq_some_iff.mp hP').1;have hb:(bs.map V.int)[i]? = some (V.int (bs.getD i 0)):=by
     rw[aag,aaa (by omega)];simp[List.getD,aaa (show i<bs.length by omega)]
   obtain⟨u',hu',ru'⟩:=rv.get hb;rw[hP'] at hu';cases hu'
   obtain⟨t,rfl⟩:=(show ∃ t,v=abl _ t from ru')
   exact PySem.P.truthy_int hQ'
 . intro h' tk kk;have e:(ab7 its.toArray.size).all (λi=>bs.getD i 0 != 0)=bs.all λn=>n != 0:=by
     rw[aam,<- SO];exact DO bs
   rw[e];refine⟨.bl _,H,?_,rfl,q⟩;have I1:Inv X gV Z H { s with heap:=s.heap.push { cls:=.type "list_iterator",data:=.fields #[.ref p,.int 0 0] } }:=I.kept (t':=s.toks) λb o e=>aaf _ e;have f:=I.tO (H':=H) (aah _) I.fresh;exact I1.turned (it:=s.heap.objs.size) (h':=h') (t':=tk) (λb o hb e=>kk b o (by simpa using hb) e) f.1 f.2.1 f.2.2.2.1 f.2.2.2.2.1 f.2.2.2.2.2
theorem EO {K:W.Frag}(h:X.K=K)(hc:X.calm=true):cG X (.builtin "all") (DX K):=by subst h;exact FV hc
theorem O1 {K:W.Frag}{p:Addr}{ns:List Int}{Q:VK}(h:aq K H p (ns.map V.int))(q:Q (.bl (ns.all λn=>n != 0)) H):DX K [.ref p] H Q:=⟨p,ns,rfl,h,q⟩
def H_ (K:W.Frag):List V->Hp->VK->Prop:=λxs H Q=>∃ (p:Addr) (bs:List Bool),xs=[.ref p]/\aq K H p (bs.map V.bl)/\Q (.bl (bs.any id)) H
theorem any_range (bs:List Bool):(ab7 bs.length).any (λi=>bs.getD i false)=bs.any id:=by
 induction bs with
 | nil=>rfl
 | cons b r ih =>
   rw[aaA,List.range_succ_eq_map,abt,abt,List.any_map,<- ih];rfl
theorem Hg (hc:X.calm=true):cG X (.builtin "any") (H_ X.K):=by
 intro gV s Z H xs us Q I r h;obtain⟨p,bs,rfl,hq,q⟩:=h;obtain⟨u,rfl,rx⟩:=vals1 r;cases rx
 obtain⟨its,rv,pl,hz⟩:=I.list hq;have SO:=rv.length;rw[aac] at SO;have SV:p<s.heap.objs.size:=by obtain⟨o,e,_⟩:=pl.isList;exact aap e
 refine call_any_walk (abI pl.isList ?_);refine⟨s.heap.objs.size,_,_,_,_,_,λi=>bs.getD i false,rfl,Walks.list (by exact I.ok.hd hc) s.heap.objs.size p (aaC SV) its.toArray,⟨⟨_,aau _ rfl,rfl,rfl⟩,pl.isList.push _⟩,?_,?_⟩
 . intro i v s' Q' E' hP hQ';have hP':its[i]? = some v:=by simpa using hP
   have hi:i<its.length:=(List.getElem?_eq_some_iff.mp hP').1;have hb:(bs.map V.bl)[i]? = some (V.bl (bs.getD i false)):=by
     rw[aag,aaa (by omega)];simp[List.getD,aaa (show i<bs.length by omega)]
   obtain⟨u',hu',ru'⟩:=rv.get hb;rw[hP'] at hu';cases hu'
   cases (show v=adi _ from ru')
   exact abd hQ'
 . intro h' tk kk;have e:(ab7 its.toArray.size).any (λi=>bs.getD i false)=bs.any id:=by
     rw[aam,<- SO];exact any_range bs
   rw[e];refine⟨.bl _,H,?_,rfl,q⟩;have I1:Inv X gV Z H { s with heap:=s.heap.push { cls:=.type "list_iterator",data:=.fields #[.ref p,.int 0 0] } }:=I.kept (t':=s.toks) λb o e=>aaf _ e;have f:=I.tO (H':=H) (aah _) I.fresh;exact I1.turned (it:=s.heap.objs.size) (h':=h') (t':=tk) (λb o hb e=>kk b o (by simpa using hb) e) f.1 f.2.1 f.2.2.2.1 f.2.2.2.2.1 f.2.2.2.2.2
theorem FC {K:W.Frag}(h:X.K=K)(hc:X.calm=true):cG X (.builtin "any") (H_ K):=by subst h;exact Hg hc
theorem NH {K:W.Frag}{p:Addr}{bs:List Bool}{Q:VK}(h:aq K H p (bs.map V.bl))(q:Q (.bl (bs.any id)) H):H_ K [.ref p] H Q:=⟨p,bs,rfl,h,q⟩
def lT (K:W.Frag):R2:=λx y H Q=>∃ p q xs ys,x=.ref p/\y=.ref q/\aq K H p xs/\aq K H q ys/\xs.length≠ys.length/\Q (.bl true) H
theorem Js (hu:X.A.units+64<cLine):bS X (aaT .NotEq) (lT X.K):=by
 intro gV s Z H x y v u Q I rx ry h;obtain⟨p,q,xs,ys,rfl,rfl,h1,h2,hn,k⟩:=h;cases rx;cases ry
 obtain⟨its,r1,pl1,_⟩:=I.list h1;obtain⟨jts,r2,pl2,_⟩:=I.list h2;have l1:=r1.length;have l2:=r2.length;refine RcNeAt.lists_lengths pl1.isList pl2.isList ?_ (by omega) _ _ _ _ ⟨.bl true,H,I,rfl,k⟩;simp only[aam,bne_iff_ne];omega
theorem CV {K:W.Frag}(h:X.K=K)(hu:X.A.units+64<cLine):bS X (aaT .NotEq) (λx y H Q=>e_ K x y H Q∨lT K x y H Q):=by subst h;exact(Gc hu).or (Js hu)
section
variable {X:Cx} {C:Addr}
def Ks (tb:TB)(C:Addr)(th:TS):TS:=λD Z H=>tb D (λc _ H2=>c=.ref C/\th { nx:=λZ' H'=>D.nx Z' H',rt:=λ_ _=>False } Z H2) Z H
theorem LC {x:Str}{np UP pos:Pos}(S_:X.stack=X.env::X.outer)(Ut:X.env.frame=some X.env.locals)(hc:X.calm=true)
   (hb:PB X body tb) (c:z8 X.K X.mg x C) (hg:Gl X x) (hs:∀ ea,gw (Cx.sup X ea []) (b0::Vr) th) (Tn:(x == ("__debug__" : Str))=false:=by decide) :
   PS X (.Try body [.ExceptHandler (some (.Name x np)) none (b0::Vr) UP] [] [] pos) (Ks tb C th):=by
 intro gV s Z H D I0 h;refine wpAny_Try_except (aaH (hb gV s Z H D _ I0 h) (λf s1 q=>?_) λex s' q=>?_)
 . cases f with
   | next=>exact abH q
   | brk=>exact q
   | cont=>exact q
   | ret u=>exact q
 obtain⟨ea,C',H1,s1,H',rfl,I,⟨os,bare,h0,l,a0,u,az,hl,hnew,fl,up⟩,ec,q⟩:=q;cases ec
 have hh:X.calm=true->X.A.handled=none:=I.ok.hd;have fl':Heap.FlyingW (acm h0 l) (X.env::X.outer) ea (.ref C) a0 s'.heap:=by rw[<- S_];exact fl
 refine wpAny_looks_onW (by rw[<- S_];exact I.ok.frames) Ut fl' λh4 Wv up4=>?_;refine wpAny_landsW Wv λh5 fl5 up5=>?_;have I5:Inv X gV Z H' { s' with heap:=h5 }:=kA I os bare u az hl fl5.1 ((up.trans up4).trans up5);obtain⟨oe,T5,hoec⟩:=fl5.there;refine wpAny_handleBy_cons (codeAny_handlers_test (eX (X:=Cx.sup X ea []) (Inv.sup I5 (λp hp=>nomatch hp)) hg c.glob ?_ Tn)) (by intro z;cases z);obtain⟨bm,N',nm,qn,bs,hd,sn,sub,ab,col,dd,k0,k1,k2,k3,k5,mN,hC,hNs,hni,TL⟩:=c.obj I5.df;refine wpAny_excMatches_sub_self hC T5 hoec (TL.hasType (by nofun)) (codeAny_handlers_suite ?_);refine lands_againW fl5 λh6 fl6 up6=>?_;have I6:Inv (Cx.sup X ea []) gV Z H' { s' with heap:=h6 }:=Inv.sup (kA I os bare u az hl fl6.1 (((up.trans up4).trans up5).trans up6)) λp hp=>nomatch hp;refine aaH (hs ea gV _ Z H' _ I6 q) (λf s8 q8=>?_) λ_ _ z=>z.elim;cases f with
 | next =>
   obtain⟨Z',H'',I8,q9⟩:=q8;exact⟨Z',H'',Inv.vb I8 hh,q9⟩
 | brk=>obtain⟨_,_,_,z⟩:=q8;exact z.elim
 | cont=>obtain⟨_,_,_,z⟩:=q8;exact z.elim
 | ret v=>obtain⟨_,_,_,_,_,z⟩:=q8;exact z.elim
end
open PySem PySem.Spec PyProof.Rows L2 PySem.SeqAt PySem.Builtin PySem.Builtin.Str
open PySem PySem.Spec PyProof.Rows L2 PySem.SeqAt PySem.Builtin PySem.Builtin.Str PySem.StrLaws
open PySem PySem.Spec PyProof.Rows L2 PySem.SeqAt PySem.NumText
end L3
namespace HT
open PySem PyProof.Rows
end HT
namespace L3
open PySem PySem.Spec PyProof.Rows L2 PySem.SeqAt
structure QS (P:Program)(w:World)(K:W.Frag)(mg:Str->Option Value)(base:Heap)(CX:dQ)(k:Nat)(x:Str)(sp:Sp):Prop where
 ex:∃ (f:Addr) (fd:aa3) (ps:List Str),c6 P w K mg base CX k f fd ps sp/\mg x=some (.ref f)/\abc K (.ref f)=true/\Binds K fd ps [.none]
section
variable {P:Program} {w:World} {K:W.Frag} {mg:Str->Option Value} {base:Heap} {x qual:Str} {st:Stmt} {N ps:List Str} {sp:Sp}
theorem fb.J0 (F:fb K x qual st f fd)(S:ao N ps (ag st))(len:∀ vs H Q E,sp vs H Q E->vs.length=ps.length)(SR:y3 P w K mg base k qual st N sp):c6 P w K mg base (eV P w) (k+1) f fd ps sp:=by
 obtain⟨oc,od,da,kV,SU,pm,an,SN,ct,Tj,o,n,rfl,lk,Tp,_,_⟩:=F.ex;exact qO lk Tp S len λA outer s H vs Q E hr UC=>SR f SN A outer s H vs Q E hr UC
theorem K7 (k:Nat)(h:∃ f fd,fb K x qual st f fd/\mg x=some (.ref f)/\Binds K fd ps []/\Binds K fd ps [.none])(S:ao N ps (ag st))(len:∀ vs H Q E,sp vs H Q E->vs.length=ps.length)
   (SR:y3 P w K mg base k qual st N sp):iR P w K mg base (eV P w) (k+1) x sp/\QS P w K mg base (eV P w) (k+1) x sp:=by
 obtain⟨f,fd,F,hm,hb,UH⟩:=h;exact⟨⟨f,fd,ps,fb.J0 F S len SR,hm,F.kp,hb⟩,⟨f,fd,ps,fb.J0 F S len SR,hm,F.kp,UH⟩⟩
end
def FL:List V->Hp->VK->Prop:=λxs H Q=>∃ (a:Addr) (kvs:List (Key×V)) (ks:List Int),xs=[.ref a]/\Rd H a (.dK kvs)/\kvs.map (·.1)=ks.map Sum.inl/\∀ p,H p=none->Q (.ref p) (upd H p (.lst (ks.map V.int)))
variable {X:Cx}
theorem Eo (hc:X.calm=true):cG X (.type "list") FL:=by
 intro gV s Z H xs us Q I r h;obtain⟨a,kvs,ks,rfl,e,hk,q⟩:=h;obtain⟨u,rfl,rx⟩:=vals1 r;cases rx
 have hh:X.A.handled=none:=I.ok.hd hc;obtain⟨z,hd,vs,Tz,dd⟩:=kT I.az e;obtain⟨ep,Tx⟩:=dd.dictAt;have W6:kvs.length=ks.length:=by rw[<- aac (f:=(·.1)) (as:=kvs),hk,aac]
 have hlv:vs.length=ks.length:=by rw[<- Tz.length,W6]
 refine W.kdl_call (W.kdl_dict (knd:=cX X.prog X.w) (kvs:=vs) (ep:=ep) hd) hh Tx (by rw[hlv,<- W6];exact z) λh' tk T3 c' hk' hS UR=>?_;have hl:T3.toList.length=ks.length:=by rw[ab1,<- hlv];exact UR.1
 have hI:IntsAre T3.toList ks:=vM hl λj v hv=>by
   obtain⟨k,x,e1,e2⟩:=UR.2 j v (by rw[<- adh];exact hv);have e3:(kvs.map (·.1))[j]? = some k:=by
     have e4:∀ {kvs:List (Key×V)} {vs:List (Key×Value)},KV kvs vs->kvs.map (·.1)=vs.map (·.1):=λr=>by
       unfold KV at r
       induction r with
       | nil=>rfl
       | cons r1 r2 ih=>rw[aaN,aaN,r1.1,ih]
     rw[e4 Tz,aag,e1];rfl
   rw[hk,aag] at e3;obtain⟨n,e5,e6⟩:=Option.map_eq_some_iff.mp e3;rcases cC e2 with ⟨i,t,e7,e8⟩ | ⟨x,t,e7,e8⟩
   . rw[e7] at e6;cases e6
     exact⟨_,t,e5,e8⟩
   . rw[e7] at e6;cases e6
 have hn:H s.heap.objs.size=none:=I.az.fresh (aah _);exact⟨.ref s.heap.objs.size,_,I.laid (t':=tk) (o:=.lst (ks.map V.int)) hk' (aah _) ⟨by rw[aac,<- W6];exact z,T3.toList,c',pR hI,hS⟩,rfl,q _ hn⟩
variable {H:Hp}
theorem Ls {a:Addr}{kvs:List (Key×V)}{ks:List Int}{Q:VK}(h:H a=some (.dK kvs))(hk:kvs.map (·.1)=ks.map Sum.inl)(q:∀ p,H p=none->Q (.ref p) (upd H p (.lst (ks.map V.int)))):FL [.ref a] H Q:=⟨a,kvs,ks,rfl,.inl h,hk,q⟩
section
variable {prog:Program} {w:World} {A:Around} {E:Value->Shared->Prop} {s:Shared}
theorem Pa (hi:s.heap.IsListIter it t i)(ht:s.heap.IsList t its)
   (q1:∀ x,its[i]? = some x->∀ h',h'.IsListIter it t (i+1)->ab8 it s.heap h'->Q x { s with heap:=h' })
   (q2:its[i]? = none->A.handled=none/\∀ h' e,Heap.ExtBut it s.heap h'->(∃ o,h'.get? e=some o/\o.cls=.type "StopIteration")->E (.ref e) { s with heap:=h' }) :
   wpAny (model prog w) A (abh (.ref it)) Q E s:=by
 cases hx:its[i]? with
 | some x=>exact wpAny_nextOf_list_item hi ht hx λh' k1 k2=>q1 x hx h' k1 k2
 | none =>
   obtain⟨hh,q⟩:=q2 hx;exact wpAny_nextOf_list_end hh hi ht hx λh' e k1 k2=>q h' e k1 k2
end
def DS (K:W.Frag)(l1 l2 l3 l4 l5:Addr):It :=
 ⟨λi H=>∃ X1 X2 X3 X4 X5 x1 x2 x3 x4 x5,aq K H l1 X1/\aq K H l2 X2/\aq K H l3 X3/\aq K H l4 X4/\aq K H l5 X5/\X1[i]? = some x1/\X2[i]? = some x2/\X3[i]? = some x3/\X4[i]? = some x4/\X5[i]? = some x5,
  λi H v H'=>∃ T x1 x2 x3 x4 x5,v=.ref T/\H T=none/\H'=upd H T (.tup [x1,x2,x3,x4,x5])/\∀ X1 X2 X3 X4 X5,aq K H l1 X1->aq K H l2 X2->aq K H l3 X3->aq K H l4 X4->aq K H l5 X5->X1[i]? = some x1/\X2[i]? = some x2/\X3[i]? = some x3/\X4[i]? = some x4/\X5[i]? = some x5,
  λi H=>∃ X1 X2 X3 X4 X5,aq K H l1 X1/\aq K H l2 X2/\aq K H l3 X3/\aq K H l4 X4/\aq K H l5 X5/\(X1.length<=i∨X2.length<=i∨X3.length<=i∨X4.length<=i∨X5.length<=i)⟩
def J5 (K:W.Frag)(ta:TA):TI:=λZ H R=>ta Z H λvs H1=>∃ l1 l2 l3 l4 l5 X1 X2 X3 X4 X5,vs=[.ref l1,.ref l2,.ref l3,.ref l4,.ref l5]/\aq K H1 l1 X1/\aq K H1 l2 X2/\aq K H1 l3 X3/\aq K H1 l4 X4/\aq K H1 l5 X5/\R (DS K l1 l2 l3 l4 l5) H1
variable {ta:TA}
theorem O7 {K:W.Frag}{Z : St}{R:It->Hp->Prop}(q:ta Z H λvs H1=>∃ l1 l2 l3 l4 l5 X1 X2 X3 X4 X5,vs=[.ref l1,.ref l2,.ref l3,.ref l4,.ref l5]/\aq K H1 l1 X1/\aq K H1 l2 X2/\aq K H1 l3 X3/\aq K H1 l4 X4/\aq K H1 l5 X5/\R (DS K l1 l2 l3 l4 l5) H1):J5 K ta Z H R:=q
theorem Iu {K:W.Frag}{l1 l2 l3 l4 l5:Addr}{X1 X2 X3 X4 X5:List V}{g:TG}{tb:TS}{D:Ends}{Z : St}(hy2:X2.length=X1.length)(hy3:X3.length=X1.length)(hy4:X4.length=X1.length)(hy5:X5.length=X1.length)(Pv:Nat->St->Hp->Prop)(h0:Pv 0 Z H)(hl:∀ i Z H,i<=X1.length->Pv i Z H->aq K H l1 X1/\aq K H l2 X2/\aq K H l3 X3/\aq K H l4 X4/\aq K H l5 X5)
   (hs:∀ i x1 x2 x3 x4 x5 T Z H,X1[i]? = some x1->X2[i]? = some x2->X3[i]? = some x3->X4[i]? = some x4->X5[i]? = some x5->Pv i Z H->H T=none->g (.ref T) Z (upd H T (.tup [x1,x2,x3,x4,x5])) λZ2 H2=>tb { D with nx:=Pv (i+1),ct:=Pv (i+1),bk:=D.nx } Z2 H2) (hd:∀ Z H,Pv X1.length Z H->D.nx Z H):zL (DS K l1 l2 l3 l4 l5) g tb D Z H:=by
 refine⟨λi m Z H=>m=X1.length - i/\i<=X1.length/\Pv i Z H,⟨X1.length,by simp,aaX _,h0⟩,?_⟩;rintro i m Z H ⟨rfl,hi,p⟩;obtain⟨q1,q2,q3,q4,q5⟩:=hl i Z H hi p;by_cases SV:i<X1.length
 . refine .inr ⟨⟨X1, X2, X3, X4, X5, X1[i], X2[i], X3[i], X4[i], X5[i], q1, q2, q3, q4, q5, by simp[SV], by simp[hy2, SV], by simp[hy3, SV], by simp[hy4, SV], by simp[hy5, SV]⟩, Pv (i + 1), λZ' H' p' => ⟨X1.length - (i + 1), by omega, rfl, SV, p'⟩, λx H' y => ?_⟩;obtain⟨T,x1,x2,x3,x4,x5,rfl,hT,rfl,WU⟩:=y;obtain⟨r1,r2,r3,r4,r5⟩:=WU _ _ _ _ _ q1 q2 q3 q4 q5;exact hs i x1 x2 x3 x4 x5 T Z H r1 r2 r3 r4 r5 p hT
 . have e : i = X1.length := by omega
   subst e;exact .inl ⟨⟨X1,X2,X3,X4,X5,q1,q2,q3,q4,q5,.inl (aah _)⟩,hd Z H p⟩
variable {l:List Str} {x:Str}
theorem SA (_:(x::l).Nodup)(e:X.N=x::l):X.N[0]? = some x:=by rw[e];rfl
theorem Sj (_:(a::x::l).Nodup)(e:X.N=a::x::l):X.N[1]? = some x:=by rw[e];rfl
variable {b:Str}
theorem RX (_:(a::b::x::l).Nodup)(e:X.N=a::b::x::l):X.N[2]? = some x:=by rw[e];rfl
variable {c:Str}
theorem R1 (_:(a::b::c::x::l).Nodup)(e:X.N=a::b::c::x::l):X.N[3]? = some x:=by rw[e];rfl
variable {d:Str}
theorem Se (_:(a::b::c::d::x::l).Nodup)(e:X.N=a::b::c::d::x::l):X.N[4]? = some x:=by rw[e];rfl
variable {e:Str}
theorem SI (_:(a::b::c::d::e::x::l).Nodup)(e:X.N=a::b::c::d::e::x::l):X.N[5]? = some x:=by rw[e];rfl
variable {f:Str}
theorem Sb (_:(a::b::c::d::e::f::x::l).Nodup)(e:X.N=a::b::c::d::e::f::x::l):X.N[6]? = some x:=by rw[e];rfl
variable {g:Str}
theorem Sl (_:(a::b::c::d::e::f::g::x::l).Nodup)(e:X.N=a::b::c::d::e::f::g::x::l):X.N[7]? = some x:=by rw[e];rfl
variable {h:Str}
theorem Sx (_:(a::b::c::d::e::f::g::h::x::l).Nodup)(e:X.N=a::b::c::d::e::f::g::h::x::l):X.N[8]? = some x:=by rw[e];rfl
theorem R9 (_:(a::b::c::d::e::f::g::h::i::x::l).Nodup)(e:X.N=a::b::c::d::e::f::g::h::i::x::l):X.N[9]? = some x:=by rw[e];rfl
theorem Rr (_:(a::b::c::d::e::f::g::h::i::j::x::l).Nodup)(e:X.N=a::b::c::d::e::f::g::h::i::j::x::l):X.N[10]? = some x:=by rw[e];rfl
theorem Rq (_:(a::b::c::d::e::f::g::h::i::j::k::x::l).Nodup)(e:X.N=a::b::c::d::e::f::g::h::i::j::k::x::l):X.N[11]? = some x:=by rw[e];rfl
section
variable {X:Cx} {P:Program} {w:World} {K:W.Frag} {mg:Str->Option Value} {base:Heap} {CX:dQ} {k:Nat} {E:XK} {m x:Str} {p pos SW:Pos} {e o iter tg c:Expr} {es:List Expr} {ta te tl:TE} {t:TA} {sp:Sp} {C:Addr} {id:String} {v:V} {u:Value} {r:List V->Hp->VK->Prop} {g:TG} {tb:TS} {wi:TI} {tc:TT} {body:List Stmt}
theorem Pz (hP:X.prog=P/\X.w=w/\X.K=K/\X.mg=mg/\X.base=base)(G:iR P w K mg base bJ k x sp)(hr:bG k X.A)(hg:Gl X x)(ha:PA X (e::es) t)(Tn:(x == ("__debug__" : Str))=false)
   (he:aai (e::es) X.env=(false,eval e X.env)::aai es X.env) (SS:(backTo pos (aai es X.env)).any (·.1)=false):PE X (.Call (.Name x p) (e::es) [] pos) (cm sp E0 t):=by
 obtain⟨rfl,rfl,rfl,rfl,rfl⟩:=hP;exact be G hr bQ hg ha Tn he SS
theorem N3 (hP:X.prog=P/\X.w=w/\X.K=K/\X.mg=mg/\X.base=base)(G:C0 P w K mg base bJ k x C sp)(hr:bG (k+1) X.A)(hg:Gl X x)(ha:PA X (e::es) t)(Tn:(x == ("__debug__" : Str))=false)
   (he:aai (e::es) X.env=(false,eval e X.env)::aai es X.env) (SS:(backTo pos (aai es X.env)).any (·.1)=false):PE X (.Call (.Name x p) (e::es) [] pos) (Aj C sp E0 t):=by
 obtain⟨rfl,rfl,rfl,rfl,rfl⟩:=hP;exact Ax G hr bQ hg ha Tn he SS
theorem OT (hM:X.mg=mg)(hm:mg x=none)(hv:aaY x=some (.builtin id))(hc:cG X (.builtin id) r)(hg:Gl X x)(ha:PA X (e::es) t)(Tn:(x == ("__debug__" : Str))=false)(hn:x ≠ "__name__")
   (he:aai (e::es) X.env=(false,eval e X.env)::aai es X.env) (SS:(backTo pos (aai es X.env)).any (·.1)=false):PE X (.Call (.Name x p) (e::es) [] pos) (si r t):=by
 subst hM;exact cJ hc hg hm hv ha hn Tn he SS
theorem Ni (hM:X.mg=mg)(hm:mg x=none)(hv:aaY x=some (.type id))(hc:cG X (.type id) r)(hg:Gl X x)(ha:PA X (e::es) t)(Tn:(x == ("__debug__" : Str))=false)(hn:x ≠ "__name__")
   (he:aai (e::es) X.env=(false,eval e X.env)::aai es X.env) (SS:(backTo pos (aai es X.env)).any (·.1)=false):PE X (.Call (.Name x p) (e::es) [] pos) (si r t):=by
 subst hM;exact iK hc hg hm hv ha hn Tn he SS
theorem Ng (hM:X.mg=mg)(hm:mg x=some (.ref A))(hg:Gl X x)(hd:(x == ("__debug__" : Str))=false):PE X (.Name x pos) (tC (.ref A)):=by
 subst hM;exact gu hg hm rfl hd
theorem MI {i:Int}(hM:X.mg=mg)(hm:∃ t,mg x=some (.int i t))(hg:Gl X x)(hd:(x == ("__debug__" : Str))=false):PE X (.Name x pos) (tC (.int i)):=by
 subst hM;exact gu hg hm.choose_spec ⟨_,rfl⟩ hd
theorem M_ (hM:X.mg=mg)(hm:mg "range" = none)(hg:Gl X "range")(ha:PA X [a] t)(hs:aai [a] X.env=[(false,eval a X.env)]):PI X tg (.Call (.Name "range" p) [a] [] pos) (nq t):=by
 subst hM;exact fo hg hm ha hs
theorem NN {a b:Expr}{rest:List Expr}{tA Ww:TT}(ha:PT X a tA)(hb:PW X (.BoolOp .And (b::rest) pos) Ww):PT X (.BoolOp .And (a::b::rest) pos) (OQ tA Ww):=(oG ha hb).pt
theorem PQ {a b:Expr}{rest:List Expr}{tA Ww:TT}(ha:PT X a tA)(hb:PW X (.BoolOp .Or (b::rest) pos) Ww):PT X (.BoolOp .Or (a::b::rest) pos) (Kk tA Ww):=(zc ha hb).pt
def pZ:List Str->List V->St
 | [],_=>[]
 | _::r,[]=>none::pZ r []
 | _::r,v::vs=>some v::pZ r vs
theorem Pq {t:TS}{D:Ends}{N:List Str}{vs:List V}{Z':St}(h1:L2.start N vs=pZ N vs)(h2:pZ N vs = Z')(q:t D Z' H):t D (L2.start N vs) H:=by rw[h1,h2];exact q
def OV (_:Str)(_:Nat):Prop:=True
theorem ka (m:Str)(k:Nat):OV m k:=trivial
theorem O8 (hk:OV m k)(hP:X.prog=P/\X.w=w/\X.K=K/\X.mg=mg/\X.base=base)(he:PE X o ta)(hr:bG k X.A)(ha:PA X (e::es) t)
   (S_:aai (e::es) X.env=(false,eval e X.env)::aai es X.env) (SS:(backTo pos (aai es X.env)).any (·.1)=false)
   (ht : eval (.Call (.Attribute o m SW) (e :: es) [] pos) X.env = (do
     let ov <- eval o X.env
     standAt SW.atName
     let (f,first) <- holding [ov] (acX ov m pl)
     ac2 pos f first (backTo pos (aai (e::es) X.env)) (ac3 pos (abU [] X.env)))) :
   PE X (.Call (.Attribute o m SW) (e::es) [] pos) (bC P w K mg base bJ k m E0 ta t):=Be hP he hr bQ ha S_ SS ht
theorem KH (hk:OV m k)(hP:X.prog=P/\X.w=w/\X.K=K/\X.mg=mg/\X.base=base)(he:PE X o ta)(hr:bG k X.A)
   (ht : eval (.Call (.Attribute o m SW) [] [] pos) X.env = (do
     let ov <- eval o X.env
     standAt SW.atName
     let (f,first) <- holding [ov] (acX ov m pl)
     ac2 pos f first (backTo pos (aai [] X.env)) (ac3 pos (abU [] X.env)))) :
   PE X (.Call (.Attribute o m SW) [] [] pos) (bC P w K mg base bJ k m E0 ta aO):=gq hP he hr bQ ht
theorem LI {SW SQ:Pos}(h:X.K=K)(ho:PE X o ta)(ha:PA X (e::es) t)
   (Ti:abZ o "append" X.env (eval o X.env)=eval o X.env)
   (Wi:((backTo SQ (aai (e::es) X.env)).all (λx=>!x.1) && (ac3 SQ (abU [] X.env)).all (λx=>x.1.isSome)
     && decide ((e::es).length+([]:List Keyword).length+(if ([]:List Keyword).isEmpty then 0 else 1)<30))=true)
   (TK:(SW.endLine == SQ.line)=true) (hs:aai (e::es) X.env=(false,eval e X.env)::aai es X.env) (Tb:(backTo SQ (aai es X.env)).any (·.1)=false) :
   PE X (.Call (.Attribute o "append" SW) (e::es) [] SQ) (MV K "list" vR ta t):=zB h abA PySem.F.slot_list_append PySem.F.type_list_append yc ho ha Ti Wi TK hs Tb
end
abbrev Src:=Bool×Addr×Addr
def eA (h:Heap)(p:Src)(k:Nat):Prop:=match p with | (true,t,i)=>h.IsListIter i t k | (false,t,i)=>h.IsTupleIter i t k
def iA (h:Heap)(p:Src)(X:Array Value):Prop:=match p with | (true,t,_)=>h.IsList t X | (false,t,_)=>h.IsTuple t X
abbrev er (xs:Array Value):Obj:={ cls:=.type "tuple",data:=.seq xs }
structure N6 (z TI TO:Addr)(S:List Src):Prop where
 TIz:TI≠z
 TOz:TO≠z
 TITO:TI≠TO
 el:∀ p∈S,p.2.2≠z/\p.2.2≠TO/\TI≠p.2.2/\p.2.1≠z/\p.2.1≠TO/\∀ q∈S,p.2.1≠q.2.2
 nd:(S.map (·.2.2)).Nodup
theorem eA.to {h h':Heap}{p:Src}{k:Nat}(q:eA h p k)(e:∀ o,h.get? p.2.2=some o->h'.get? p.2.2=some o):eA h' p k:=by
 obtain⟨b,t,i⟩:=p;cases b
 . exact Heap.IsTupleIter.at q e
 . exact Heap.IsListIter.at q e
theorem iA.to {h h':Heap}{p:Src}{X:Array Value}(q:iA h p X)(e:∀ o,h.get? p.2.1=some o->h'.get? p.2.1=some o):iA h' p X:=by
 obtain⟨b,t,i⟩:=p;cases b
 . exact Heap.IsTuple.at q e
 . exact Heap.IsList.at q e
variable {β : Type}
theorem z_ {M:Model}{A:Around}{E:Value->Shared->Prop}{f:Value×Nat->β->Sem (ForInStep β)}{b0 : β}{Q : β->Shared->Prop}(I:Nat->Shared->Prop):∀ (l:List Value) (j:Nat) (s:Shared),I j s ->
   (∀ i v s,l[i]? = some v->I (j+i) s->wpAny M A (f (v,j+i) b0) (λr s'=>r=.yield b0/\I (j+i+1) s') E s)->(∀ s,I (j+l.length) s->Q b0 s)->wpAny M A (forIn (l.zipIdx j) b0 f) Q E s
 | [],j,s,h,_,q=>by simp only[List.zipIdx_nil,List.forIn_nil];exact aak (q s h)
 | v :: l, j, s, h, st, q => by
   simp only[List.zipIdx_cons,List.forIn_cons];refine aad (aaH (st 0 v s rfl h) (λr s' e=>?_) (λ_ _ x=>x));obtain⟨rfl,h'⟩:=e;refine z_ I l (j+1) s' h' (λi v s e hi=>?_) λs h=>q s (by rw[aaA,Nat.add_comm l.length,<- Nat.add_assoc];exact h);have e1:j+1+i=j+(i+1):=by omega
   rw[e1] at hi ⊢;exact st (i+1) v s e hi
section
variable {prog:Program} {w:World} {A:Around} {E:Value->Shared->Prop} {s:Shared}
theorem Qj {p:Src}{i:Nat}{its:Array Value}{Q:Value->Shared->Prop}(hi:eA s.heap p i)(ht:iA s.heap p its)
   (q1:∀ x,its[i]? = some x->∀ h',eA h' p (i+1)->ab8 p.2.2 s.heap h'->Q x { s with heap:=h' })
   (q2:its[i]? = none->A.handled=none/\∀ h' e,Heap.ExtBut p.2.2 s.heap h'->(∃ o,h'.get? e=some o/\o.cls=.type "StopIteration")->E (.ref e) { s with heap:=h' }) :
   wpAny (model prog w) A (abh (.ref p.2.2)) Q E s:=by
 obtain⟨b,t,it⟩:=p;cases b
 . exact MJ hi ht q1 q2
 . exact Pa hi ht q1 q2
theorem IK {T:Addr}{xs:Array Value}{x:Value}{k:Nat}{Q:Unit->Shared->Prop}(hT:s.heap.get? T=some (er xs))(hs:xs.size<=aal)
   (h:∀ h',h'.get? T=some (er (xs.setIfInBounds k x))->ab8 T s.heap h'->Q () { s with heap:=h' }) :
   wpAny (model prog w) A (updateSeq T (·.setIfInBounds k x)) Q E s:=by
 refine wpAny_updateSeq hT rfl (h _ ?_ (ac8 ..)) hs (by simp only[Array.size_setIfInBounds];omega);rw[abb _ hT rfl];simp[adt]
set_option maxHeartbeats 4000000 in
theorem Q1 {z TI TO:Addr}{S:List Src}{Xs:List (Array Value)}{as:Array Value}{k:Nat}{Q:Fin->Shared->Prop}(D:N6 z TI TO S)(hz:IsZip s.heap z TI TO .none)(hTI:s.heap.get? TI=some (er (S.map λp=>S8 p.2.2).toArray))(hTO:s.heap.get? TO=some (er as))(hl:as.size=S.length)(hS:S≠[])(hX:Xs.length=S.length)(hs:S.length<=aal)
   (h:∀ (i:Nat) p X,S[i]? = some p->Xs[i]? = some X->eA s.heap p k/\iA s.heap p X)
   (q1:∀ xs:List Value,xs.length=S.length->(∀ (i:Nat) X x,Xs[i]? = some X->xs[i]? = some x->X[k]? = some x)->∀ h',IsZip h' z TI TO (rawInt s.heap.objs.size)->h'.get? TO=some (er xs.toArray)->(∀ (i:Nat) p,S[i]? = some p->eA h' p (k+1))->h'.get? s.heap.objs.size=some (er xs.toArray) ->
     (∀ c o,c≠z->c≠TO->(∀ p∈S,c≠p.2.2)->s.heap.get? c=some o->h'.get? c=some o)->Q (.done (.ret (.ref s.heap.objs.size))) { s with heap:=h' })
   (q2:∀ (i:Nat) X,Xs[i]? = some X->X[k]? = none->A.handled=none/\∀ h' e,(∀ c o,c≠z->c≠TO->(∀ p∈S,c≠p.2.2)->s.heap.get? c=some o->h'.get? c=some o)->(∃ o,h'.get? e=some o/\o.cls=.type "StopIteration")->E (.ref e) { s with heap:=h' }) :
   wpAny (model prog w) A (Builtin.«zip.__next__» ⟨[.ref z],[]⟩) Q E s:=by
 show wpAny _ _ (field (.ref z) 2 >>= _) _ _ _;refine aad (abr hz rfl (x:=.bool false) rfl ?_);show wpAny _ _ (field (.ref z) 3 >>= _) _ _ _;refine aad (abr hz rfl (x:=.ref TI) rfl (aad (wpAny_seqItems hTI rfl ?_)));have ne:(S.map λp=>S8 p.2.2).toArray.isEmpty=false:=by
   cases S
   . exact absurd rfl hS
   . rfl
 simp only[ne];show wpAny _ _ (Builtin.SmallTypes.ownedTupleIsFree (.ref z) >>= _) _ _ _;refine aad ?_;unfold Builtin.SmallTypes.ownedTupleIsFree;refine aad (abr hz rfl (x:=.none) rfl (aak ?_));simp only[if_true];refine aad (wpAny_rule (aad (abr hz rfl (x:=.ref TO) rfl ?_)));refine aad (ac7 hz (by simp) λg1 hz1 s1=>?_);replace hz1:IsZip g1 z TI TO .ellipsis:=hz1;refine aad ?_
 refine z_ (λj s'=>∃ (xs:List Value) (g:Heap),s'={ s with heap:=g }/\xs.length=j/\(∀ (i:Nat) X x,Xs[i]? = some X->xs[i]? = some x->X[k]? = some x)/\IsZip g z TI TO .ellipsis/\g.get? TO=some (er (xs++as.toList.drop j).toArray)/\(∀ (i:Nat) p,S[i]? = some p->i<j->eA g p (k+1))/\g.objs.size=s.heap.objs.size/\∀ c o,c≠z->c≠TO->(∀ (i:Nat) p,S[i]? = some p->i<j->c≠p.2.2)->s.heap.get? c=some o->g.get? c=some o) _ 0 _
   ⟨[],g1,rfl,rfl,λi X x _ e=>by simp at e,hz1,s1.extBut _ _ D.TOz hTO,λi p _ e=>absurd e (acb _),s1.1,λc o c1 _ _ e=>s1.extBut _ _ c1 e⟩ (λi v s' hv hI=>?_) λs' hI=>?_
 . rw[adn] at hI ⊢;obtain⟨xs,g,rfl,V1,Wy,hzg,hO,Uj,hsz,hk⟩:=hI;obtain⟨p,hp,rfl⟩:∃ p,S[i]? = some p/\v=S8 p.2.2:=by
     have:=hv
     simp only[List.toList_toArray,aag,abK] at this;obtain⟨p,e,e2⟩:=this;exact⟨p,e,e2.symm⟩
   have hi:i<S.length:=(List.getElem?_eq_some_iff.mp hp).1;obtain⟨X,hX'⟩:∃ X,Xs[i]? = some X:=⟨Xs[i],aaa (by omega)⟩
   have hm:p∈S:=aaj hp;obtain⟨a1,a2,a3,a4,a5,a6⟩:=D.el p hm;obtain⟨h1,h2⟩:=h i p X hp hX';have inj:∀ (j:Nat) q,S[j]? = some q->j<i->p.2.2≠q.2.2:=λj q hq hj e=>by
     have e1:(S.map (·.2.2))[i]? = some p.2.2:=by rw[aag,hp];rfl
     have e2:(S.map (·.2.2))[j]? = some p.2.2:=by rw[aag,hq,e];rfl
     have:=(List.getElem?_inj (by rw[aac];omega) D.nd).mp (e2.trans e1.symm)
     omega
   refine aad (wpAny_onRaise ?_);show wpAny _ _ (abh (.ref p.2.2) >>= _) _ _ _;refine aad (Qj (p:=p) (h1.to λo e=>hk _ o a1 a2 inj e) (h2.to λo e=>hk _ o a4 a5 (λj q hq _=>a6 q (aaj hq)) e) (λx hx g2 h12 s2=>aak ?_) λhx=>?_)
   . have hO2 := s2.extBut _ _ a2.symm hO;refine aad (wpAny_seqItems hO2 rfl (aad (IK hO2 (by simp [V1];omega) λg3 hO3 s3=>?_)));refine aad (wpAny_letGo (aak ⟨rfl,xs++[x],g3,rfl,by simp [V1],λj Y y hY hy=>?_,s3.extBut _ _ D.TOz.symm (s2.extBut _ _ a1.symm hzg),?_,λj q hq hj=>?_,by rw [s3.1,s2.1];exact hsz,λc o c1 c2 c3 e=>s3.extBut _ _ c2 (s2.extBut _ _ (c3 i p hp (ab5 _)) (hk c o c1 c2 (λj q hq hj=>c3 j q hq (acv hj)) e))⟩))
     . by_cases hj:j<i
       . exact Wy j Y y hY (by rw[aao (by omega)] at hy;exact hy)
       . rw [aaq (by omega)] at hy
         have:j=i:=by
           have:=(List.getElem?_eq_some_iff.mp hy).1
           simp at this;omega
         subst this;simp[V1] at hy;rw[hX'] at hY;cases hY
         cases hy
         exact hx
     . rw[hO3]
       congr 2
       apply Array.toList_inj.mp;have hd:as.toList.drop i=as.toList[i]'(by simp;omega)::as.toList.drop (i+1):=List.drop_eq_getElem_cons (by simp;omega);simp only[Array.toList_setIfInBounds,List.toList_toArray];rw[hd,List.set_append_right _ _ (by omega),V1,Nat.sub_self,List.set_cons_zero,aco];rfl
     . by_cases e:j=i
       . subst e;rw[hp] at hq;cases hq
         exact h12.to λo e=>s3.extBut _ _ a2 e
       . obtain⟨_, b2, _⟩ := D.el q (aaj hq);exact(Uj j q hq (by omega)).to λo e'=>s3.extBut _ _ b2 (s2.extBut _ _ (inj j q hq (by omega)).symm e')
   . obtain ⟨hh, q2⟩ := q2 i X hX' hx;refine ⟨hh,λg4 e s4 he=>?_⟩;obtain ⟨oe,T5,WK⟩:=he;have hz4:IsZip g4 z TI TO .ellipsis:=s4 _ _ a1.symm hzg;have hez:e≠z:=λv=>by subst v;rw [hz4] at T5;cases T5;simp at WK
     exact ac7 hz4 (by simp) λg5 _ s5=>q2 g5 e (λc o c1 c2 c3 v=>s5.extBut _ _ c1 (s4 _ _ (c3 p hm) (hk c o c1 c2 (λj q hq _=>c3 q (aaj hq)) v))) ⟨oe,s5.extBut _ _ hez T5,WK⟩
 . obtain ⟨xs, g5, rfl, V1, Wy, hz5, hO5, Uj, z5, k5⟩ := hI;have V1:xs.length=S.length:=by rw [V1];simp
   have hO5:g5.get? TO=some (er xs.toArray):=by rw[hO5];simp[hl]
   refine aad (wpAny_seqItems hO5 rfl (aad (wpAny_newTuple ?_ (by show xs.length<=aal;omega))));have zlt:z<g5.objs.size:=aap hz5;show wpAny _ _ (Builtin.SmallTypes.ownedTupleHandOut (.ref z) (.ref g5.objs.size) >>= _) _ _ _;refine aad ?_;unfold Builtin.SmallTypes.ownedTupleHandOut;have hz6:IsZip (g5.push (er xs.toArray)) z TI TO .ellipsis:=aaf _ hz5;refine aad (ac7 hz6 (by simp) λg7 hz7 s7=>?_);replace hz7:IsZip g7 z TI TO (rawInt g5.objs.size):=hz7;refine ac7 hz7 (by simp) λg8 hz8 s8=>?_;replace hz8:IsZip g8 z TI TO (rawInt g5.objs.size):=hz8;have up:∀ c o,c≠z->g5.get? c=some o->g8.get? c=some o:=λc o c1 e=>s8.extBut _ _ c1 (s7.extBut _ _ c1 (aaf _ e));have hT8:g8.get? g5.objs.size=some (er xs.toArray):=s8.extBut _ _ (abP zlt) (s7.extBut _ _ (abP zlt) (aau _ rfl));rw[z5] at hz8 hT8;refine aak ?_;show Q (.done (.ret (.ref g5.objs.size))) _;rw[z5];refine q1 xs V1 Wy g8 hz8 (up _ _ D.TOz hO5) (λi p hp=>(Uj i p hp ?_).to λo e=>up _ o (D.el p (aaj hp)).1 e) hT8 λc o c1 c2 c3 e=>up c o c1 (k5 c o c1 c2 (λj q hq _=>c3 q (aaj hq)) e)
   have:=(List.getElem?_eq_some_iff.mp hp).1
   simpa using this
variable {α : Type}
theorem zh {M:Model}{A:Around}{E:Value->Shared->Prop}{f : α->β->Sem (ForInStep β)}{Q : β->Shared->Prop}(I:Nat->β->Shared->Prop):∀ (l:List α) (j:Nat) (b : β) (s:Shared),I j b s ->
   (∀ (i:Nat) v b s,l[i]? = some v->I (j+i) b s->wpAny M A (f v b) (λr s'=>∃ b',r=.yield b'/\I (j+i+1) b' s') E s)->(∀ b s,I (j+l.length) b s->Q b s)->wpAny M A (forIn l b f) Q E s
 | [],j,b,s,h,_,q=>by simp only[List.forIn_nil];exact aak (q b s h)
 | v :: l, j, b, s, h, st, q => by
   simp only[List.forIn_cons];refine aad (aaH (st 0 v b s rfl h) (λr s' e=>?_) (λ_ _ x=>x));obtain⟨b',rfl,h'⟩:=e;refine zh I l (j+1) b' s' h' (λi v b s e hi=>?_) λb s h=>q b s (by rw[aaA,Nat.add_comm l.length,<- Nat.add_assoc];exact h);have e1:j+1+i=j+(i+1):=by omega
   rw[e1] at hi ⊢;exact st (i+1) v b s e hi
def dr (n:Nat)(ts:List (Bool×Addr)):List Src:=ts.zipIdx.map λp=>(p.1.1,p.1.2,n+p.2)
variable {ts:List (Bool×Addr)} {n:Nat}
theorem qm {i:Nat}{q:Src}:(dr n ts)[i]? = some q ↔ ∃ p,ts[i]? = some p/\q=(p.1,p.2,n+i):=by
 simp only[dr,aag,List.getElem?_zipIdx,Option.map_map,abK,adn];exact⟨λzq=>nW zq λp a b=>⟨p,a,b.symm⟩,λzq=>nW zq λp a b=>⟨p,a,b.symm⟩⟩
theorem iq:(dr n ts).length=ts.length:=by simp[dr]
theorem Ak:(dr n ts).map (·.2.2)=List.range' n ts.length:=by
 apply List.ext_getElem?;intro i;rw[aag];by_cases h:i<ts.length
 . rw[qm.mpr ⟨ts[i],aaa h,rfl⟩,List.getElem?_range' h]
   simp
 . rw[acy (by rw[iq]; omega), acy (by rw[List.length_range']; omega)];rfl
theorem Qa {Q:List Value->Shared->Prop}(h:∀ p∈ts,∃ X,iA s.heap (p.1,p.2,0) X)
   (q:∀ h',h'.objs.size=s.heap.objs.size+ts.length->(∀ c o,s.heap.get? c=some o->h'.get? c=some o)->(∀ (i:Nat) p,(dr s.heap.objs.size ts)[i]? = some p->eA h' p 0)->Q ((dr s.heap.objs.size ts).map λp=>.ref p.2.2) { s with heap:=h' }) :
   wpAny (model prog w) A (Builtin.SmallTypes.iterAll (ts.map λp=>.ref p.2)) Q E s:=by
 unfold Builtin.SmallTypes.iterAll
 refine aad (zh (λj b s'=>∃ g,s'={ s with heap:=g }/\b.toList=(List.range' s.heap.objs.size j).map .ref/\g.objs.size=s.heap.objs.size+j/\(∀ c o,s.heap.get? c=some o->g.get? c=some o)/\∀ (i:Nat) p,(dr s.heap.objs.size ts)[i]? = some p->i<j->eA g p 0) _ 0 _ _
   ⟨s.heap,rfl,rfl,rfl,λ_ _ e=>e,λi p _ e=>absurd e (acb _)⟩ (λi v b s' hv hI=>?_) λb s' hI=>?_)
 . rw[adn] at hI ⊢;obtain⟨g,rfl,hb,hz,hk,Uj⟩:=hI;obtain⟨p,hp,rfl⟩:∃ p,ts[i]? = some p/\v=S8 p.2:=by
     rw[aag,abK] at hv;obtain⟨p,e,e2⟩:=hv;exact⟨p,e,e2.symm⟩
   obtain⟨X,hX⟩:=h p (aaj hp);have hX':=hX.to λo e=>hk _ o e;have S0:∀ o,eA (g.push o) (p.1,p.2,g.objs.size) 0->∃ b',(acB (b.push (S8 g.objs.size)):ForInStep (Array Value))=.yield b'/\∃ g',({ s with heap:=g.push o }:Shared)={ s with heap:=g' }/\b'.toList=(List.range' s.heap.objs.size (i+1)).map .ref/\g'.objs.size=s.heap.objs.size+(i+1)/\(∀ c o,s.heap.get? c=some o->g'.get? c=some o)/\∀ (j:Nat) q,(dr s.heap.objs.size ts)[j]? = some q->j<i+1->eA g' q 0:=λo ho=>by
     refine⟨_,rfl,_,rfl,?_,by rw[abY,hz];omega,λc o e=>aaf _ (hk c o e),λj q hq hj=>?_⟩
     . rw[Array.toList_push,hb,List.range'_concat,aaF,hz];simp
     . by_cases e:j=i
       . subst e;obtain⟨p',e1,rfl⟩:=qm.mp hq;rw[hp] at e1;cases e1
         rw[<- hz];exact ho
       . exact(Uj j q hq (by omega)).to λo e=>aaf _ e
   obtain⟨bb,t⟩:=p;cases bb
   . exact aad (aa9 (wpAny_pyIter_tuple hX' (aak (S0 _ ⟨_,aau _ rfl,rfl,rfl⟩))))
   . exact aad (aa9 (abI hX' (aak (S0 _ ⟨_,aau _ rfl,rfl,rfl⟩))))
 . obtain⟨g, rfl, hb, hz, hk, Uj⟩ := hI;simp only[adn,aac] at hb hz Uj;refine aak ?_;rw[hb,<- Ak,aba];exact q g hz hk λi p hp=>Uj i p hp (by have:=(List.getElem?_eq_some_iff.mp hp).1;rw[iq] at this;exact this)
abbrev JK (h':Heap)(S:List Src):Heap:=h'.push (er (S.map λp=>S8 p.2.2).toArray)
abbrev Kn (h':Heap)(S:List Src):Heap:=(JK h' S).push (er ((S.map λp=>S8 p.2.2).map λ_=>abj).toArray)
abbrev G9 (h':Heap)(S:List Src):Heap:=(Kn h' S).push { cls:=.type "zip",data:=.fields #[.none,.bool false,.bool false,.ref h'.objs.size,.ref (JK h' S).objs.size] }
theorem IF (ts:List (Bool×Addr)):Meets (Builtin.«zip.__new__» ⟨.type "zip" :: ts.map (λp=>.ref p.2),[]⟩) (λ_ R s=>(∀ p∈ts,∃ X,iA s.heap (p.1,p.2,0) X)/\ts.length<=aal /\
   ∀ h',h'.objs.size=s.heap.objs.size+ts.length->(∀ c o,s.heap.get? c=some o->h'.get? c=some o)->(∀ (i:Nat) p,(dr s.heap.objs.size ts)[i]? = some p->eA h' p 0)->R (.ok (.ret (.ref (Kn h' (dr s.heap.objs.size ts)).objs.size))) { s with heap:=G9 h' (dr s.heap.objs.size ts) }) :=
 .of_wp λprog w A R s h=>by
   obtain⟨hp,g,d,tk,os⟩:=s;obtain⟨h1,hs,h⟩:=h;have hsub:=sub_zip;have UK:(dr (Shared.heap ⟨hp,g,d,tk,os⟩).objs.size ts).length<=aal:=by rw[iq];exact hs
   wp_walk using Qa h1
   intro h' hz hk Uj;refine aad (wpAny_newTuple ?_ (by rw[aac];exact UK));refine aad (wpAny_newTuple ?_ (by rw[aac,aac];exact UK))
   wp_walk
   exact⟨_,rfl,h h' hz hk Uj⟩
theorem Jn (h:∀ p∈ts,∃ X,iA s.heap (p.1,p.2,0) X)(hs:ts.length<=aal)(c1:checkTypeCall "zip" ⟨ts.map (λp=>.ref p.2),[]⟩=pure ())(c2:checkBuiltinCall "zip.__new__" ⟨.type "zip" :: ts.map (λp=>.ref p.2),[]⟩=pure ())
   (c3:∀ obj,argsOk "object.__init__" ⟨obj::ts.map (λp=>.ref p.2),[]⟩)
   (q:∀ h' m,m=s.heap.objs.size+ts.length->IsZip h' (m+2) m (m+1) .none->h'.get? m=some (er ((dr s.heap.objs.size ts).map λp=>S8 p.2.2).toArray)->(∃ as:Array Value,as.size=ts.length/\h'.get? (m+1)=some (er as))->(∀ (i:Nat) p,(dr s.heap.objs.size ts)[i]? = some p->eA h' p 0) ->
     (∀ c o,s.heap.get? c=some o->h'.get? c=some o)->Q (.ref (m+2)) { s with heap:=h' }):wpAny (model prog w) A (call (.type "zip") (ts.map λp=>.ref p.2)) Q E s:=by
 refine callType_new F.called_zip (by decide) c1 c2 c3 F.entry_zip_new (IF ts) ⟨h,hs,λh' hz hk Uj=>?_⟩;have z1:(JK h' (dr s.heap.objs.size ts)).objs.size=h'.objs.size+1:=abY ..;have z2:(Kn h' (dr s.heap.objs.size ts)).objs.size=h'.objs.size+2:=by rw[abY,z1]
 have e3:(G9 h' (dr s.heap.objs.size ts)).get? (Kn h' (dr s.heap.objs.size ts)).objs.size=some _:=aau _ rfl;have e2:(G9 h' (dr s.heap.objs.size ts)).get? (JK h' (dr s.heap.objs.size ts)).objs.size=some _:=aaf _ (aau _ rfl);have up:∀ c o,h'.get? c=some o->(G9 h' (dr s.heap.objs.size ts)).get? c=some o:=λc o e=>aaf _ (aaf _ (aaf _ e));have e1:(G9 h' (dr s.heap.objs.size ts)).get? h'.objs.size=some _:=aaf _ (aaf _ (aau _ rfl));rw[z1,z2] at e3;rw[z1] at e2;show _/\_;rw[z2];exact⟨⟨_,e3,rfl⟩,q _ _ hz e3 e1 ⟨_,by simp[iq],e2⟩ (λi p hp=>(Uj i p hp).to λo e=>up _ _ e) λc o x=>up c o (hk c o x)⟩
theorem Ay {z TI TO:Addr}{S:List Src}{Xs:List (Array Value)}{as:Array Value}{k:Nat}{Q:Option Value->Shared->Prop}(D:N6 z TI TO S)(hz:IsZip s.heap z TI TO .none)(hTI:s.heap.get? TI=some (er (S.map λp=>S8 p.2.2).toArray))(hTO:s.heap.get? TO=some (er as))(hl:as.size=S.length)(hS:S≠[])(hX:Xs.length=S.length)(hs:S.length<=aal)
   (h:∀ (i:Nat) p X,S[i]? = some p->Xs[i]? = some X->eA s.heap p k/\iA s.heap p X)
   (q1:∀ xs:List Value,xs.length=S.length->(∀ (i:Nat) X x,Xs[i]? = some X->xs[i]? = some x->X[k]? = some x)->∀ h',IsZip h' z TI TO (rawInt s.heap.objs.size)->h'.get? TO=some (er xs.toArray)->(∀ (i:Nat) p,S[i]? = some p->eA h' p (k+1))->h'.get? s.heap.objs.size=some (er xs.toArray) ->
     (∀ c o,c≠z->c≠TO->(∀ p∈S,c≠p.2.2)->s.heap.get? c=some o->h'.get? c=some o)->Q (some (.ref s.heap.objs.size)) { s with heap:=h' })
   (q2:∀ (i:Nat) X,Xs[i]? = some X->X[k]? = none->A.handled=none/\∀ h',(∀ c o,c≠z->c≠TO->(∀ p∈S,c≠p.2.2)->s.heap.get? c=some o->h'.get? c=some o)->Q none { s with heap:=h' }) :
   wpAny (model prog w) A (pyNext (.ref z)) Q E s:=by
 have hT:s.TypeIs (.ref z) "zip":=⟨_,hz,rfl⟩;unfold pyNext;refine aad (wpAny_attempt (acw (name:=aae "__next__") hT F.slot_zip_next (acK F.slot_zip_next hT F.entry_zip_next ?_ (F.args_zip_next_1 _))));refine Q1 D hz hTI hTO hl hS hX hs h (λxs y1 y2 h' a1 a2 a3 a4 a5=>⟨_,rfl,aak (q1 xs y1 y2 h' a1 a2 a3 a4 a5)⟩) λi X e1 he=>⟨(q2 i X e1 he).1,λh' e kk ho=>?_⟩;obtain⟨o,ho,hc⟩:=ho;exact aad (wpAny_isInstance (T:="StopIteration") (b:=true) ⟨o,ho,hc⟩ isSubtype_stop (aak ((q2 i X e1 he).2 _ kk)))
end
def vh (K:W.Frag)(H:Hp)(p:Bool×Addr)(xs:List V):Prop:=match p with | (true,a)=>aq K H a xs | (false,a)=>aJ K H a xs
variable {n:Nat}
theorem vj (I:Inv X gV Z H s)(h:vh X.K H p xs):∃ its,aI xs its/\iA s.heap (p.1,p.2,n) its.toArray/\p.2<s.heap.objs.size:=by
 obtain⟨b,a⟩:=p;cases b
 . obtain⟨its, rv, p1, _⟩ := I.tuple h;exact⟨its,rv,p1,p1.lt⟩
 . obtain⟨its, rv, p1, _⟩ := I.list h;exact⟨its,rv,p1.isList,p1.lt⟩
theorem Dq (I:Inv X gV Z H s)(h:vh X.K H p xs)(h':vh X.K H p ys):xs=ys:=by
 obtain⟨b,a⟩:=p;cases b
 . exact I.yf h h'
 . exact I.tu h h'
theorem eA.obj {h:Heap}{p:Src}{k:Nat}(q:eA h p k):∃ o,h.get? p.2.2=some o/\∀ v,o.data≠.cell v:=by
 obtain⟨b,t,i⟩:=p;cases b
 . obtain⟨o, e, _, d⟩ := q;exact⟨o,e,λv e=>by rw[d] at e;cases e⟩
 . obtain⟨o, e, _, d⟩ := q;exact⟨o,e,λv e=>by rw[d] at e;cases e⟩
variable {α : Type}
theorem xg {p:Nat->α->Prop}:∀ n,(∀ j,j<n->∃ x,p j x)->∃ xs:List α,xs.length=n/\∀ (j:Nat) x,xs[j]? = some x->p j x
 | 0,_=>⟨[],rfl,λj x e=>by simp at e⟩
 | n + 1, h => by
   obtain⟨xs,hl,hx⟩:=xg n λj hj=>h j (acv hj);obtain⟨x,hp⟩:=h n (ab5 n);refine⟨xs++[x],by simp[hl],λj y e=>?_⟩;by_cases hj:j<n
   . rw[aao (by omega)] at e;exact hx j y e
   . have hj2 := (List.getElem?_eq_some_iff.mp e).1;simp at hj2;obtain rfl:j=n:=by omega
     rw[aaq (by omega),hl,Nat.sub_self] at e;cases e
     exact hp
def J3 (K:W.Frag)(ts:List (Bool×Addr)):It :=
 ⟨λi H=>∃ vs:List V,vs.length=ts.length/\∀ (j:Nat) p v,ts[j]? = some p->vs[j]? = some v->∃ xs,vh K H p xs/\xs[i]? = some v,
  λi H v H'=>∃ T vs,v=.ref T/\H T=none/\H'=upd H T (.tup vs)/\vs.length=ts.length/\∀ (j:Nat) p v xs,ts[j]? = some p->vs[j]? = some v->vh K H p xs->xs[i]? = some v,
  λi H=>(∀ p∈ts,∃ xs,vh K H p xs)/\∃ p∈ts,∃ xs,vh K H p xs/\xs.length<=i⟩
theorem aI.of (hl:us.length=vs.length)(h:∀ (j:Nat) v u,vs[j]? = some v->us[j]? = some u->RelV v u):aI vs us:=by
 induction vs generalizing us with
 | nil=>cases us with
   | nil=>exact .nil
   | cons _ _=>cases hl
 | cons v vs ih=>cases us with
   | nil=>cases hl
   | cons u us=>exact .cons (h 0 v u rfl rfl) (ih (by simpa using hl) λj a b e1 e2=>h (j+1) a b e1 e2)
variable {ts:List (Bool×Addr)}
set_option maxHeartbeats 4000000 in
theorem Qs {P:Program}{w:World}{K:W.Frag}{es:List Expr}{n:Nat}{pos:Pos}{z TI TO:Addr}{S:List Src}(D:N6 z TI TO S)(hS:∀ (j:Nat) q,S[j]? = some q->ts[j]? = some (q.1,q.2.1))(hl:S.length=ts.length)(ne:ts≠[])(hs:ts.length<=aal) :
   Turn P w K (.Tuple es n pos) (J3 K ts) (z::TI::TO::S.map (·.2.2)) z (λi h=>IsZip h z TI TO .none/\h.get? TI=some (er (S.map λp=>S8 p.2.2).toArray)/\(∃ as:Array Value,as.size=S.length/\h.get? TO=some (er as))/\∀ (j:Nat) p,S[j]? = some p->eA h p i):=by
 have nS:S≠[]:=λe=>ne (List.length_eq_zero_iff.mp (by rw[<- hl,e];rfl));have mm:∀ {c:Addr},c∈z::TI::TO::S.map (·.2.2)->c=z∨c=TI∨c=TO∨∃ (j:Nat) (p:Src),S[j]? = some p/\c=p.2.2:=λ{c} hc=>by
   simp only[aaQ,List.mem_map] at hc;rcases hc with e | e | e | ⟨p,hp,e⟩
   . exact .inl e
   . exact .inr (.inl e)
   . exact .inr (.inr (.inl e))
   . obtain⟨j, hj⟩ := List.mem_iff_getElem?.mp hp;exact .inr (.inr (.inr ⟨j,p,hj,e.symm⟩))
 have mi:∀ {j:Nat} {p:Src},S[j]? = some p->p.2.2∈z::TI::TO::S.map (·.2.2):=λ{j p} hp=>by
   simp only[aaQ,List.mem_map];exact .inr (.inr (.inr ⟨p,aaj hp,rfl⟩))
 have mn:∀ {c:Addr},c ∉ z::TI::TO::S.map (·.2.2)->c≠z/\c≠TO/\∀ p∈S,c≠p.2.2:=λ{c} hc=>by
   simp only[aaQ,List.mem_map,not_or,not_exists,not_and] at hc;exact⟨hc.1,hc.2.2.1,λp hp e=>hc.2.2.2 p hp e.symm⟩
 refine⟨by simp,λi h st c hc=>?_,λi h h' st k=>?_,?_,?_,λ_ _ _ _ _ st h=>wpAny_pyIter_zip st.1 h⟩
 . obtain⟨hz, hI, ⟨as, _, hO⟩, Uj⟩ := st;rcases mm hc with rfl | rfl | rfl | ⟨j,p,hp,rfl⟩
   . exact⟨_,hz,λv e=>by cases e⟩
   . exact⟨_,hI,λv e=>by cases e⟩
   . exact⟨_,hO,λv e=>by cases e⟩
   . exact(Uj j p hp).obj
 . obtain⟨hz, hI, ⟨as, hl, hO⟩, Uj⟩ := st;exact⟨k z (by simp) _ hz,k TI (by simp) _ hI,⟨as,hl,k TO (by simp) _ hO⟩,λj p hp=>(Uj j p hp).to λo e=>k _ (mi hp) o e⟩
 . intro X hP hw hK hc i gV s Z H E I hf st hg;subst hP hw hK;obtain⟨hz,hI,⟨as,hal,hO⟩,Uj⟩:=st;obtain⟨vs,hvl,hv⟩:=hg;obtain⟨Ys,hYl,hY⟩:=xg (p:=λj (Y:Array Value×Value)=>∀ p v,S[j]? = some p->vs[j]? = some v->iA s.heap p Y.1/\Y.1[i]? = some Y.2/\RelV v Y.2) S.length λj hj=>by
     obtain⟨xs,hx,hxi⟩:=hv j _ _ (hS j _ (aaa hj)) (aaa (by omega));obtain⟨its,rv,p1,_⟩:=vj (n:=S[j].2.2) I hx;obtain⟨u,hu,ru⟩:=rv.get hxi;refine⟨(its.toArray,u),λp v e1 e2=>?_⟩;rw[aaa hj] at e1;rw[aaa (by omega)] at e2;cases e1
     cases e2
     exact⟨p1,by simpa using hu,ru⟩
   have at3:∀ (j:Nat) p Y,S[j]? = some p->Ys[j]? = some Y->∃ v,vs[j]? = some v/\iA s.heap p Y.1/\Y.1[i]? = some Y.2/\RelV v Y.2:=λj p Y hp hy=>by
     have hj:=(List.getElem?_eq_some_iff.mp hp).1;exact⟨vs[j],aaa (by omega),hY j Y hy p _ hp (aaa (by omega))⟩
   refine Ay (k:=i) (Xs:=Ys.map (·.1)) D hz hI hO hal nS (by rw[aac,hYl]) (by omega) (λj p X hp hX=>?_) (λxs V1 Wy h' z1 z2 z3 z5 kk=>?_) λj X hX he=>?_
   . rw[aag,abK] at hX;obtain⟨Y,hy,rfl⟩:=hX;obtain⟨v,_,a,_⟩:=at3 j p Y hp hy;exact⟨Uj j p hp,a⟩
   . have Tz : aI vs xs := aI.of (by omega) λj v u e1 e2 => by
       have hj:=(List.getElem?_eq_some_iff.mp e1).1;obtain⟨v',WM,_,b,c⟩:=at3 j S[j] Ys[j] (aaa (by omega)) (aaa (by omega));rw[e1] at WM;cases WM
       have:=Wy j Ys[j].1 u (by rw[aag,aaa (by omega)];rfl) e2
       rw[b] at this;cases this
       exact c
     refine⟨_,rfl,wpAny_letOwnedTupleGo_zip z1 λh2' hz2 s2=>?_⟩;have T0:H s.heap.objs.size=none:=I.az.fresh (aah _);have tz:s.heap.objs.size≠z:=abP (aap hz);have hI2:=s2.extBut _ _ D.TIz (kk _ _ D.TIz D.TITO (λp hp=>(D.el p hp).2.2.1) hI);have hO2:=s2.extBut _ _ D.TOz z2;have hit2:∀ (j:Nat) p,S[j]? = some p->eA h2' p (i+1):=λj p hp=>(z3 j p hp).to λo e=>s2.extBut _ _ (D.el p (aaj hp)).1 e;have J:Inv X gV Z (upd H s.heap.objs.size (.tup vs)) { s with heap:=h2' }:=by
       refine xF (ch:=z::TI::TO::S.map (·.2.2)) I hf (aah _) (λc o hc e=>?_) (λc hc=>?_) ⟨by omega,xs,Tz,⟨_,s2.extBut _ _ tz z5,rfl,_,rfl⟩⟩
       . obtain⟨c1, c2, c3⟩ := mn hc;exact s2.extBut _ _ c1 (kk c o c1 c2 c3 e)
       . rcases mm hc with rfl | rfl | rfl | ⟨j,p,hp,rfl⟩
         . exact⟨_,hz2⟩
         . exact⟨_,hI2⟩
         . exact⟨_,hO2⟩
         . obtain⟨o, e, _⟩ := (hit2 j p hp).obj;exact⟨o,e⟩
     refine⟨.ref s.heap.objs.size,_,J,rfl,⟨_,vs,rfl,T0,rfl,hvl,λj p v ys e1 e2 e3=>?_⟩,⟨hz2,hI2,⟨_,by simpa using V1,hO2⟩,hit2⟩,λc hc=>?_⟩
     . obtain⟨ys', q1, q2⟩ := hv j p v e1 e2;rw[Dq I e3 q1];exact q2
     . have SV : c < s.heap.objs.size := by
         rcases mm hc with rfl | rfl | rfl | ⟨j,p,hp,rfl⟩
         . exact aap hz
         . exact aap hI
         . exact aap hO
         . obtain⟨o, e, _⟩ := (Uj j p hp).obj;exact aap e
       rw[ai (aaC SV)];exact(hf c hc).1
   . exfalso
     rw[aag,abK] at hX;obtain⟨Y,hy,rfl⟩:=hX;have hj:=(List.getElem?_eq_some_iff.mp hy).1;obtain⟨v,_,_,b,_⟩:=at3 j S[j] Y (aaa (by omega)) hy;rw[b] at he;cases he
 . intro X hP hw hK hc i gV s Z H E I hf st hg;subst hP hw hK;obtain⟨hz,hI,⟨as,hal,hO⟩,Uj⟩:=st;obtain⟨hall,p0,Tr,xs0,hq0,hl0⟩:=hg;obtain⟨Ys,hYl,hY⟩:=xg (p:=λj (Y:Array Value)=>∀ p,S[j]? = some p->iA s.heap p Y/\(∀ xs,vh X.K H (p.1,p.2.1) xs->Y.size=xs.length)) S.length λj hj=>by
     obtain⟨xs,hx⟩:=hall _ (aaj (hS j _ (aaa hj)));obtain⟨its,rv,p1,_⟩:=vj (n:=S[j].2.2) I hx;refine⟨its.toArray,λp e1=>?_⟩;rw[aaa hj] at e1;cases e1
     exact⟨p1,λys hy=>by rw[Dq I hy hx];simpa using rv.length.symm⟩
   refine Ay (k:=i) (Xs:=Ys) D hz hI hO hal nS hYl (by omega) (λj p X hp hX=>⟨Uj j p hp,(hY j X hX p hp).1⟩) (λxs V1 Wy h' z1 z2 z3 z5 kk=>?_) λj X hX he=>⟨I.ok.hd hc,λh' kk=>⟨rfl,?_⟩⟩
   . exfalso
     obtain⟨j,hj⟩:=List.mem_iff_getElem?.mp Tr;have hj':=(List.getElem?_eq_some_iff.mp hj).1;have e1:=hS j _ (aaa (show j<S.length by omega));rw[hj] at e1;cases e1
     have e2:=(hY j _ (aaa (show j<Ys.length by omega)) _ (aaa (by omega))).2 _ hq0;have e3:=Wy j _ _ (aaa (show j<Ys.length by omega)) (aaa (show j<xs.length by omega))
     have:=(Array.getElem?_eq_some_iff.mp e3).1
     omega
   . have W3 : ∀ c o, c ∉ z :: TI :: TO :: S.map (·.2.2) -> s.heap.get? c = some o -> h'.get? c = some o := λc o hc e => kk c o (mn hc).1 (mn hc).2.1 (mn hc).2.2 e;refine I.vz (s':={ s with heap:=h' }) (ch:=z::TI::TO::S.map (·.2.2)) rfl ⟨λb o e _ _ hc=>W3 b o hc e,λb o e _ _ hc=>⟨o.slots,W3 b o hc e⟩,λb o e n _=>n,λb o e hc=>⟨o,W3 b o hc e⟩,λ_ _ e=>e,λ_ _ _ e=>e,λb ps e=>⟨#[],by rw [e];simp⟩⟩ (λb u e=>?_) I.bare ?_
     . have nc : ∀ b u, H b = some u -> b ∉ z :: TI :: TO :: S.map (·.2.2) := λb u e hb => by rw [(hf b hb).1] at e; cases e
       refine(I.az b u e).iT (λc v hc q=>W3 c v ?_ q) (λ_ q=>q) λ_ _ q=>q;rcases hc with q | q
       . rw[q];exact nc b u e
       . exact nc c _ q
     . intro b hb;obtain⟨f0,f1,f2,f3,f4,f5⟩:=hf b hb;exact⟨f3,f1,f4,f5⟩
theorem GK {P:Program}{w:World}{K:W.Frag}{tg:Expr}{J J':It}{fp:List Addr}{it:Addr}{tn:Nat->Heap->Prop}(T:Turn P w K tg J fp it tn)(h1:∀ i H,J'.go i H->J.go i H)(h2:∀ i H v H',J.rT i H v H'->J'.rT i H v H')(h3:∀ i H,J'.stop i H->J.stop i H):Turn P w K tg J' fp it tn :=
 ⟨T.mem,T.obj,T.keep,λX a b c d i gV s Z H E I hf st hg=>aQ (T.item X a b c d i gV s Z H E I hf st (h1 i H hg)) λr s1 zq=>nW zq λu e q=>⟨u,e,aQ q λ_ s2 ⟨x,H',I',rv,y,r⟩=>⟨x,H',I',rv,h2 _ _ _ _ y,r⟩⟩,λX a b c d i gV s Z H E I hf st hg=>T.done X a b c d i gV s Z H E I hf st (h3 i H hg),T.self⟩
theorem xG:∀ {ts:List (Bool×Addr)} {us:List Value},aI (ts.map λp=>V.ref p.2) us->us=ts.map λp=>.ref p.2
 | [],_,h=>by cases h;rfl
 | a :: ts, _, h => by
   cases h with
   | cons r rr =>
     cases r
     rw[xG rr];rfl
variable {pos:Pos}
theorem qz {es:List Expr}{n:Nat}{TH:Pos}{m:Expr}{ms:List Expr}{W:List V->Hp->(It->Hp->Prop)->Prop}{p:Pos}(hg:Gl X "zip")(hm:X.mg "zip" = none)(ha:PA X (m::ms) ta)(hs:aai (m::ms) X.env=(false,eval m X.env)::aai ms X.env)(SS:(backTo pos (aai ms X.env)).any (·.1)=false)
   (hw:∀ vs H1 R,W vs H1 R->∃ (ts:List (Bool×Addr)) (J:It),vs=ts.map (λp=>V.ref p.2)/\ts≠[]/\ts.length<=aal/\(∀ p∈ts,∃ xs,vh X.K H1 p xs)/\checkTypeCall "zip" ⟨ts.map (λp=>.ref p.2),[]⟩=pure ()/\checkBuiltinCall "zip.__new__" ⟨.type "zip" :: ts.map (λp=>.ref p.2),[]⟩=pure ()/\(∀ obj,argsOk "object.__init__" ⟨obj::ts.map (λp=>.ref p.2),[]⟩) /\
     (∀ i H,J.go i H->(J3 X.K ts).go i H)/\(∀ i H v H',(J3 X.K ts).rT i H v H'->J.rT i H v H')/\(∀ i H,J.stop i H->(J3 X.K ts).stop i H)/\R J H1) :
   PI X (.Tuple es n TH) (.Call (.Name "zip" p) (m::ms) [] pos) (λZ H R=>ta Z H λvs H1=>W vs H1 R):=by
 intro gV s Z H R I h;refine Call_ (l7 I hg hm PK (abG (aQ (ha pos gV s Z H _ I h) λus s1 zq=>bN zq λvs H1 I1 r1 q1=>?_) hs SS));obtain⟨ts,J,rfl,ne,hl,hsq,c1,c2,c3,j1,j2,j3,q⟩:=hw _ _ _ q1;obtain rfl:=xG r1;have lt:∀ p∈ts,p.2<s1.heap.objs.size:=λp hp=>by
   obtain⟨xs,hx⟩:=hsq p hp;obtain⟨_,_,_,e⟩:=vj (n:=0) I1 hx;exact e
 refine Jn (λp hp=>?_) hl c1 c2 c3 λh' m hm' z1 z2 z3 z4 kk=>?_
 . obtain⟨xs, hx⟩ := hsq p hp;obtain⟨_,_,e,_⟩:=vj (n:=0) I1 hx;exact⟨_,e⟩
 . have el : ∀ q ∈ dr s1.heap.objs.size ts, @LT.lt Nat _ q.2.1 s1.heap.objs.size /\ @LE.le Nat _ s1.heap.objs.size q.2.2 /\ @LT.lt Nat _ q.2.2 m := λq hq => by
     obtain⟨j,hj⟩:=List.mem_iff_getElem?.mp hq;obtain⟨p,e,rfl⟩:=qm.mp hj
     have:=(List.getElem?_eq_some_iff.mp e).1
     exact⟨lt p (aaj e),ab6 _ _,by show s1.heap.objs.size+j<m;omega⟩
   have T := Qs (P := X.prog) (w := X.w) (K := X.K) (es := es) (n := n) (pos := TH) (z := m + 2) (TI := m) (TO := m + 1) (S := dr s1.heap.objs.size ts) (ts := ts)
     ⟨aaC (by omega),aaC (by omega),aaC (by omega),λq hq=>?_,by rw[Ak];exact List.nodup_range'⟩ (λj q hj=>?_) iq ne hl
   . refine wpAny_pyIter_zip z1 ⟨_,_,_,J,H1,rfl,I1.kept (t':=s1.toks) kk,GK T j1 j2 j3,⟨z1,z2,?_,z4⟩,λc hc=>?_,q⟩
     . obtain⟨as, e1, e2⟩ := z3;exact⟨as,by rw[iq];exact e1,e2⟩
     . have hge : s1.heap.objs.size <= c := by
         simp only[aaQ,List.mem_map] at hc;rcases hc with e | e | e | ⟨q,hq,e⟩
         . rw[e];exact aaJ (ab6 _ _) (aaJ (acz hm'.symm) (ab6 _ _))
         . rw[e];exact aaJ (ab6 _ _) (acz hm'.symm)
         . rw[e];exact aaJ (ab6 _ _) (aaJ (acz hm'.symm) (ab6 _ _))
         . rw[<- e];exact(el q hq).2.1
       exact I1.tO hge (I1.az.fresh hge)
   . obtain⟨a, b, c⟩ := el q hq;exact⟨aaC (by omega),aaC (by omega),abP (by omega),aaC (by omega),aaC (by omega),λq' hq'=>aaC (aay a (el q' hq').2.1)⟩
   . obtain⟨p, e, rfl⟩ := qm.mp hj;exact e
theorem Sh (y a b c:Value):argsOk "object.__init__" ⟨[y,a,b,c],[]⟩:=by unfold argsOk;rw[signature?_of (id:="object.__init__") (n:=['_','_','t','i','n','i','_','_']) (o:=['t','c','e','j','b','o']) (by kernel_rfl) PySem.F.owner_object];kernel_rfl
theorem SE (y a b c d e:Value):argsOk "object.__init__" ⟨[y,a,b,c,d,e],[]⟩:=by unfold argsOk;rw[signature?_of (id:="object.__init__") (n:=['_','_','t','i','n','i','_','_']) (o:=['t','c','e','j','b','o']) (by kernel_rfl) PySem.F.owner_object];kernel_rfl
theorem mW {P : α->β->Prop}{T:List β}(j:Nat)(p : α)(v : β)(h:([]:List α)[j]? = some p)(_:T[j]? = some v):P p v:=by cases h
theorem cZ {P : α->β->Prop}{a : α}{x : β}{S:List α}{T:List β}(h0:P a x)(h:∀ (j:Nat) p v,S[j]? = some p->T[j]? = some v->P p v):∀ (j:Nat) p v,(a::S)[j]? = some p->(x::T)[j]? = some v->P p v
 | 0,_,_,h1,h2=>by rw[<- aaw h1,<- aaw h2];exact h0
 | j+1,p,v,h1,h2=>h j p v h1 h2
variable {vs:List α}
theorem FT (h:vs.length=n+1):∃ a r,vs=a::r/\r.length=n:=by
 cases vs with
 | nil=>cases h
 | cons a r=>exact⟨a,r,rfl,ac5 h⟩
theorem R7 (h:vs.length=0):vs=[]:=List.eq_nil_of_length_eq_zero h
theorem Od (h:vs.length=2):∃ a b,vs=[a,b]:=by
 obtain⟨a,r,rfl,h1⟩:=FT h;obtain⟨b,t,rfl,h2⟩:=FT h1;exact⟨a,b,by rw[R7 h2]⟩
theorem QG (h:vs.length=3):∃ a b c,vs=[a,b,c]:=by
 obtain⟨a,r,rfl,h1⟩:=FT h;obtain⟨b,c,rfl⟩:=Od h1;exact⟨a,b,c,rfl⟩
theorem Sy (h:vs.length=5):∃ a b c d e,vs=[a,b,c,d,e]:=by
 obtain⟨a,r,rfl,h1⟩:=FT h;obtain⟨b,t,rfl,h2⟩:=FT h1;obtain⟨c,d,e,rfl⟩:=QG h2;exact⟨a,b,c,d,e,rfl⟩
variable {m0 m1:Expr}
theorem N7 {K:W.Frag}{es:List Expr}{n:Nat}{TH:Pos}{p pos:Pos}(hK:X.K=K)(hg:Gl X "zip")(hm:X.mg "zip" = none)(ha:PA X [m0,m1] ta)(hs:aai [m0,m1] X.env=(false,eval m0 X.env)::aai [m1] X.env:=by rfl)(SS:(backTo pos (aai [m1] X.env)).any (·.1)=false:=by rfl):PI X (.Tuple es n TH) (.Call (.Name "zip" p) [m0,m1] [] pos) (NX K ta):=by
 subst hK;refine qz (W:=λvs H1 R=>∃ a b X0 X1,vs=[.ref a,.ref b]/\aJ X.K H1 a X0/\aJ X.K H1 b X1/\R (Kv X.K a b) H1) hg hm ha hs SS λvs H1 R h=>?_;obtain⟨a,b,X0,X1,rfl,h0,h1,q⟩:=h;refine⟨[(false,a),(false,b)],_,rfl,ada _ _,by show 2<=aal;decide,λp hp=>?_,by kernel_rfl,by kernel_rfl,λy=>F.args_object_init_3 y _ _,λi H h=>?_,λi H v H' h=>?_,λi H h=>?_,q⟩
 . simp only[aaQ,aaR,or_false] at hp;rcases hp with rfl | rfl
   . exact⟨_,h0⟩
   . exact⟨_,h1⟩
 . obtain⟨X0, X1, x0, x1, g0, g1, e0, e1⟩ := h;exact⟨[x0,x1],rfl,cZ ⟨_,g0,e0⟩ (cZ ⟨_,g1,e1⟩ mW)⟩
 . obtain⟨T, vs, e, hT, e', hl, f⟩ := h;obtain⟨x0,x1,rfl⟩:=Od hl;exact⟨T,x0,x1,e,hT,e',λX0 X1 g0 g1=>⟨f 0 _ _ _ rfl rfl g0,f 1 _ _ _ rfl rfl g1⟩⟩
 . obtain ⟨X0, X1, g0, g1, hl⟩ := h;refine ⟨λp hp=>?_,?_⟩
   . simp only[aaQ,aaR,or_false] at hp;rcases hp with rfl | rfl
     . exact⟨_,g0⟩
     . exact⟨_,g1⟩
   . rcases hl with hl | hl
     . exact⟨(false,a),by simp,_,g0,hl⟩
     . exact⟨(false,b),by simp,_,g1,hl⟩
theorem Lj {K:W.Frag}{es:List Expr}{n:Nat}{TH:Pos}{p pos:Pos}(hK:X.K=K)(hg:Gl X "zip")(hm:X.mg "zip" = none)(ha:PA X [m0,m1] ta)(hs:aai [m0,m1] X.env=(false,eval m0 X.env)::aai [m1] X.env:=by rfl)(SS:(backTo pos (aai [m1] X.env)).any (·.1)=false:=by rfl):PI X (.Tuple es n TH) (.Call (.Name "zip" p) [m0,m1] [] pos) (Ku K ta):=by
 subst hK;refine qz (W:=λvs H1 R=>∃ a b X0 X1,vs=[.ref a,.ref b]/\aq X.K H1 a X0/\aq X.K H1 b X1/\R (D6 X.K a b) H1) hg hm ha hs SS λvs H1 R h=>?_;obtain⟨a,b,X0,X1,rfl,h0,h1,q⟩:=h;refine⟨[(true,a),(true,b)],_,rfl,ada _ _,by show 2<=aal;decide,λp hp=>?_,by kernel_rfl,by kernel_rfl,λy=>F.args_object_init_3 y _ _,λi H h=>?_,λi H v H' h=>?_,λi H h=>?_,q⟩
 . simp only[aaQ,aaR,or_false] at hp;rcases hp with rfl | rfl
   . exact⟨_,h0⟩
   . exact⟨_,h1⟩
 . obtain⟨X0, X1, x0, x1, g0, g1, e0, e1⟩ := h;exact⟨[x0,x1],rfl,cZ ⟨_,g0,e0⟩ (cZ ⟨_,g1,e1⟩ mW)⟩
 . obtain⟨T, vs, e, hT, e', hl, f⟩ := h;obtain⟨x0,x1,rfl⟩:=Od hl;exact⟨T,x0,x1,e,hT,e',λX0 X1 g0 g1=>⟨f 0 _ _ _ rfl rfl g0,f 1 _ _ _ rfl rfl g1⟩⟩
 . obtain ⟨X0, X1, g0, g1, hl⟩ := h;refine ⟨λp hp=>?_,?_⟩
   . simp only[aaQ,aaR,or_false] at hp;rcases hp with rfl | rfl
     . exact⟨_,g0⟩
     . exact⟨_,g1⟩
   . rcases hl with hl | hl
     . exact⟨(true,a),by simp,_,g0,hl⟩
     . exact⟨(true,b),by simp,_,g1,hl⟩
theorem Oq {K:W.Frag}{es:List Expr}{n:Nat}{TH:Pos}{m2:Expr}{p pos:Pos}(hK:X.K=K)(hg:Gl X "zip")(hm:X.mg "zip" = none)(ha:PA X [m0,m1,m2] ta)(hs:aai [m0,m1,m2] X.env=(false,eval m0 X.env)::aai [m1,m2] X.env:=by rfl)(SS:(backTo pos (aai [m1,m2] X.env)).any (·.1)=false:=by rfl):PI X (.Tuple es n TH) (.Call (.Name "zip" p) [m0,m1,m2] [] pos) (JN K ta):=by
 subst hK;refine qz (W:=λvs H1 R=>∃ a b c X0 X1 X2,vs=[.ref a,.ref b,.ref c]/\aJ X.K H1 a X0/\aJ X.K H1 b X1/\aJ X.K H1 c X2/\R (D0 X.K a b c) H1) hg hm ha hs SS λvs H1 R h=>?_;obtain⟨a,b,c,X0,X1,X2,rfl,h0,h1,h2,q⟩:=h;refine⟨[(false,a),(false,b),(false,c)],_,rfl,ada _ _,by show 3<=aal;decide,λp hp=>?_,by kernel_rfl,by kernel_rfl,λy=>Sh y _ _ _,λi H h=>?_,λi H v H' h=>?_,λi H h=>?_,q⟩
 . simp only[aaQ,aaR,or_false] at hp;rcases hp with rfl | rfl | rfl
   . exact⟨_,h0⟩
   . exact⟨_,h1⟩
   . exact⟨_,h2⟩
 . obtain⟨X0, X1, X2, x0, x1, x2, g0, g1, g2, e0, e1, e2⟩ := h;exact⟨[x0,x1,x2],rfl,cZ ⟨_,g0,e0⟩ (cZ ⟨_,g1,e1⟩ (cZ ⟨_,g2,e2⟩ mW))⟩
 . obtain⟨T, vs, e, hT, e', hl, f⟩ := h;obtain⟨x0,x1,x2,rfl⟩:=QG hl;exact⟨T,x0,x1,x2,e,hT,e',λX0 X1 X2 g0 g1 g2=>⟨f 0 _ _ _ rfl rfl g0,f 1 _ _ _ rfl rfl g1,f 2 _ _ _ rfl rfl g2⟩⟩
 . obtain ⟨X0, X1, X2, g0, g1, g2, hl⟩ := h;refine ⟨λp hp=>?_,?_⟩
   . simp only[aaQ,aaR,or_false] at hp;rcases hp with rfl | rfl | rfl
     . exact⟨_,g0⟩
     . exact⟨_,g1⟩
     . exact⟨_,g2⟩
   . rcases hl with hl | hl | hl
     . exact⟨(false,a),by simp,_,g0,hl⟩
     . exact⟨(false,b),by simp,_,g1,hl⟩
     . exact⟨(false,c),by simp,_,g2,hl⟩
theorem Mz {K:W.Frag}{es:List Expr}{n:Nat}{TH:Pos}{m2 m3 m4:Expr}{p pos:Pos}(hK:X.K=K)(hg:Gl X "zip")(hm:X.mg "zip" = none)(ha:PA X [m0,m1,m2,m3,m4] ta)(hs:aai [m0,m1,m2,m3,m4] X.env=(false,eval m0 X.env)::aai [m1,m2,m3,m4] X.env:=by rfl)(SS:(backTo pos (aai [m1,m2,m3,m4] X.env)).any (·.1)=false:=by rfl):PI X (.Tuple es n TH) (.Call (.Name "zip" p) [m0,m1,m2,m3,m4] [] pos) (J5 K ta):=by
 subst hK;refine qz (W:=λvs H1 R=>∃ a b c d e X0 X1 X2 X3 X4,vs=[.ref a,.ref b,.ref c,.ref d,.ref e]/\aq X.K H1 a X0/\aq X.K H1 b X1/\aq X.K H1 c X2/\aq X.K H1 d X3/\aq X.K H1 e X4/\R (DS X.K a b c d e) H1) hg hm ha hs SS λvs H1 R h=>?_;obtain⟨a,b,c,d,e,X0,X1,X2,X3,X4,rfl,h0,h1,h2,h3,h4,q⟩:=h;refine⟨[(true,a),(true,b),(true,c),(true,d),(true,e)],_,rfl,ada _ _,by show 5<=aal;decide,λp hp=>?_,by kernel_rfl,by kernel_rfl,λy=>SE y _ _ _ _ _,λi H h=>?_,λi H v H' h=>?_,λi H h=>?_,q⟩
 . simp only[aaQ,aaR,or_false] at hp;rcases hp with rfl | rfl | rfl | rfl | rfl
   . exact⟨_,h0⟩
   . exact⟨_,h1⟩
   . exact⟨_,h2⟩
   . exact⟨_,h3⟩
   . exact⟨_,h4⟩
 . obtain⟨X0, X1, X2, X3, X4, x0, x1, x2, x3, x4, g0, g1, g2, g3, g4, e0, e1, e2, e3, e4⟩ := h;exact⟨[x0,x1,x2,x3,x4],rfl,cZ ⟨_,g0,e0⟩ (cZ ⟨_,g1,e1⟩ (cZ ⟨_,g2,e2⟩ (cZ ⟨_,g3,e3⟩ (cZ ⟨_,g4,e4⟩ mW))))⟩
 . obtain⟨T, vs, e, hT, e', hl, f⟩ := h;obtain⟨x0,x1,x2,x3,x4,rfl⟩:=Sy hl;exact⟨T,x0,x1,x2,x3,x4,e,hT,e',λX0 X1 X2 X3 X4 g0 g1 g2 g3 g4=>⟨f 0 _ _ _ rfl rfl g0,f 1 _ _ _ rfl rfl g1,f 2 _ _ _ rfl rfl g2,f 3 _ _ _ rfl rfl g3,f 4 _ _ _ rfl rfl g4⟩⟩
 . obtain ⟨X0, X1, X2, X3, X4, g0, g1, g2, g3, g4, hl⟩ := h;refine ⟨λp hp=>?_,?_⟩
   . simp only[aaQ,aaR,or_false] at hp;rcases hp with rfl | rfl | rfl | rfl | rfl
     . exact⟨_,g0⟩
     . exact⟨_,g1⟩
     . exact⟨_,g2⟩
     . exact⟨_,g3⟩
     . exact⟨_,g4⟩
   . rcases hl with hl | hl | hl | hl | hl
     . exact⟨(true,a),by simp,_,g0,hl⟩
     . exact⟨(true,b),by simp,_,g1,hl⟩
     . exact⟨(true,c),by simp,_,g2,hl⟩
     . exact⟨(true,d),by simp,_,g3,hl⟩
     . exact⟨(true,e),by simp,_,g4,hl⟩
end L3
namespace FB
open PySem PySem.Spec PyProof.Rows L2 L3 PySem.SeqAt
local macro_rules | `(tactic| walk_at "clok") => `(tactic| repeat (first | exact aas | refine ⟨rfl, ?_⟩))
local macro_rules | `(tactic| walk_at "frok") => `(tactic| repeat (first | exact aas | refine ⟨⟨rfl, (by first | exact Or.inl rfl | exact Or.inr rfl), (by first | exact Or.inl rfl | exact Or.inr rfl), rfl⟩, ?_⟩))
local macro_rules | `(tactic| walk_at "hlk") => `(tactic| first | (with_reducible assumption) | (exact aa) | ((with_reducible refine' aj ?x ?y); (case y => with_reducible assumption); (case x => walk_at "hlk")) | ((fail_if_success (((with_reducible refine' aj ?x ?y); (case y => with_reducible assumption)))); (with_reducible refine' cf ?x ?y); (case x => walk_at "ne"); (case y => walk_at "hlk")) | ((with_reducible refine' Lf ?x ?y); (case x => with_reducible assumption); (case y => walk_at "hlk")))
local macro_rules | `(tactic| walk_at "ne") => `(tactic| first | (with_reducible assumption) | (apply Ne.symm; (with_reducible assumption)) | ((with_reducible refine' af ?x ?y); (case y => with_reducible assumption); (case x => walk_at "hlk")) | (apply Ne.symm; (with_reducible refine' af ?x ?y); (case y => with_reducible assumption); (case x => walk_at "hlk")))
local macro_rules | `(tactic| walk_at "sql") => `(tactic| first | (with_reducible assumption) | (refine' aq.of ?x; (case x => first | (with_reducible assumption) | (exact aa))) | ((with_reducible refine' C_ ?x ?y); (case y => with_reducible assumption); (case x => walk_at "sql")) | ((fail_if_success (((with_reducible refine' C_ ?x ?y); (case y => with_reducible assumption)))); first | ((with_reducible refine' K4 ?s ?h ?q); (case h => with_reducible assumption); (case s => walk_at "same"); (case q => walk_at "sql")) | (refine' aq.of ?x; (case x => (with_reducible refine' cf ?x2 ?y2); (case x2 => walk_at "ne"); (case y2 => walk_at "hlk")))) | ((with_reducible refine' ak.seq ?x ?y); (case x => with_reducible assumption); (case y => walk_at "sql")))
local macro_rules | `(tactic| walk_at "sqt") => `(tactic| first | (with_reducible assumption) | (refine' aJ.of ?x; (case x => first | (with_reducible assumption) | (exact aa))) | ((with_reducible refine' CQ ?x ?y); (case y => with_reducible assumption); (case x => walk_at "sqt")) | ((fail_if_success (((with_reducible refine' CQ ?x ?y); (case y => with_reducible assumption)))); first | ((with_reducible refine' sqt_upd ?s ?h ?q); (case h => with_reducible assumption); (case s => walk_at "same"); (case q => walk_at "sqt")) | (refine' aJ.of ?x; (case x => (with_reducible refine' cf ?x2 ?y2); (case x2 => walk_at "ne"); (case y2 => walk_at "hlk")))) | ((with_reducible refine' cK ?x ?y); (case x => with_reducible assumption); (case y => walk_at "sqt")))
local macro_rules | `(tactic| walk_at "lk") => `(tactic| first | (with_reducible exact cq) | (refine' aG ?x ?y; (case x => nofun); (case y => walk_at "lk")) | exact cq)
local macro_rules | `(tactic| walk_at "nolk") => `(tactic| first | (with_reducible rfl) | (refine' iy ?x ?y; (case x => nofun); (case y => walk_at "nolk")) | rfl)
theorem Q3 {fs:List (Str×V)}{f:Str}{v:V}{n:Nat}(h:fs.length<n):(av f v fs).length<n+1:=abe (fN (aah _)) (Nat.succ_lt_succ h)
theorem Q7 {n:Nat}:([]:List (Str×V)).length<n+1:=Nat.succ_pos n
theorem Q8 {fs:List (Str×V)}{n:Nat}(h:fs.length<=9):fs.length<n+10:=abe h (aay (ab5 9) (acM 10 n))
local macro_rules | `(tactic| walk_at "fewf") => `(tactic| with_reducible ((repeat refine Q3 ?_); first | exact Q7 | exact Q8 (by assumption)))
local macro_rules | `(tactic| walk_at "small") => `(tactic| first | exact aa2 rfl | (show _ <= aal; rw [aaI]; first | omega | (simp only [aac, aaA, acJ, aab, aaB, abx, List.length_range]; omega)))
local macro_rules | `(tactic| walk_at "r2") => `(tactic| first
 | ((with_reducible refine' GZ ?h ?c ?n ?l ?_);(case h=>walk_at"hlk");(case c=>walk_at"cls");(case n=>walk_at"noat");(case l=>walk_at"lk"))
 | ((with_reducible refine' LJ ?h ?c ?n ?l ?_);(case h=>walk_at"hlk");(case c=>walk_at"cls");(case n=>walk_at"noat");(case l=>walk_at"fewf"))
 | ((with_reducible refine' OE ?h ?_);(case h=>walk_at"sql"))
 | ((with_reducible refine' fj ?h ?_);(case h=>walk_at"sql"))
 | ((with_reducible refine' Lu ?h ?_);(case h=>walk_at"sql"))
 | ((with_reducible refine' Mg ?h ?_);(case h=>walk_at"sqt"))
 | ((with_reducible refine' JO ?h ?_);(case h=>rfl))
 | ((with_reducible refine' JT ?h ?_);(case h=>rfl)))
local macro_rules | `(tactic| walk_at "none") => `(tactic| first | (with_reducible assumption) | ((with_reducible refine' aF ?x ?y); (case y => with_reducible assumption); (case x => walk_at "same")))
local macro_rules | `(tactic| walk_at "same") => `(tactic| first | (with_reducible assumption) | (with_reducible exact ak.refl _) | ((with_reducible refine' same_none ?x ?y); (case y => with_reducible assumption); (case x => walk_at "same")) | ((fail_if_success (((with_reducible refine' same_none ?x ?y); (case y => with_reducible assumption)))); (with_reducible refine' bK ?x ?y); (case y => walk_at "none"); (case x => walk_at "same")) | ((with_reducible refine' ak.trans ?x ?y); (case y => with_reducible assumption); (case x => walk_at "same")))
local macro_rules | `(tactic| walk_at "tt") => `(tactic| first | assumption | omega | with_unfolding_all rfl | decide | (simp only [aac, aaA, acJ, aab, aaB, abx, dw]; omega))
local macro_rules | `(tactic| walk_at "nn") => `(tactic| first | assumption | omega | decide | (simp only [aac, aaA, acJ, aab, aaB, abx, dw]; omega))
local macro_rules | `(tactic| walk_at "at") => `(tactic| first | assumption | ((with_reducible refine' Eb ?x ?y); (case x => walk_at "tt"); (case y => walk_at "tt")) | rfl)
local macro_rules | `(tactic| walk_at "ty") => `(tactic| first | fail)
local macro_rules | `(tactic| walk_at "dp") => `(tactic| first | (with_reducible exact cE _) | (with_reducible exact dp_str _) | (with_reducible exact Di) | ((with_reducible refine' jl ?x); (case x => walk_at "sql")) | ((with_reducible refine' oz ?x ?y); (case x => walk_at "sql"); (case y => walk_at "dps")) | ((with_reducible refine' gB ?x ?y); (case x => walk_at "sqt"); (case y => walk_at "dps")))
local macro_rules | `(tactic| walk_at "dps") => `(tactic| first | (with_reducible exact cL) | ((with_reducible refine' aS ?x ?y); (case x => walk_at "dp"); (case y => walk_at "dps")))
local macro_rules | `(tactic| walk_at "shaped") => `(tactic| first | exact shaped_ints _ | (unfold shaped; simp [adp, aci, iF, PyData.depth, ab9, jf]))
local macro_rules | `(tactic| walk_at "rd") => `(tactic| (walk_at "rk"; repeat (walk_at "r2"; walk_at "rk")))
local macro_rules | `(tactic| walk_at "rds") => `(tactic| (walk_at "rd"; repeat' (walk_at "cs" <;> walk_at "rd")))
local macro_rules | `(tactic| walk_at "cmul") => `(tactic| first | exact Or.inl ⟨by decide, by decide⟩ | exact Or.inr ⟨by decide, by decide⟩ | exact Or.inl ⟨by omega, by omega⟩ | exact Or.inr ⟨by omega, by omega⟩)
set_option hygiene false
local macro_rules | `(tactic| walk_at "cs") => `(tactic| with_reducible first | refine ky (λhh => ?_) (λhh => ?_) | refine gQ (λhh => ?_) (λhh => ?_) | refine cW (λhh => ?_) (λhh => ?_) | refine vB (λhh => ?_) (λhh => ?_) )
local macro_rules | `(tactic| walk_at "tf") => `(tactic| (show Q _ _; refine' q _ _ _ _ ?zs ?Sw ?Sk ?R3 ?RZ ?RV ?Sm ?zt ?zb ?zp; (case zt => walk_at "hlk"); (case zb => walk_at "hlk"); (case zp => walk_at "hlk"); (case zs => walk_at "same"); (case Sw => walk_at "none"); (case Sk => walk_at "none"); (case R3 => walk_at "none"); (case RZ => walk_at "ne"); (case RV => walk_at "ne"); (case Sm => walk_at "ne")))
local macro_rules | `(tactic| walk_at "cls") => `(tactic| first | assumption | exact T.Jk | exact T.ju | exact T.fi | exact T.jE | exact T.hJ | exact T.iB | exact T.iw | exact T.jD | exact T.jT | exact T.ic | exact T.fu | exact T.iz | exact T.gc | exact T.cb)
local macro_rules | `(tactic| walk_at "noat") => `(tactic| first | assumption | exact T.uC | exact T.sW | exact T.GR | exact T.F_ | exact T.BV | exact T.Bq | exact T.vA | exact T.Gs | exact T.z9 | exact T.Es | exact T.Ea | exact T.yQ | exact T.yu | exact T.GB | exact T.DE | exact T.G4 | exact T.D9 | exact T.Cj | exact T.yF | exact T.EW | exact T.EG | exact T.vU | exact T.vq | exact T.w_ | exact T.sS | exact T.wD | exact T.uR | exact T.vH | exact T.qW | exact T.vc)
local macro_rules | `(tactic| walk_at "kit") => `(tactic| first | assumption | exact T.lB | exact T.kW | exact T.rK | exact T.jw | exact T.j7 | exact T.pA | exact T.k7 | exact T.lD | exact T.qY | exact T.jG | exact T.jF | exact T.oK | exact T.ig | exact T.ik | exact T.lS | exact T.lu | exact T.kZ | exact T.rl | exact T.k9 | exact T.k_ | exact T.rp | exact T.js | exact T.jS | exact T.qk | exact T.ir | exact T.hU | exact T.lQ | exact T.jz | exact T.ke | exact T.oZ | exact T.jL | exact T.jY | exact T.o7 | exact T.jr | exact T.jt | exact T.jZ)
set_option hygiene true
set_option maxHeartbeats 4000000
local macro_rules | `(tactic| walk_at "sc") => `(tactic| exact ⟨rfl, rfl, rfl, by nofun, rfl, by nofun, by nofun⟩)
def top (i:Nat):Stmt:=PySem.Challenge.pw_frameback_k92_whole_all_as_at_the_call.main.body.getD i (.Pass ⟨0,0,0,0⟩)
abbrev oq:Stmt:=inClass (top 5) 0
theorem mh:ao ["self","row"] ["self","row"] (ag oq):=by walk_at"sc"
abbrev xQ:Stmt:=top 12
theorem uE:ao ["number","top"] ["number","top"] (ag xQ):=by walk_at"sc"
abbrev ve:Stmt:=top 15
theorem rQ:ao ["boxes","box","value","changed"] ["boxes","box","value"] (ag ve):=by walk_at"sc"
abbrev rY:Stmt:=top 16
theorem oR:ao ["box"] ["box"] (ag rY):=by walk_at"sc"
abbrev oS:Stmt:=top 17
theorem nZ:ao ["cell","high"] ["cell","high"] (ag oS):=by walk_at"sc"
abbrev xN:Stmt:=top 18
theorem uu:ao ["places","place"] ["places","place"] (ag xN):=by walk_at"sc"
abbrev Ah:Stmt:=top 19
theorem xy:ao ["places","place","source"] ["places","place","source"] (ag Ah):=by walk_at"sc"
abbrev dE:Stmt:=inClass (top 20) 0
theorem bB:ao ["self","at"] ["self","at"] (ag dE):=by walk_at"sc"
abbrev cU:Stmt:=inClass (top 20) 1
theorem bc:ao ["self","high"] ["self","high"] (ag cU):=by walk_at"sc"
abbrev eW:Stmt:=inClass (top 20) 2
theorem cD:ao ["self","places","high"] ["self","places","high"] (ag eW):=by walk_at"sc"
abbrev uV:Stmt:=inClass (top 21) 0
theorem sr:ao ["self","box","number"] ["self","box","number"] (ag uV):=by walk_at"sc"
abbrev vG:Stmt:=inClass (top 21) 1
theorem sh:ao ["self","at","boxes","pile"] ["self","at","boxes","pile"] (ag vG):=by walk_at"sc"
abbrev rV:Stmt:=inClass (top 21) 2
theorem oO:ao ["self","places","high"] ["self","places","high"] (ag rV):=by walk_at"sc"
abbrev rW:Stmt:=inClass (top 22) 0
theorem pW:ao ["self","box","one"] ["self","box","one"] (ag rW):=by walk_at"sc"
abbrev sd:Stmt:=inClass (top 22) 1
theorem pC:ao ["self","at","boxes","pile"] ["self","at","boxes","pile"] (ag sd):=by walk_at"sc"
abbrev oQ:Stmt:=inClass (top 22) 2
theorem oa:ao ["self","places","high"] ["self","places","high"] (ag oQ):=by walk_at"sc"
abbrev jK:Stmt:=inClass (top 23) 0
theorem i6:ao ["self","box","one","other"] ["self","box","one","other"] (ag jK):=by walk_at"sc"
abbrev i9:Stmt:=inClass (top 23) 1
theorem iH:ao ["self","places","high"] ["self","places","high"] (ag i9):=by walk_at"sc"
abbrev uc:Stmt:=inClass (top 24) 0
theorem rm:ao ["self","at","boxes","pile","value"] ["self","at","boxes","pile"] (ag uc):=by walk_at"sc"
abbrev rR:Stmt:=inClass (top 25) 0
theorem pK:ao ["self","many"] ["self","many"] (ag rR):=by walk_at"sc"
abbrev rA:Stmt:=inClass (top 25) 1
theorem qc:ao ["self","at","boxes","pile"] ["self","at","boxes","pile"] (ag rA):=by walk_at"sc"
abbrev nG:Stmt:=inClass (top 25) 2
theorem lP:ao ["self","high"] ["self","high"] (ag nG):=by walk_at"sc"
abbrev nO:Stmt:=inClass (top 26) 0
theorem l6:ao ["self","many"] ["self","many"] (ag nO):=by walk_at"sc"
abbrev nH:Stmt:=inClass (top 26) 1
theorem my:ao ["self","at","boxes","pile","left"] ["self","at","boxes","pile"] (ag nH):=by walk_at"sc"
abbrev kR:Stmt:=inClass (top 26) 2
theorem jW:ao ["self","high"] ["self","high"] (ag kR):=by walk_at"sc"
abbrev lK:Stmt:=inClass (top 26) 3
theorem kD:ao ["self","places","high","gone"] ["self","places","high"] (ag lK):=by walk_at"sc"
abbrev gP:Stmt:=inClass (top 27) 0
theorem eJ:ao ["self","box","cell"] ["self","box","cell"] (ag gP):=by walk_at"sc"
abbrev fH:Stmt:=inClass (top 27) 1
theorem dZ:ao ["self","high"] ["self","high"] (ag fH):=by walk_at"sc"
abbrev vI:Stmt:=inClass (top 28) 0
theorem rk:ao ["self","at","boxes","pile","changed"] ["self","at","boxes","pile"] (ag vI):=by walk_at"sc"
abbrev rB:Stmt:=inClass (top 28) 1
theorem qf:ao ["self","places","high"] ["self","places","high"] (ag rB):=by walk_at"sc"
abbrev uX:Stmt:=inClass (top 29) 0
theorem rO:ao ["self","at","boxes","pile","value"] ["self","at","boxes","pile"] (ag uX):=by walk_at"sc"
abbrev rP:Stmt:=inClass (top 29) 1
theorem oC:ao ["self","places","high"] ["self","places","high"] (ag rP):=by walk_at"sc"
abbrev ql:Stmt:=inClass (top 33) 0
theorem oo:ao ["self","entries","landings"] ["self","entries","landings"] (ag ql):=by walk_at"sc"
abbrev xE:Stmt:=top 34
theorem vE:ao ["entry","kept"] ["entry"] (ag xE):=by walk_at"sc"
abbrev ma:Stmt:=top 37
theorem kF:ao ["places"] ["places"] (ag ma):=by walk_at"sc"
abbrev rN:Stmt:=top 38
theorem oX:ao ["places","known","piece","place","cell"] ["places","known","piece"] (ag rN):=by walk_at"sc"
abbrev kP:Stmt:=top 39
theorem fW:ao ["entries","at","known","pile","entry","length","piece","found"] ["entries","at","known","pile"] (ag kP):=by walk_at"sc"
abbrev xj:Stmt:=top 40
theorem mL:ao ["table","row","boxes","pile","home","told","at","known","left","caller"] ["table","row","boxes","pile"] (ag xj):=by walk_at"sc"
abbrev rS:Stmt:=inClass (top 44) 0
theorem o9:ao ["self","target"] ["self","target"] (ag rS):=by walk_at"sc"
abbrev rf:Stmt:=inClass (top 44) 1
theorem qg:ao ["self","at","boxes","pile"] ["self","at","boxes","pile"] (ag rf):=by walk_at"sc"
abbrev q_:Stmt:=inClass (top 44) 2
theorem o8:ao ["self","at"] ["self","at"] (ag q_):=by walk_at"sc"
abbrev nA:Stmt:=inClass (top 45) 0
theorem lV:ao ["self","box","target"] ["self","box","target"] (ag nA):=by walk_at"sc"
abbrev nM:Stmt:=inClass (top 45) 1
theorem mG:ao ["self","at","boxes","pile","coming"] ["self","at","boxes","pile"] (ag nM):=by walk_at"sc"
abbrev ny:Stmt:=inClass (top 45) 2
theorem mC:ao ["self","at"] ["self","at"] (ag ny):=by walk_at"sc"
abbrev se:Stmt:=inClass (top 46) 0
theorem pf:ao ["self","target"] ["self","target"] (ag se):=by walk_at"sc"
abbrev sq:Stmt:=inClass (top 46) 1
theorem pG:ao ["self","at","boxes","pile"] ["self","at","boxes","pile"] (ag sq):=by walk_at"sc"
abbrev o_:Stmt:=inClass (top 46) 2
theorem oj:ao ["self","places","high"] ["self","places","high"] (ag o_):=by walk_at"sc"
abbrev rz:Stmt:=inClass (top 47) 0
theorem oF:ao ["self","box"] ["self","box"] (ag rz):=by walk_at"sc"
abbrev rj:Stmt:=inClass (top 47) 1
theorem pH:ao ["self","at","boxes","pile"] ["self","at","boxes","pile"] (ag rj):=by walk_at"sc"
abbrev rZ:Stmt:=inClass (top 47) 2
theorem pU:ao ["self","at"] ["self","at"] (ag rZ):=by walk_at"sc"
abbrev rH:Stmt:=inClass (top 48) 0
theorem qh:ao ["self","box"] ["self","box"] (ag rH):=by walk_at"sc"
abbrev rC:Stmt:=inClass (top 48) 1
theorem qa:ao ["self","at","boxes","pile"] ["self","at","boxes","pile"] (ag rC):=by walk_at"sc"
abbrev sj:Stmt:=inClass (top 48) 2
theorem pJ:ao ["self","at"] ["self","at"] (ag sj):=by walk_at"sc"
abbrev xZ:Stmt:=top 50
theorem ud:ao ["boxes"] ["boxes"] (ag xZ):=by walk_at"sc"
abbrev lM:Stmt:=inClass (top 51) 0
theorem kS:ao ["self","code","table","boxes","start"] ["self","code","table","boxes","start"] (ag lM):=by walk_at"sc"
abbrev fF:Stmt:=inClass (top 51) 1
theorem fv:ao ["self","coming"] ["self","coming"] (ag fF):=by walk_at"sc"
abbrev p9:Stmt:=inClass (top 51) 2
theorem nB:ao ["self"] ["self"] (ag p9):=by walk_at"sc"
abbrev kN:Stmt:=inClass (top 51) 3
theorem jx:ao ["self"] ["self"] (ag kN):=by walk_at"sc"
abbrev mJ:Stmt:=inClass (top 51) 4
theorem kJ:ao ["self"] ["self"] (ag mJ):=by walk_at"sc"
abbrev lO:Stmt:=inClass (top 51) 5
theorem kQ:ao ["self"] ["self"] (ag lO):=by walk_at"sc"
abbrev kr:Stmt:=inClass (top 51) 7
theorem jP:ao ["self"] ["self"] (ag kr):=by walk_at"sc"
abbrev mB:Stmt:=inClass (top 51) 8
theorem kG:ao ["self","row"] ["self"] (ag mB):=by walk_at"sc"
abbrev pF:Stmt:=inClass (top 51) 9
theorem nQ:ao ["self","row","done"] ["self","row"] (ag pF):=by walk_at"sc"
abbrev jI:Stmt:=inClass (top 51) 10
theorem fL:ao ["self","many","left"] ["self","many"] (ag jI):=by walk_at"sc"
abbrev kI:Stmt:=inClass (top 51) 11
theorem kl:ao ["self","coming","boxes","pile"] ["self","coming","boxes","pile"] (ag kI):=by walk_at"sc"
abbrev mF:Stmt:=inClass (top 51) 12
theorem gY:ao ["self","value","told","looked_at","caller"] ["self","value"] (ag mF):=by walk_at"sc"
abbrev l0:Stmt:=inClass (top 51) 13
theorem gH:ao ["self","value","caller","looked_at","coming","boxes"] ["self","value","caller","looked_at"] (ag l0):=by walk_at"sc"
abbrev Ba:Stmt:=top 54
theorem yb:ao ["number","entries"] ["number","entries"] (ag Ba):=by walk_at"sc"
abbrev ja:Stmt:=top 55
theorem iM:ao ["entry","high","beyond"] ["entry"] (ag ja):=by walk_at"sc"
abbrev nP:Stmt:=top 56
theorem mw:ao ["row","entry"] ["row","entry"] (ag nP):=by walk_at"sc"
abbrev kO:Stmt:=top 57
theorem jN:ao ["row","entry"] ["row","entry"] (ag kO):=by walk_at"sc"
abbrev kB:Stmt:=top 58
theorem j_:ao ["row","entry","coming","entries","there","name","ours","theirs"] ["row","entry","coming","entries"] (ag kB):=by walk_at"sc"
abbrev iJ:Stmt:=top 59
theorem g6:ao ["row","entries"] ["row","entries"] (ag iJ):=by walk_at"sc"
abbrev rq:Stmt:=top 60
theorem oP:ao ["numbers","told","number"] ["numbers"] (ag rq):=by walk_at"sc"
abbrev jy:Stmt:=top 61
theorem fK:ao ["code","entries","at","row","entry","own","found"] ["code","entries","at"] (ag jy):=by walk_at"sc"
abbrev g9:Stmt:=top 62
theorem gA:ao ["code","entries","at","landing","entry"] ["code","entries","at","landing"] (ag g9):=by walk_at"sc"
abbrev xA:Stmt:=top 63
theorem mM:ao ["code","table","entries","complaints","at","landing","what"] ["code","table"] (ag xA):=by walk_at"sc"
abbrev yg:Stmt:=top 65
theorem vw:ao ["code","landings","at","ways"] ["code","landings","at"] (ag yg):=by walk_at"sc"
abbrev Dd:Stmt:=top 66
theorem Bw:ao ["heights","waiting","at","high"] ["heights","waiting","at","high"] (ag Dd):=by walk_at"sc"
abbrev pN:Stmt:=top 67
theorem eT:ao ["code","ways","heights","waiting","at","behind","coming"] ["code","ways"] (ag pN):=by walk_at"sc"
abbrev Br:Stmt:=top 68
theorem xu:ao ["sets","changed","at","places","left"] ["sets","changed","at","places"] (ag Br):=by walk_at"sc"
abbrev rD:Stmt:=top 69
theorem gR:ao ["code","ways","heights","first","sets","changed","wave","at","kept","coming"] ["code","ways","heights","first"] (ag rD):=by walk_at"sc"
abbrev pV:Stmt:=top 70
theorem eR:ao ["code","landings","ways","heights","found","entries","high","back","four","five","six"] ["code","landings"] (ag pV):=by walk_at"sc"
abbrev Dh:Stmt:=top 71
theorem tT:ao ["code","landings","known","table"] ["code","landings"] (ag Dh):=by walk_at"sc"
abbrev nK:Stmt:=top 73
theorem lU:ao ["_law_script","_law_k"] ["_law_script","_law_k"] (ag nK):=by walk_at"sc"
abbrev rF:Stmt:=top 74
theorem pT:ao ["_law_cell"] ["_law_cell"] (ag rF):=by walk_at"sc"
abbrev xK:Stmt:=top 75
theorem vg:ao ["_law_told","_law_word","_law_box","_law_part"] ["_law_told"] (ag xK):=by walk_at"sc"
abbrev ue:Stmt:=top 76
theorem kX:ao ["_law_cells","_law_saved","_law_spare","_law_at","_law_rows","_law_cell","_law_kind","_law_box","_law_kept"] ["_law_cells","_law_saved","_law_spare","_law_at"] (ag ue):=by walk_at"sc"
abbrev lH:Stmt:=top 77
theorem cV:ao ["_law_cell","_law_cells","_law_at","_law_saved","_law_height","_law_turn","_law_places","_law_spare","_law_rows","_law_cut","_law_end"] ["_law_cell","_law_cells","_law_at"] (ag lH):=by walk_at"sc"
abbrev um:Stmt:=top 78
theorem su:ao ["_law_script","_law_many","_law_rows","_law_starts","_law_landings","_law_k","_law_part","_law_end","_law_j","_law_way","_law_found","_law_told"] ["_law_script"] (ag um):=by walk_at"sc"
abbrev nU:Stmt:=top 79
theorem lL:ao ["_law_cell","_law_many","_law_kind","_law_box","_law_part"] ["_law_cell","_law_many"] (ag nU):=by walk_at"sc"
abbrev mr:Stmt:=top 80
theorem gy:ao ["_law_script","_law_many","_law_rows","_law_landings","_law_cell"] ["_law_script"] (ag mr):=by walk_at"sc"
abbrev rE:Stmt:=top 81
theorem gG:ao ["_law_code_here","_law_landings","_law_table_here"] ["_law_code_here","_law_landings"] (ag rE):=by walk_at"sc"
abbrev nI:Stmt:=top 82
theorem lZ:ao ["_law_calls","_law_landings","_law_k"] ["_law_calls","_law_landings"] (ag nI):=by walk_at"sc"
abbrev nJ:Stmt:=top 83
theorem mq:ao ["_law_machine","_law_told"] ["_law_machine","_law_told"] (ag nJ):=by walk_at"sc"
abbrev qd:Stmt:=top 84
theorem om:ao ["_law_machine","_law_calls","_law_landings","_law_held","_law_box","_law_k","_law_boxes"] ["_law_machine","_law_calls","_law_landings","_law_held","_law_box"] (ag qd):=by walk_at"sc"
abbrev vx:Stmt:=top 85
theorem r6:ao ["_law_machine","_law_calls","_law_home"] ["_law_machine","_law_calls","_law_home"] (ag vx):=by walk_at"sc"
abbrev gX:Stmt:=top 86
theorem mx:ao ["_law_script","_law_rows","_law_landings","_law_code_here","_law_table_here","_law_boxes","_law_machine","_law_calls","_law_k","_law_told","_law_held","_law_then"] ["_law_script"] (ag gX):=by walk_at"sc"
abbrev cI (K:W.Frag)(mg:Str->Option Value)(x:Str)(st:Stmt)(ps:List Str):Prop:=∃ f fd,eC K x x st f fd/\mg x=some (.ref f)/\Binds K fd ps []
abbrev bD (K:W.Frag)(C:Addr)(x q:Str)(st:Stmt)(ps:List Str):Prop:=∃ f fd,eC K x q st f fd/\BC K C x f/\Binds K fd ps []
abbrev n_ (K:W.Frag)(C:Addr)(q:Str)(st:Stmt)(ps:List Str):Prop:=∃ f fd,eC K "__init__" q st f fd/\Mk K C f/\Binds K fd ps []
abbrev dh (K:W.Frag)(C D:Addr)(b:Bool):Prop:=acj K (.ref C) (.ref D)=some b
abbrev oi (K:W.Frag)(C:Addr):Prop:=aa_ K (.ref C) "__class__" = some (some (.builtin "object.__class__"))/\W.mroIn K C (.type "object")=some true
local macro_rules | `(tactic| walk_at "L") => `(tactic| (repeat first | (with_reducible assumption) | (exact aa) | ((with_reducible refine' cf ?zx ?_);(case zx=>with_reducible assumption)) | ((with_reducible refine' aj ?_ ?zy);(case zy=>with_reducible assumption))))
set_option hygiene false
local macro_rules | `(tactic| walk_at "A") => `(tactic| exact ⟨⟨by simp only[Rw.ok,aM,isVal,aH,aW];lia,aas⟩,by simp only[cz];lia⟩)
set_option hygiene true
local macro_rules | `(tactic| symm) => `(tactic| walk_at "rd")
local macro_rules | `(tactic| ac_rfl) => `(tactic| walk_at "rk")
structure Txt (K:W.Frag)(mg:Str->Option Value)(a:bE):Prop where
 Qi:mg "all" = none
 PY:mg "any" = none
 OH:mg "dict" = none
 Cw:mg "enumerate" = none
 PV:mg "int" = none
 qi:mg "isinstance" = none
 jb:mg "len" = none
 GW:mg "list" = none
 JY:mg "max" = none
 f9:mg "range" = none
 Pw:mg "reversed" = none
 Il:mg "sorted" = none
 CT:mg "tuple" = none
 ze:mg "zip" = none
 t7:∃ t,mg "FIRST_CELL_BIT" = some (abl 8 t)
 oA:mg "KEPT_BOXES" = some (.ref a.gF)
 jo:(∀ H,aJ K H a.gF [.int 4,.int 5,.int 6])
 MA:∃ t,mg "LINK" = some (abl 7 t)
 wd:∃ t,mg "LOST_BY_CALL" = some (abl 143 t)
 xb:∃ t,mg "MOST_CALLERS" = some (abl 5000 t)
 rM:mg "SET_NAMES" = some (.ref a.iD)
 kY:(∀ H,aJ K H a.iD [.str "back",.int 4,.int 5,.int 6])
 lR:mg "START" = some (.ref a.jn)
 lX:∃ US:Addr,(∀ H,aJ K H a.jn [.int 0,.int 128,.ref US])/\(∀ H,aJ K H US [.int 16,.int 32,.int 64])
 Gk:∃ t,mg "TOP_BOX" = some (abl 7 t)
 Ci:∃ t,mg "TOP_CELLS" = some (abl 4000 t)
 Bx:∃ t,mg "TOP_TARGET" = some (abl 2000 t)
 BP:∃ t,mg "TOP_VALUE" = some (abl 4294967295 t)
 IC:∃ t,mg "VALUES" = some (abl 4294967296 t)
 Qx:mg "Add" = some (.ref a.cH)
 Rz:mg "Astray" = some (.ref a.dO)
 Hj:mg "Back" = some (.ref a.a8)
 Jw:mg "Branch" = some (.ref a.bp)
 BG:mg "Call" = some (.ref a.aV)
 OI:mg "Copy" = some (.ref a.bW)
 Gz:mg "Drop" = some (.ref a.a9)
 OD:mg "FrameError" = some (.ref a.oH)
 Qd:mg "Get" = some (.ref a.cO)
 OS:mg "Grow" = some (.ref a.b9)
 Pe:mg "Jump" = some (.ref a.b8)
 F4:mg "Machine" = some (.ref a.aw)
 RN:mg "NoRow" = some (.ref a.LX)
 QH:mg "NoTable" = some (.ref a.fh)
 P2:mg "Put" = some (.ref a.cQ)
 Qc:mg "Set" = some (.ref a.cP)
 Ji:mg "Shrink" = some (.ref a.bz)
 KW:mg "Table" = some (.ref a.bZ)
 Jk:eg K a.bZ
 uC:aX K a.bZ "entries"
 sW:aX K a.bZ "landings"
 L0:∃ f fd,fb K "__init__" "Table.__init__" ql f fd/\Mk K a.bZ f/\Binds K fd ["self","entries","landings"] []/\Binds K fd ["self","entries","landings"] [.none]
 ju:eg K a.cH
 GR:aX K a.cH "box"
 F_:aX K a.cH "one"
 BV:aX K a.cH "other"
 PF:n_ K a.cH "Reckoning.__init__" jK ["self","box","one","other"]
 DY:bD K a.cH "goes" "Row.goes" dE ["self","at"]
 A3:bD K a.cH "height" "Row.height" cU ["self","high"]
 BS:bD K a.cH "keeps" "Reckoning.keeps" i9 ["self","places","high"]
 DL:bD K a.cH "runs" "Add.runs" uc ["self","at","boxes","pile"]
 fi:eg K a.bp
 Bq:aX K a.bp "box"
 vA:aX K a.bp "target"
 Ij:n_ K a.bp "Branch.__init__" nA ["self","box","target"]
 yt:bD K a.bp "goes" "Branch.goes" ny ["self","at"]
 uI:bD K a.bp "height" "Row.height" cU ["self","high"]
 wZ:bD K a.bp "keeps" "Row.keeps" eW ["self","places","high"]
 yK:bD K a.bp "runs" "Branch.runs" nM ["self","at","boxes","pile"]
 jE:eg K a.cP
 Gs:aX K a.cP "box"
 z9:aX K a.cP "number"
 Px:n_ K a.cP "Set.__init__" uV ["self","box","number"]
 EB:bD K a.cP "goes" "Row.goes" dE ["self","at"]
 Ai:bD K a.cP "height" "Row.height" cU ["self","high"]
 CG:bD K a.cP "keeps" "Set.keeps" rV ["self","places","high"]
 DZ:bD K a.cP "runs" "Set.runs" vG ["self","at","boxes","pile"]
 hJ:eg K a.bW
 Es:aX K a.bW "box"
 Ea:aX K a.bW "one"
 O_:n_ K a.bW "Copy.__init__" rW ["self","box","one"]
 B_:bD K a.bW "goes" "Row.goes" dE ["self","at"]
 yk:bD K a.bW "height" "Row.height" cU ["self","high"]
 Ao:bD K a.bW "keeps" "Copy.keeps" oQ ["self","places","high"]
 CD:bD K a.bW "runs" "Copy.runs" sd ["self","at","boxes","pile"]
 iB:eg K a.b8
 yQ:aX K a.b8 "target"
 NM:n_ K a.b8 "Jump.__init__" rS ["self","target"]
 BI:bD K a.b8 "goes" "Jump.goes" q_ ["self","at"]
 yE:bD K a.b8 "height" "Row.height" cU ["self","high"]
 A_:bD K a.b8 "keeps" "Row.keeps" eW ["self","places","high"]
 BQ:bD K a.b8 "runs" "Jump.runs" rf ["self","at","boxes","pile"]
 iw:eg K a.aV
 yu:aX K a.aV "target"
 M4:n_ K a.aV "Call.__init__" se ["self","target"]
 CJ:bD K a.aV "goes" "Row.goes" dE ["self","at"]
 yA:bD K a.aV "height" "Row.height" cU ["self","high"]
 Ae:bD K a.aV "keeps" "Call.keeps" o_ ["self","places","high"]
 Cd:bD K a.aV "runs" "Call.runs" sq ["self","at","boxes","pile"]
 jD:eg K a.cQ
 GB:aX K a.cQ "box"
 DE:aX K a.cQ "cell"
 Qh:n_ K a.cQ "Reaching.__init__" gP ["self","box","cell"]
 Ey:bD K a.cQ "goes" "Row.goes" dE ["self","at"]
 AB:bD K a.cQ "height" "Reaching.height" fH ["self","high"]
 CA:bD K a.cQ "keeps" "Put.keeps" rB ["self","places","high"]
 DN:bD K a.cQ "runs" "Put.runs" vI ["self","at","boxes","pile"]
 jT:eg K a.cO
 G4:aX K a.cO "box"
 D9:aX K a.cO "cell"
 PM:n_ K a.cO "Reaching.__init__" gP ["self","box","cell"]
 D8:bD K a.cO "goes" "Row.goes" dE ["self","at"]
 Aq:bD K a.cO "height" "Reaching.height" fH ["self","high"]
 B9:bD K a.cO "keeps" "Get.keeps" rP ["self","places","high"]
 DW:bD K a.cO "runs" "Get.runs" uX ["self","at","boxes","pile"]
 ic:eg K a.b9
 Cj:aX K a.b9 "many"
 Ox:n_ K a.b9 "Grow.__init__" rR ["self","many"]
 Cq:bD K a.b9 "goes" "Row.goes" dE ["self","at"]
 yH:bD K a.b9 "height" "Grow.height" nG ["self","high"]
 AZ:bD K a.b9 "keeps" "Row.keeps" eW ["self","places","high"]
 Cr:bD K a.b9 "runs" "Grow.runs" rA ["self","at","boxes","pile"]
 fu:eg K a.bz
 yF:aX K a.bz "many"
 IQ:n_ K a.bz "Shrink.__init__" nO ["self","many"]
 yx:bD K a.bz "goes" "Row.goes" dE ["self","at"]
 uP:bD K a.bz "height" "Shrink.height" kR ["self","high"]
 vQ:bD K a.bz "keeps" "Shrink.keeps" lK ["self","places","high"]
 yp:bD K a.bz "runs" "Shrink.runs" nH ["self","at","boxes","pile"]
 iz:eg K a.a8
 EW:aX K a.a8 "box"
 Of:n_ K a.a8 "Back.__init__" rz ["self","box"]
 BU:bD K a.a8 "goes" "Back.goes" rZ ["self","at"]
 yI:bD K a.a8 "height" "Row.height" cU ["self","high"]
 zu:bD K a.a8 "keeps" "Row.keeps" eW ["self","places","high"]
 CI:bD K a.a8 "runs" "Back.runs" rj ["self","at","boxes","pile"]
 gc:eg K a.a9
 EG:aX K a.a9 "box"
 MH:n_ K a.a9 "Drop.__init__" rH ["self","box"]
 B3:bD K a.a9 "goes" "Drop.goes" sj ["self","at"]
 yz:bD K a.a9 "height" "Row.height" cU ["self","high"]
 zP:bD K a.a9 "keeps" "Row.keeps" eW ["self","places","high"]
 BO:bD K a.a9 "runs" "Drop.runs" rC ["self","at","boxes","pile"]
 cb:eg K a.aw
 vU:aX K a.aw "code"
 vq:aX K a.aw "table"
 w_:aX K a.aw "home"
 sS:aX K a.aw "coming"
 wD:aX K a.aw "held"
 uR:aX K a.aw "cells"
 vH:aX K a.aw "calls"
 qW:aX K a.aw "dropped"
 vc:aX K a.aw "state"
 Gu:∃ f fd dv,lg K dv "__init__" "Machine.__init__" lM f fd/\Mk K a.aw f/\Binds K fd ["self","code","table","boxes","start"] []/\Binds K fd ["self","code","table","boxes","start"] [dv]/\RelV (.int 0) dv
 Bp:bD K a.aw "at" "Machine.at" p9 ["self"]
 vf:bD K a.aw "boxes" "Machine.boxes" kN ["self"]
 Ap:bD K a.aw "do" "Machine.do" pF ["self","row"]
 wg:bD K a.aw "drop" "Machine.drop" mF ["self","value"]
 vD:bD K a.aw "fault" "Machine.fault" kr ["self"]
 tf:bD K a.aw "forget" "Machine.forget" jI ["self","many"]
 uW:bD K a.aw "go_on" "Machine.go_on" kI ["self","coming","boxes","pile"]
 wB:bD K a.aw "land" "Machine.land" l0 ["self","value","caller","looked_at"]
 wV:bD K a.aw "pile" "Machine.pile" mJ ["self"]
 vP:bD K a.aw "step" "Machine.step" mB ["self"]
 wQ:bD K a.aw "word" "Machine.word" lO ["self"]
 kq:bD K a.aw "word_ahead_of" "Machine.word_ahead_of" fF ["self","coming"]
 uG:oi K a.cP
 lB:dh K a.cP a.aV false
 kW:dh K a.cP a.a8 false
 rK:dh K a.cP a.a9 false
 qA:oi K a.bW
 jw:dh K a.bW a.aV false
 j7:dh K a.bW a.a8 false
 pA:dh K a.bW a.a9 false
 vt:oi K a.cH
 k7:dh K a.cH a.aV false
 lD:dh K a.cH a.a8 false
 qY:dh K a.cH a.a9 false
 qP:oi K a.b9
 jG:dh K a.b9 a.aV false
 jF:dh K a.b9 a.a8 false
 oK:dh K a.b9 a.a9 false
 ku:oi K a.bz
 ig:dh K a.bz a.aV false
 ik:dh K a.bz a.a8 false
 lS:dh K a.bz a.a9 false
 t8:oi K a.cQ
 lu:dh K a.cQ a.aV false
 kZ:dh K a.cQ a.a8 false
 rl:dh K a.cQ a.a9 false
 uO:oi K a.cO
 k9:dh K a.cO a.aV false
 k_:dh K a.cO a.a8 false
 rp:dh K a.cO a.a9 false
 qw:oi K a.b8
 js:dh K a.b8 a.aV false
 jS:dh K a.b8 a.a8 false
 qk:dh K a.b8 a.a9 false
 kC:oi K a.bp
 ir:dh K a.bp a.aV false
 hU:dh K a.bp a.a8 false
 lQ:dh K a.bp a.a9 false
 qJ:oi K a.aV
 jz:dh K a.aV a.aV true
 ke:dh K a.aV a.a8 false
 oZ:dh K a.aV a.a9 false
 qB:oi K a.a8
 jL:dh K a.a8 a.aV false
 jY:dh K a.a8 a.a8 true
 o7:dh K a.a8 a.a9 false
 ji:oi K a.a9
 jr:dh K a.a9 a.aV false
 jt:dh K a.a9 a.a8 false
 jZ:dh K a.a9 a.a9 true
 eP:W.specialIn K (.builtin "object.__class__") "__get__" = some (some (.builtin "getset_descriptor.__get__"))
 eU:W.takesIn K (.builtin "object.__class__")=some true
 iS:z8 K mg "NoTable" a.fh
 Pp:NS K a.fh
 Gm:∃ f fd,eC K "__init__" "Astray.__init__" oq f fd/\kU K mg "Astray" a.dO f/\Binds K fd ["self","row"] []
 xW:∃ f,kU K mg "Astray" a.dO f
 QV:NS K a.dO
 Fl:vV K a.dO "row"
 QM:aa_ K (.ref a.dO) "row" = some none
 QK:((W.clsIn K a.dO).any (·.hasDict))=true
 yP:JJ K mg "FrameError" a.oH
 Ph:acj K (.type "list") (.type "list")=some true
 Mi:acj K (.type "tuple") (.type "tuple")=some true
 PX:acj K (.type "int") (.type "bool")=some false
 EU:cI K mg "bounded" xQ ["number","top"]
 B5:cI K mg "with_box" ve ["boxes","box","value"]
 AX:cI K mg "box_place" rY ["box"]
 yR:cI K mg "cell_place" oS ["cell","high"]
 EH:cI K mg "without" xN ["places","place"]
 FU:cI K mg "filled" Ah ["places","place","source"]
 Ei:cI K mg "sets_of" xE ["entry"]
 ui:cI K mg "lowest_place" ma ["places"]
 Aa:cI K mg "looked_up" rN ["places","known","piece"]
 sM:cI K mg "newest_caller" kP ["entries","at","known","pile"]
 ET:cI K mg "callers" xj ["table","row","boxes","pile"]
 Dy:cI K mg "kept_of" xZ ["boxes"]
 Fo:cI K mg "is_row" Ba ["number","entries"]
 oN:cI K mg "has_wrong_place" ja ["entry"]
 we:cI K mg "may_go_back" nP ["row","entry"]
 sL:cI K mg "own_complaint" kO ["row","entry"]
 tE:cI K mg "way_complaint" kB ["row","entry","coming","entries"]
 oy:cI K mg "target_complaint" iJ ["row","entries"]
 zr:cI K mg "each_once" rq ["numbers"]
 qU:cI K mg "row_complaints" jy ["code","entries","at"]
 m_:cI K mg "landing_complaint" g9 ["code","entries","at","landing"]
 Er:cI K mg "checked" xA ["code","table"]
 EJ:cI K mg "ways_on" yg ["code","landings","at"]
 Jp:cI K mg "reach" Dd ["heights","waiting","at","high"]
 yL:cI K mg "heights_of" pN ["code","ways"]
 G6:cI K mg "narrow" Br ["sets","changed","at","places"]
 zH:cI K mg "places_of" rD ["code","ways","heights","first"]
 yw:cI K mg "entries_of" pV ["code","landings"]
 Jh:∃ f fd,fb K "guess" "guess" Dh f fd/\mg "guess" = some (.ref f)/\Binds K fd ["code","landings"] []/\Binds K fd ["code","landings"] [.none]
 xh:cI K mg "_law_cell_at" nK ["_law_script","_law_k"]
 zK:cI K mg "_law_value" rF ["_law_cell"]
 Dz:cI K mg "_law_row" xK ["_law_told"]
 Cf:cI K mg "_law_body" ue ["_law_cells","_law_saved","_law_spare","_law_at"]
 uw:cI K mg "_law_function" lH ["_law_cell","_law_cells","_law_at"]
 Cc:cI K mg "_law_code" um ["_law_script"]
 vT:cI K mg "_law_any_row" nU ["_law_cell","_law_many"]
 vJ:cI K mg "_law_any_code" mr ["_law_script"]
 BF:cI K mg "_law_table" rE ["_law_code_here","_law_landings"]
 wa:cI K mg "_law_landing" nI ["_law_calls","_law_landings"]
 wy:cI K mg "_law_as_then" nJ ["_law_machine","_law_told"]
 yy:cI K mg "_law_landed" qd ["_law_machine","_law_calls","_law_landings","_law_held","_law_box"]
 BW:cI K mg "_law_back" vx ["_law_machine","_law_calls","_law_home"]
 RW:cI K mg "law" gX ["_law_script"]
def lowP (p:Int):Int:=((abg (aaK p (-p)):Nat):Int) - 1
theorem Ge {n:Nat}(h : 0<n):aaK (n:Int) (-(n:Int))=((Bt.wo n (n - 1):Nat):Int):=by
 rw[show -(n:Int)=aav ((n - 1:Nat):Int) from by unfold aav;lia,gj]
theorem Jy (i:Nat):abg ((2 ^ i:Nat):Int)=i+1:=by
 have h1:abg ((2 ^ i:Nat):Int)<=i+1:=PySem.intBits_le_iff.mpr (by rw[acV];exact adC (by decide) (by lia));have h2 : ¬ abg ((2 ^ i:Nat):Int)<=i:=λz=>by
   have:=PySem.intBits_le_iff.mp z
   rw[acV] at this;exact absurd this (abS _)
 lia
theorem NP {n i:Nat}(h : 0<n)(e:Bt.wo n (n - 1)=2 ^ i):lowP (n:Int)=i:=by
 unfold lowP;rw[Ge h,e,Jy];lia
structure Ent where
 h:Int
 b:Int
 v4:Int
 v5:Int
 v6:Int
def Ent.dJ (e:Ent):List Int:=[e.b,e.v4,e.v5,e.v6]
def iG (K:W.Frag)(H:Hp)(p:Addr)(e:Ent):Prop:=∃ q,aJ K H p [.int e.h,.int e.b,.ref q]/\aJ K H q [.int e.v4,.int e.v5,.int e.v6]
variable {e:Ent} {p:Addr} {H H':Hp}
theorem iG.same {K:W.Frag}(h:iG K H p e)(s:ak H H'):iG K H' p e:=let ⟨q,h1,h2⟩:=h;⟨q,cK s h1,cK s h2⟩
def tG (K:W.Frag)(H:Hp)(v:V):Option Ent->Prop
 | none=>v=.aA
 | some e=>∃ p,v=.ref p/\iG K H p e
theorem tG.same {K:W.Frag}{v:V}{oe:Option Ent}(h:tG K H v oe)(s:ak H H'):tG K H' v oe:=by
 cases oe with
 | none=>exact h
 | some e=>obtain⟨p,e1,e2⟩:=h;exact⟨p,e1,e2.same s⟩
def dj (K:W.Frag)(H:Hp)(vs:List V)(es:List (Option Ent)):Prop:=vs.length=es.length/\∀ (i:Nat) (oe:Option Ent),es[i]? = some oe->∃ v,vs[i]? = some v/\tG K H v oe
variable {es:List (Option Ent)} {vs:List V}
theorem dj.same {K:W.Frag}(h:dj K H vs es)(s:ak H H'):dj K H' vs es :=
 ⟨h.1,λi oe e=>let ⟨v,e1,e2⟩:=h.2 i oe e;⟨v,e1,e2.same s⟩⟩
def fJ:Option Ent->PyData
 | none=>.none
 | some e=>.tuple [.int e.h,.int e.b,.tuple [.int e.v4,.int e.v5,.int e.v6]]
theorem tG.dp {K:W.Frag}{v:V}{oe:Option Ent}(h:tG K H v oe):Dp K H (fJ oe) v:=by
 cases oe with
 | none=>cases h;exact Di
 | some e =>
   obtain⟨p,rfl,q,h1,h2⟩:=h;exact gB h1 (aS (cE _) (aS (cE _) (aS (gB h2 (aS (cE _) (aS (cE _) (aS (cE _) cL)))) cL)))
theorem jg (e:Option Ent):shaped (fJ e)=true:=by cases e <;> rfl
structure bT where
 r:Int
 a:Int
 b:Int
 c:Int
 n:Int
def jC (H:Hp)(v:V)(c:bT):Prop:=∃ t q,v=.ref t/\H t=some (.tup [.int c.r,.ref q,.int c.n])/\H q=some (.tup [.int c.a,.int c.b,.int c.c])
variable {c:bT}
theorem jC.same {v:V}(h:jC H v c)(s:ak H H'):jC H' v c:=let ⟨t,q,e,h1,h2⟩:=h;⟨t,q,e,s _ _ h1,s _ _ h2⟩
def cA (H:Hp):List V->List bT->Prop
 | [],[]=>True
 | v::vs,c::cs=>jC H v c/\cA H vs cs
 | _,_=>False
theorem cA.same (s:ak H H'):∀ {vs:List V} {cs:List bT},cA H vs cs->cA H' vs cs
 | [],[],_=>aas
 | _::_,_::_,h=>⟨h.1.same s,cA.same s h.2⟩
 | [],_::_,h=>h.elim
 | _::_,[],h=>h.elim
theorem cA.snoc {v:V}(hv:jC H v c):∀ {vs:List V} {cs:List bT},cA H vs cs->cA H (vs++[v]) (cs++[c])
 | [],[],_=>⟨hv,aas⟩
 | _::_,_::_,h=>⟨h.1,cA.snoc hv h.2⟩
 | [],_::_,h=>h.elim
 | _::_,[],h=>h.elim
theorem cA.len:∀ {vs:List V} {cs:List bT},cA H vs cs->vs.length=cs.length
 | [],[],_=>rfl
 | _::_,_::_,h=>by rw[aaA,aaA,cA.len h.2]
 | [],_::_,h=>h.elim
 | _::_,[],h=>h.elim
variable {o:HO} {ys:List V}
theorem jC.upd {v:V}(hp:H p=some (.lst ys))(h:jC H v c):jC (upd H p o) v c:=by
 obtain⟨t,q,e,h1,h2⟩:=h;refine⟨t,q,e,?_,?_⟩
 . rw[ai (λz=>by subst z;rw[hp] at h1;cases h1)];exact h1
 . rw[ai (λz=>by subst z;rw[hp] at h2;cases h2)];exact h2
theorem cA.upd (hp:H p=some (.lst ys)):∀ {vs:List V} {cs:List bT},cA H vs cs->cA (upd H p o) vs cs
 | [],[],_=>aas
 | _::_,_::_,h=>⟨h.1.upd hp,cA.upd hp h.2⟩
 | [],_::_,h=>h.elim
 | _::_,[],h=>h.elim
variable {Z : L2.St} {xs:List V}
theorem Gx {K:W.Frag}{n:Nat}{t:xo}{Q:L2.St->Hp->Prop}(h:aJ K H p xs)(hl:xs.length=n)(q:t xs Z H Q):HW K n t (.ref p) Z H Q:=⟨p,xs,rfl,h,hl,q⟩
theorem wu {t:TG}{u:xo}{v:V}{r:List V}{Q:L2.St->Hp->Prop}(q:t v Z H λZ' H'=>u r Z' H' Q):Kh t u (v::r) Z H Q:=⟨v,r,rfl,q⟩
theorem zW {Q:L2.St->Hp->Prop}(q:Q Z H):MK [] Z H Q:=⟨rfl,q⟩
theorem M9:aaY "dict" = some (.type "dict"):=by nofun
def fU (l d:Addr):List (Str×V):=av "landings" (.ref d) (av "entries" (.ref l) [])
def yW (K:W.Frag)(C:Addr):Sp:=λvs H Q _=>∃ (x dx pe:Addr) (lv:V) (xs:List V) (kvs:List (Key×V)),vs=[.ref x,.ref pe,lv]/\H x=some (.ins C dx [])/\aq K H pe xs /\
 ((lv=.aA/\kvs=[])∨∃ pd,lv=.ref pd/\H pd=some (.dK kvs)) /\
 ∀ l d H',H l=none->H d=none->l≠d->(∀ b o,H b=some o->b≠x->H' b=some o)->H' x=some (.ins C dx (fU l d))->H' l=some (.lst xs)->H' d=some (.dK kvs)->Q .aA H'
def Oj (K:W.Frag):Sp:=λvs H Q _=>∃ (p:Addr) (e:Ent),vs=[.ref p]/\iG K H p e/\∀ t,H t=none->Q (.ref t) (upd H t (.tup (e.dJ.map V.int)))
def Kl:Sp:=λvs H Q _=>∃ i:Int,vs=[.int i]/\Q (.int (lowP i)) H
variable {E:XK} {Q:VK} {i:Int}
theorem Kw (q:Q (.int (lowP i)) H):Kl [.int i] H Q E:=⟨i,rfl,q⟩
def br (s:Int)(kn:List V)(pc:List Int):V:=if s<=0 then .aA else if lowP s<8 then kn.getD (lowP s).toNat .aA else if lowP s - 8<pc.length then .int (gI pc (lowP s - 8)) else .aA
def FZ (K:W.Frag):Sp:=λvs H Q _=>∃ (s:Int) (pk pp:Addr) (kn:List V) (pc:List Int),vs=[.int s,.ref pk,.ref pp]/\aq K H pk kn/\kn.length=8/\aq K H pp (pc.map V.int)/\(0<s->0<=lowP s)/\Q (br s kn pc) H
variable {pc:List Int} {pk:Addr} {s:Int}
theorem Mo {K:W.Frag}{pp:Addr}{kn:List V}(h1:aq K H pk kn)(h8:kn.length=8)(h2:aq K H pp (pc.map V.int))(h0 : 0<s->0<=lowP s)(q:Q (br s kn pc) H):FZ K [.int s,.ref pk,.ref pp] H Q E:=⟨s,pk,pp,kn,pc,rfl,h1,h8,h2,h0,q⟩
def ib (c:bT):List V:=[.aA,.aA,.aA,.aA,.int c.a,.int c.b,.int c.c,.aA]
theorem Fw (xs:List Int){k:Int}(h0 : 0<=k)(h1:k<=xs.length):cu xs (some k) none=xs.drop k.toNat:=by
 unfold cu;have e2:HT.ba xs.length 0 (some k)=k.toNat:=by
   show(if k<0 then _ else _)=_;rw[if_neg (by lia)];lia
 have e3:HT.ba xs.length xs.length none=xs.length:=rfl;rw[e2,e3,adg (by rw[aaZ];exact aah _)]
theorem Ib {kn:List V}(h : 0<s)(h0 : 0<=lowP s)(h1:lowP s<8)(h8:kn.length=8):b_ kn (lowP s)=some (br s kn pc):=by
 unfold br;rw[if_neg (by lia),if_pos h1];have e:lowP s=(((lowP s).toNat:Nat):Int):=by lia
 rw[e];exact bw (by rw[aaE,aar,aaa (by lia)];rfl)
theorem Jz:aaY "sorted" = some (.builtin "sorted"):=by nofun
def kM (a b:Option Ent):Bool:=ach (fJ a) (fJ b)
theorem Fj {a b:Option Ent}(h:kM a b=true):a=b:=by
 cases a with
 | none=>cases b with
   | none=>rfl
   | some e=>simp[kM,fJ,ach] at h
 | some e=>cases b with
   | none=>simp[kM,fJ,ach] at h
   | some f =>
     obtain⟨h1,h2,h3,h4,h5⟩:=e;obtain⟨g1,g2,g3,g4,g5⟩:=f;simp[kM,fJ,ach,PyData.eqvAll] at h;obtain⟨rfl,rfl,rfl,rfl,rfl⟩:=h;rfl
def Rw.here:Rw->Prop
 | .set ..=>True
 | .copy ..=>True
 | .add ..=>True
 | .sub ..=>False
 | .mul ..=>False
 | .less ..=>False
 | .grow ..=>True
 | .shrink ..=>True
 | .put ..=>True
 | .get ..=>True
 | .dA ..=>True
 | .branch ..=>True
 | .call ..=>True
 | .back ..=>True
 | .drop ..=>True
def Rw.isCall:Rw->Bool
 | .call _=>true
 | _=>false
def Rw.eu:Rw->Bool
 | .back _=>true
 | _=>false
def Rw.d6:Rw->Bool
 | .drop _=>true
 | _=>false
def bH (a:bE)(H:Hp)(prs:List Addr)(rs:List Rw):Prop:=prs.length=rs.length/\∀ (i:Nat) (p:Addr) (r:Rw),prs[i]? = some p->rs[i]? = some r->bA a H p r
variable {rs:List Rw} {prs:List Addr}
theorem bH.to {a:bE}(h:bH a H prs rs)(k:∀ p∈prs,∀ o,H p=some o->H' p=some o):bH a H' prs rs :=
 ⟨h.1,λi p r e1 e2=>let ⟨dx,e⟩:=h.2 i p r e1 e2;⟨dx,k p (aaj e1) _ e⟩⟩
theorem bH.same {a:bE}(h:bH a H prs rs)(s:ak H H'):bH a H' prs rs:=h.to λ_ _ _ e=>s _ _ e
theorem bH.nil {a:bE}:bH a H [] []:=⟨rfl,λi p r e=>by simp at e⟩
variable {r:Rw}
theorem bH.snoc {a:bE}(h:bH a H prs rs)(q:bA a H p r):bH a H (prs++[p]) (rs++[r]):=by
 refine⟨by rw[aab,aab,h.1];rfl,λi p' r' e1 e2=>?_⟩;by_cases hi:i<rs.length
 . rw[aao (by rw[h.1]; exact hi)] at e1;rw[aao hi] at e2;exact h.2 i p' r' e1 e2
 . have UU : i = rs.length := by
     have:=(List.getElem?_eq_some_iff.mp e2).1
     rw[aab] at this;simp at this;lia
   subst UU;rw[aaq (by lia)] at e2;rw[aaq (by rw[h.1];lia),h.1] at e1;simp at e1 e2;subst e1 e2;exact q
theorem bH.mem {a:bE}(h:bH a H prs rs)(hp:p∈prs):∃ r,r∈rs/\bA a H p r:=by
 obtain⟨i,hi,e⟩:=List.mem_iff_getElem.mp hp;have e1:prs[i]? = some p:=by rw[aaa hi,e]
 have hi2:i<rs.length:=by rw[<- h.1];exact hi
 exact⟨rs[i],aaV hi2,h.2 i p _ e1 (aaa hi2)⟩
def au (l:List (Int×Int)):List (Key×V):=l.map λp=>((Sum.inl p.1:Key),V.int p.2)
theorem AY {l:List (Int×Int)}{c r:Int}(h:b3 (au l) (.inl c)=none):putK (au l) (.inl c) (.int r)=au (l++[(c,r)]):=by
 rw[Io _ h];unfold au;rw[aaF];rfl
def lv (ls:List (Int×Int))(k:Int):Int:=((ls.find? λp=>decide (p.1=k)).map (·.2)).getD 0
theorem hZ:∀ {ls:List (Int×Int)},(ls.map (·.1)).Nodup->∀ p∈ls,b3 (au ls) (.inl p.1)=some (.int p.2)/\lv ls p.1=p.2
 | [],_,_,h=>nomatch h
 | (c, r) :: ls, hn, p, hp => by
   rw[aaN,List.nodup_cons] at hn;rcases List.mem_cons.mp hp with rfl | hp
   . refine⟨?_,?_⟩
     . show b3 ((Sum.inl c, V.int r) :: au ls) (.inl c) = _;rw[m5 rfl]
     . unfold lv;rw[aby,decide_eq_true rfl];rfl
   . have ne : ¬ c = p.1 := λz => hn.1 (List.mem_map.mpr ⟨p, hp, z.symm⟩);obtain ⟨i1,i2⟩:=hZ hn.2 p hp;refine ⟨?_,?_⟩
     . show b3 ((Sum.inl c, V.int r) :: au ls) (.inl p.1) = _;rw[j9 (λz=>ne (ac0 z))];exact i1
     . unfold lv at i2 ⊢;rw[aby,decide_eq_false ne];exact i2
theorem iN:∀ {ls:List (Int×Int)} {c:Int},c ∉ ls.map (·.1)->b3 (au ls) (.inl c)=none
 | [],_,_=>rfl
 | (d, r) :: ls, c, h => by
   rw[aaN,aaQ,not_or] at h;show b3 ((Sum.inl d,V.int r)::au ls) (.inl c)=_;rw[j9 (λz=>h.1 (ac0 z).symm)];exact iN h.2
theorem G_ (ls:List (Int×Int)):(au ls).map (·.1)=(ls.map (·.1)).map Sum.inl:=by
 unfold au;rw[aba,aba];rfl
theorem PH:aaY "any" = some (.builtin "any"):=by nofun
inductive Wt where
 | place | aB | back | row | aA | start | call | length | b4 | b5 | b6
def Wt.v:Wt->V
 | .place=>.str "place" | .aB=>.str "height" | .back=>.str "back" | .row=>.str "row" | .aA=>.str "none" | .start=>.str "start" | .call=>.str "call" | .length=>.str "length"
 | .b4=>.int 4 | .b5=>.int 5 | .b6=>.int 6
def oV:Option Wt->V
 | none=>.aA
 | some w=>w.v
def mj:Option Ent:=some ⟨0,128,16,32,64⟩
def jX (h s:Int):Bool:=decide (s<=0) || !decide (s/2 ^ (8+h).toNat=0)
def dz (e:Ent):Bool:=decide (e.h<0) || (decide (4000<e.h) || e.dJ.any (jX e.h))
def jv (b:Int)(e:Ent):Bool:=decide (e.h=0) && ((aaK e.b ((2 ^ b.toNat:Nat):Int) != 0) && ((aaK e.v4 16 != 0) && ((aaK e.v5 32 != 0) && (aaK e.v6 64 != 0))))
def d9 (r:Rw)(e:Ent):Option Wt:=if dz e=true then some .place else if r.aB e.h=none then some .aB else match r with | .back b=>if jv b e=true then none else some .back | _=>none
def mY (r:Rw)(e t:Ent):Option Wt:=if Bt.wo t.b.toNat (r.keep e.b.toNat e.h)≠0 then some .back else if Bt.wo t.v4.toNat (r.keep e.v4.toNat e.h)≠0 then some .b4 else if Bt.wo t.v5.toNat (r.keep e.v5.toNat e.h)≠0 then some .b5 else if Bt.wo t.v6.toNat (r.keep e.v6.toNat e.h)≠0 then some .b6 else none
def fg (r:Rw)(e:Ent)(c:Int)(es:List (Option Ent)):Option Wt:=if 0<=c/\c<es.length then (match es[c.toNat]?.join with | none=>some .aA | some t=>if r.aB e.h=some t.h then mY r e t else some .aB) else some .row
def eI (t:Int)(es:List (Option Ent)):Option Wt:=if 0<=t/\t<es.length then (if kM (es[t.toNat]?.join) mj=true then none else some .start) else some .row
def Ent.nn (e:Ent):Prop:=0<=e.b/\0<=e.v4/\0<=e.v5/\0<=e.v6
def LQ (K:W.Frag):Sp:=λvs H Q _=>∃ (n:Int) (p:Addr) (us:List V),vs=[.int n,.ref p]/\aq K H p us/\Q (.bl (decide (0<=n/\n<us.length))) H
def LP (K:W.Frag):Sp:=λvs H Q _=>∃ (p:Addr) (e:Ent),vs=[.ref p]/\iG K H p e/\∀ H',ak H H'->Q (.bl (dz e)) H'
def MG (K:W.Frag)(a:bE):Sp:=λvs H Q _=>∃ (x p:Addr) (b:Int) (e:Ent),vs=[.ref x,.ref p]/\bA a H x (.back b)/\0<=b/\b<=7/\iG K H p e/\∀ H',ak H H'->Q (.bl (jv b e)) H'
def NR (K:W.Frag)(a:bE):Sp:=λvs H Q _=>∃ (x p:Addr) (r:Rw) (e:Ent),vs=[.ref x,.ref p]/\bA a H x r/\r.ok/\r.here/\iG K H p e/\∀ H',ak H H'->Q (oV (d9 r e)) H'
def OL (K:W.Frag)(a:bE):Sp:=λvs H Q _=>∃ (x p l:Addr) (c:Int) (r:Rw) (e:Ent) (ev:List V) (es:List (Option Ent)),vs=[.ref x,.ref p,.int c,.ref l]/\bA a H x r/\r.ok/\r.here/\iG K H p e/\e.nn/\0<=e.h/\e.h<=4000/\(r.aB e.h).isSome=true/\H l=some (.lst ev)/\dj K H ev es/\(∀ t,some t∈es->t.nn)/\∀ H',ak H H'->Q (oV (fg r e c es)) H'
def Pc (K:W.Frag)(a:bE):Sp:=λvs H Q _=>∃ (x l:Addr) (t:Int) (ev:List V) (es:List (Option Ent)),vs=[.ref x,.ref l]/\bA a H x (.call t)/\H l=some (.lst ev)/\dj K H ev es/\∀ H',ak H H'->Q (oV (eI t es)) H'
def once (ns:List Int):List Int:=ns.foldl (λt n=>if n∈t then t else t++[n]) []
def Ny (K:W.Frag):Sp:=λvs H Q _=>∃ (p:Addr) (ns:List Int),vs=[.ref p]/\aq K H p (ns.map V.int)/\ns.length<=4000/\∀ q H',ak H H'->H' q=some (.lst ((once ns).map V.int))->Q (.ref q) H'
theorem Hh (ns:List Int):(ns.map V.int).all dX=true:=by rw[List.all_map];exact List.all_eq_true.mpr λ_ _=>rfl
theorem IU (n:Int)(ns:List Int):eF (.int n) (ns.map V.int)=decide (n∈ns):=by
 unfold eF;rw[List.any_map]
 induction ns with
 | nil=>rfl
 | cons p ps ih =>
   rw[abt,ih];show(p_ (.int p) (.int n) || _)=_;by_cases e:n=p
   . subst e;simp[p_]
   . have : ¬ p = n := λz => e z.symm;simp[p_,e,this]
theorem dj.at {K:W.Frag}{c:Int}(h:dj K H vs es)(h0 : 0<=c)(h1:c<es.length):∃ v oe,b_ vs c=some v/\es[c.toNat]? = some oe/\oe∈es/\tG K H v oe:=by
 have hi:c.toNat<es.length:=by omega
 obtain⟨v,e1,e2⟩:=h.2 c.toNat _ (aaa hi);exact⟨v,_,by rw[show c=((c.toNat:Nat):Int) from by omega];exact bw e1,aaa hi,aaV hi,e2⟩
theorem zC {K:W.Frag}{s q:Addr}(h1:aJ K H s [.int 0,.int 128,.ref q])(h2:aJ K H q [.int 16,.int 32,.int 64]):Dp K H (fJ mj) (.ref s):=gB h1 (aS (cE _) (aS (cE _) (aS (gB h2 (aS (cE _) (aS (cE _) (aS (cE _) cL)))) cL)))
theorem Qm {K:W.Frag}{x y:V}(a b:Option Ent)(hx:Dp K H (fJ a) x)(hy:Dp K H (fJ b) y)(q:Q (.bl (kM a b)) H):fT K x y H Q:=.inr ⟨fJ a,fJ b,hx,hy,jg a,jg b,q⟩
theorem Qv {K:W.Frag}{x y:V}(a b:Option Ent)(hx:Dp K H (fJ a) x)(hy:Dp K H (fJ b) y)(q:Q (.bl (!kM a b)) H):e_ K x y H Q:=.inr ⟨fJ a,fJ b,hx,hy,jg a,jg b,q⟩
theorem O9 {w:Wt}(q:Q (.bl true) H):kK w.v .aA H Q:=⟨rfl,by rw[decide_eq_false (λz=>by cases w <;> cases z)];exact q⟩
structure Cm where
 i:Int
 at_:Int
 w:Wt
def G2 (H:Hp)(v:V)(c:Cm):Prop:=∃ q,v=.ref q/\H q=some (.tup [.int c.i,.int c.at_,c.w.v])
def cp (H:Hp)(vs:List V)(cs:List Cm):Prop:=vs.length=cs.length/\∀ (i:Nat) (c:Cm),cs[i]? = some c->∃ v,vs[i]? = some v/\G2 H v c
theorem G2.same {v:V}{c:Cm}(h:G2 H v c)(s:ak H H'):G2 H' v c:=let ⟨q,e,k⟩:=h;⟨q,e,s _ _ k⟩
theorem cp.same {cs:List Cm}(h:cp H vs cs)(s:ak H H'):cp H' vs cs:=⟨h.1,λi c e=>let ⟨v,e1,e2⟩:=h.2 i c e;⟨v,e1,e2.same s⟩⟩
theorem cp.nil:cp H [] []:=⟨rfl,λi c e=>by simp at e⟩
variable {us:List V}
theorem cp.app {cs ds:List Cm}(h:cp H vs cs)(k:cp H us ds):cp H (vs++us) (cs++ds):=by
 refine⟨by rw[aab,aab,h.1,k.1],λi o e=>?_⟩;by_cases hi:i<cs.length
 . rw[aao hi] at e;obtain⟨u,e1,e2⟩:=h.2 i o e;exact⟨u,by rw[aao (by rw[h.1];exact hi)];exact e1,e2⟩
 . rw[aaq (by lia)] at e;obtain⟨u,e1,e2⟩:=k.2 _ o e;exact⟨u,by rw[aaq (by rw[h.1];lia),h.1];exact e1,e2⟩
theorem cp.one {v:V}{c:Cm}(h:G2 H v c):cp H [v] [c]:=⟨rfl,λi c' e=>by
 cases i with
 | zero=>simp at e;subst e;exact⟨v,rfl,h⟩
 | succ i=>simp at e⟩
def tJ (r:Rw)(i:Int)(es:List (Option Ent)):List Cm:=match r with | .call t=>((eI t es).map λw=>Cm.mk i t w).toList | _=>[]
def qj (r:Rw)(e:Ent)(i:Int)(es:List (Option Ent)):List Cm:=match d9 r e with
 | some w=>[⟨i,i,w⟩]
 | none=>((once (r.du i)).filterMap λc=>(fg r e c es).map λw=>Cm.mk i c w)++tJ r i es
def ni (rs:List Rw)(es:List (Option Ent))(i:Nat):List Cm:=match rs[i]?,es[i]?.join with
 | some r,some e=>qj r e i es
 | _,_=>[]
def yY (r:Rw)(oe:Option Ent)(at_:Int)(es:List (Option Ent)):Option Wt:=if r.isCall=true then (match oe with | none=>none | some e=>if (d9 r e).isSome=true then none else fg r e at_ es) else some .call
def m6 (rs:List Rw)(es:List (Option Ent))(i at_:Int):Option Wt :=
 if 0<=i/\i<es.length then (match rs[i.toNat]?,es[i.toNat]?.join with
   | some r,oe=>yY r oe at_ es
   | none,_=>some .call) else some .call
structure IH (rs:List Rw)(es:List (Option Ent)):Prop where
 ok:∀ r∈rs,r.ok/\r.here
 nn:∀ t,some t∈es->t.nn
 nr:rs.length<=2000
 ne:es.length<=2000
def MN (K:W.Frag)(a:bE):Sp:=λvs H Q _=>∃ (c l:Addr) (i:Nat) (prs:List Addr) (rs:List Rw) (ev:List V) (es:List (Option Ent)),vs=[.ref c,.ref l,.int (i:Int)]/\H c=some (.lst (prs.map V.ref))/\bH a H prs rs/\H l=some (.lst ev)/\dj K H ev es/\IH rs es/\i<rs.length/\rs.length=es.length /\
 ∀ p us H',ak H H'->H' p=some (.lst us)->cp H' us (ni rs es i)->H p=none->Q (.ref p) H'
def LR (K:W.Frag)(a:bE):Sp:=λvs H Q _=>∃ (c l:Addr) (i z:Int) (prs:List Addr) (rs:List Rw) (ev:List V) (es:List (Option Ent)),vs=[.ref c,.ref l,.int i,.int z]/\H c=some (.lst (prs.map V.ref))/\bH a H prs rs/\H l=some (.lst ev)/\dj K H ev es/\IH rs es/\rs.length=es.length /\
 ∀ H',ak H H'->Q (oV (m6 rs es i z)) H'
def dM (rs:List Rw)(es:List (Option Ent)):List Cm:=if 0<rs.length then (if kM (es[0]?.join) mj=true then [] else [⟨-1,0,.start⟩]) else []
def jR (rs:List Rw)(es:List (Option Ent))(ls:List (Int×Int))(ks:List Int):List Cm:=ks.flatMap λk=>((m6 rs es k (lv ls k)).map λw=>Cm.mk k (lv ls k) w).toList
def gv (rs:List Rw)(es:List (Option Ent))(n:Nat):List Cm:=(ab7 n).flatMap λi=>ni rs es i
def dH (rs:List Rw)(es:List (Option Ent))(ls:List (Int×Int))(ks:List Int):List Cm :=
 if es.length=rs.length then dM rs es++gv rs es rs.length++jR rs es ls ks else [⟨-1,-1,.length⟩]
theorem qZ (rs:List Rw)(es:List (Option Ent))(n:Nat):gv rs es (n+1)=gv rs es n++ni rs es n:=by
 unfold gv;rw[List.range_succ,List.flatMap_append];simp
theorem Ir (r:Rw)(e:Ent)(i:Int)(es:List (Option Ent)):(qj r e i es).length<=10:=by
 unfold qj;split
 . exact aa2 rfl
 . rw[aab];have h1:=List.length_filterMap_le (λc=>(fg r e c es).map λw=>Cm.mk i c w) (once (r.du i));have h2:(once (r.du i)).length<=9:=by
     cases r <;> simp[Rw.du,once]
     split <;> simp
   have h3:(tJ r i es).length<=1:=by
     unfold tJ;split
     . cases eI _ es <;> exact aa2 rfl
     . exact aaX _
   lia
theorem x9 (rs:List Rw)(es:List (Option Ent))(i:Nat):(ni rs es i).length<=10:=by
 unfold ni;split
 . exact Ir _ _ _ _
 . exact aaX _
theorem nu (rs:List Rw)(es:List (Option Ent)):∀ n,(gv rs es n).length<=10*n
 | 0=>aah _
 | n + 1 => by
   rw[qZ,aab]
   have:=nu rs es n
   have:=x9 rs es n
   lia
theorem D4 (rs:List Rw)(es:List (Option Ent)):(dM rs es).length<=1:=by
 unfold dM;split
 . split <;> exact aa2 rfl
 . exact aaX _
def TabOf (K:W.Frag)(a:bE)(H:Hp)(t:Addr)(ev:List V)(ls:List (Int×Int)):Prop:=∃ dt l d,H t=some (.ins a.bZ dt (fU l d))/\H l=some (.lst ev)/\H d=some (.dK (au ls))
def wX (K:W.Frag)(a:bE):Sp:=λvs H Q _=>∃ (c t:Addr) (prs:List Addr) (rs:List Rw) (ev:List V) (es:List (Option Ent)) (ls:List (Int×Int)),vs=[.ref c,.ref t]/\H c=some (.lst (prs.map V.ref))/\bH a H prs rs/\TabOf K a H t ev ls/\dj K H ev es/\IH rs es/\(ls.map (·.1)).Nodup/\ls.length<64 /\
 ∀ p us ks H',ak H H'->H' p=some (.lst us)->(es.length=rs.length->ks.Perm (ls.map (·.1))/\ks.Pairwise (· <= ·))->cp H' us (dH rs es ls ks)->Q (.ref p) H'
theorem wb {r r':R2}{ta tb tc:TE}(h:ta Z H λx H1=>tb Z H1 λy H2=>r x y H2 λz H3=>∃ k,z=.bl k/\(if k then tc Z H3 λu H4=>r' y u H4 Q else Q (.bl false) H3)):BB r r' ta tb tc Z H Q:=h
theorem FG (h : 0<s) : 0<=lowP s:=by
 obtain⟨n,rfl⟩:∃ n:Nat,s=(n:Int):=⟨s.toNat,by omega⟩
 have hn : 0<n:=by omega
 unfold lowP;rw[Ge hn];have hw : 0<Bt.wo n (n - 1):=by
   unfold Bt.wo
   have:=adf (n:=n) (m:=n - 1)
   omega
 have : ¬ abg ((Bt.wo n (n - 1):Nat):Int)<=0:=λz=>by
   have:=PySem.intBits_le_iff.mp z
   rw[acV] at this;omega
 omega
def near (i:Int):Prop:=-(2 ^ 61)<=i/\i<2 ^ 61
def oE (v:V):Prop:=v=.aA∨∃ i,v=.int i/\near i
def tN (kn:List V):Prop:=kn.length=8/\∀ v∈kn,oE v
def fR (pl:List Int):Prop:=∀ i∈pl,near i
theorem fR.take {pl:List Int}(h:fR pl)(n:Nat):fR (pl.take n):=λi hi=>h i (abT hi)
theorem fR.drop {pl:List Int}(h:fR pl)(n:Nat):fR (pl.drop n):=λi hi=>h i (adv hi)
theorem gb {kn:List V}(hk:tN kn)(hp:fR pc):oE (br s kn pc):=by
 unfold br;split
 . exact .inl rfl
 . rename_i hs;split
   . rename_i hl;have h0:=FG (s:=s) (by omega);rw[aar,aaa (by rw[hk.1];omega)];exact hk.2 _ (aaV _)
   . rename_i hl;split
     . rename_i hc;refine .inr ⟨_,rfl,?_⟩;unfold gI;rw[aar,aaa (by omega)];exact hp _ (aaV _)
     . exact .inl rfl
def vi:V->Option Int
 | .int i=>some i
 | _=>none
def gM (e:Ent)(kn:List V)(pl:List Int):Option bT :=
 match vi (br e.b kn (pl.drop ((pl.length:Int) - e.h).toNat)),vi (br e.v4 kn (pl.drop ((pl.length:Int) - e.h).toNat)),vi (br e.v5 kn (pl.drop ((pl.length:Int) - e.h).toNat)),vi (br e.v6 kn (pl.drop ((pl.length:Int) - e.h).toNat)) with
 | some r,some a,some b,some c=>some ⟨r,a,b,c,(pl.length:Int) - e.h⟩
 | _,_,_,_=>none
def Gd (oe:Option Ent)(kn:List V)(pl:List Int):Option bT:=match oe with
 | none=>none
 | some e=>if 0<=e.h/\e.h<=pl.length then gM e kn pl else none
def ee (es:List (Option Ent))(at':Int)(kn:List V)(pl:List Int):Option bT :=
 if 0<=at'/\at'<es.length then Gd (es.getD at'.toNat none) kn pl else none
def bg (es:List (Option Ent)):Nat->Int->List V->List Int->List bT×Option Int
 | 0,at',_,_=>([],if at'=es.length then none else some at')
 | f + 1, at', kn, pl => if at' = es.length then ([], none) else match ee es at' kn pl with
   | none=>([],some at')
   | some c=>(c::(bg es f c.r (ib c) (pl.take c.n.toNat)).1,(bg es f c.r (ib c) (pl.take c.n.toNat)).2)
variable {at':Int} {f:Nat}
theorem x8 {kn:List V}{pl:List Int}(h:at'=es.length):bg es f at' kn pl=([],none):=by
 cases f with
 | zero=>unfold bg;rw[if_pos h]
 | succ f=>unfold bg;rw[if_pos h]
theorem xP {kn:List V}{pl:List Int}(h:at'≠es.length)(hs:f=0∨ee es at' kn pl=none):bg es f at' kn pl=([],some at'):=by
 cases f with
 | zero=>unfold bg;rw[if_neg h]
 | succ f =>
   unfold bg;rw[if_neg h];rcases hs with hs | hs
   . cases hs
   . rw[hs]
theorem ye {f:Nat}{kn:List V}{pl:List Int}(h:at'≠es.length)(hs:ee es at' kn pl=some c) :
   bg es (f+1) at' kn pl=(c::(bg es f c.r (ib c) (pl.take c.n.toNat)).1,(bg es f c.r (ib c) (pl.take c.n.toNat)).2):=by
 rw[bg,if_neg h,hs]
theorem CU {v1 v2 v3 v4:V}(h1:oE v1)(h2:oE v2)(h3:oE v3)(h4:oE v4):(eF .aA [v1,v2,v3,v4]=true/\(vi v1=none∨vi v2=none∨vi v3=none∨vi v4=none)) ∨
   (eF .aA [v1,v2,v3,v4]=false/\∃ r a b c,v1=.int r/\v2=.int a/\v3=.int b/\v4=.int c/\near r/\near a/\near b/\near c):=by
 rcases h1 with rfl | ⟨r,rfl,n1⟩
 . exact .inl ⟨rfl,.inl rfl⟩
 rcases h2 with rfl | ⟨a,rfl,n2⟩
 . exact .inl ⟨rfl,.inr (.inl rfl)⟩
 rcases h3 with rfl | ⟨b,rfl,n3⟩
 . exact .inl ⟨rfl,.inr (.inr (.inl rfl))⟩
 rcases h4 with rfl | ⟨c,rfl,n4⟩
 . exact .inl ⟨rfl,.inr (.inr (.inr rfl))⟩
 exact .inr ⟨rfl,r,a,b,c,rfl,rfl,rfl,rfl,n1,n2,n3,n4⟩
theorem Fq {v1 v2 v3 v4:V}(h1:oE v1)(h2:oE v2)(h3:oE v3)(h4:oE v4) : [v1,v2,v3,v4].all dX=true:=by
 have f:∀ {v:V},oE v->dX v=true:=λh=>by rcases h with rfl | ⟨i,rfl,_⟩ <;> rfl
 simp[f h1,f h2,f h3,f h4]
theorem AO {kn:List V}{pl:List Int}(h:vi (br e.b kn (pl.drop ((pl.length:Int) - e.h).toNat))=none∨vi (br e.v4 kn (pl.drop ((pl.length:Int) - e.h).toNat))=none∨vi (br e.v5 kn (pl.drop ((pl.length:Int) - e.h).toNat))=none∨vi (br e.v6 kn (pl.drop ((pl.length:Int) - e.h).toNat))=none):gM e kn pl=none:=by
 unfold gM;rcases h with h | h | h | h <;> rw[h]
 . cases vi (br e.b kn (pl.drop ((pl.length:Int) - e.h).toNat)) <;> rfl
 . cases vi (br e.b kn (pl.drop ((pl.length:Int) - e.h).toNat)) <;> cases vi (br e.v4 kn (pl.drop ((pl.length:Int) - e.h).toNat)) <;> rfl
 . cases vi (br e.b kn (pl.drop ((pl.length:Int) - e.h).toNat)) <;> cases vi (br e.v4 kn (pl.drop ((pl.length:Int) - e.h).toNat)) <;> cases vi (br e.v5 kn (pl.drop ((pl.length:Int) - e.h).toNat)) <;> rfl
variable {b:Int}
theorem AI {kn:List V}{pl:List Int}{r a c:Int}(h1:br e.b kn (pl.drop ((pl.length:Int) - e.h).toNat)=.int r)(h2:br e.v4 kn (pl.drop ((pl.length:Int) - e.h).toNat)=.int a)(h3:br e.v5 kn (pl.drop ((pl.length:Int) - e.h).toNat)=.int b)(h4:br e.v6 kn (pl.drop ((pl.length:Int) - e.h).toNat)=.int c) :
   gM e kn pl=some ⟨r,a,b,c,(pl.length:Int) - e.h⟩:=by
 unfold gM;rw[h1,h2,h3,h4];rfl
theorem L_ {kn:List V}{pl:List Int}(hk:tN kn)(hp:fR pl)(h:ee es at' kn pl=some c):near c.r/\tN (ib c)/\0<=c.n/\c.n<=pl.length:=by
 unfold ee at h;split at h
 . unfold Gd at h;split at h
   . cases h
   . rename_i e _;split at h
     . rename_i hh;rcases CU (gb (s:=e.b) hk (hp.drop ((pl.length:Int) - e.h).toNat)) (gb (s:=e.v4) hk (hp.drop ((pl.length:Int) - e.h).toNat)) (gb (s:=e.v5) hk (hp.drop ((pl.length:Int) - e.h).toNat)) (gb (s:=e.v6) hk (hp.drop ((pl.length:Int) - e.h).toNat)) with ⟨_,z⟩ | ⟨_,r,a,b,c',h1,h2,h3,h4,n1,n2,n3,n4⟩
       . rw[AO z] at h;cases h
       . rw[AI h1 h2 h3 h4] at h;cases h
         refine⟨n1,⟨rfl,λv hv=>?_⟩,(show 0<=(pl.length:Int) - e.h by lia),(show(pl.length:Int) - e.h<=pl.length by lia)⟩;simp only[ib,aaQ,aaR,or_false] at hv;rcases hv with rfl | rfl | rfl | rfl | rfl | rfl | rfl | rfl
         . exact .inl rfl
         . exact .inl rfl
         . exact .inl rfl
         . exact .inl rfl
         . exact .inr ⟨_,rfl,n2⟩
         . exact .inr ⟨_,rfl,n3⟩
         . exact .inr ⟨_,rfl,n4⟩
         . exact .inl rfl
     . cases h
 . cases h
theorem L1 (r:List bT×Option Int):r=([]++r.1,r.2):=by cases r;rfl
theorem G5 {kn:List V}{pl:List Int}{ds:List bT}{r:List bT×Option Int}(h:at'≠es.length)(hs:ee es at' kn pl=some c)(hw:r=(ds++(bg es (f+1) at' kn pl).1,(bg es (f+1) at' kn pl).2)) :
   r=((ds++[c])++(bg es f c.r (ib c) (pl.take c.n.toNat)).1,(bg es f c.r (ib c) (pl.take c.n.toNat)).2):=by
 rw[hw,ye h hs,aco];rfl
def Mq (K:W.Frag)(C:Addr):Sp:=λvs H Q E=>∃ (pe pk pp:Addr) (at':Int) (ev:List V) (es:List (Option Ent)) (kn:List V) (pl:List Int),vs=[.ref pe,.int at',.ref pk,.ref pp]/\aq K H pe ev/\dj K H ev es/\aq K H pk kn/\tN kn/\aq K H pp (pl.map V.int)/\fR pl/\near at' /\
 (∀ c v H',ee es at' kn pl=some c->ak H H'->jC H' v c->Q v H')/\(ee es at' kn pl=none->∀ d H',ak H H'->H' d=some (.xd [("row",.int at')])->E (.ref C) (some d) H')
def K6 (K:W.Frag)(a:bE):Sp:=λvs H Q E=>∃ (x dx l d pk pp:Addr) (at':Int) (ev:List V) (es:List (Option Ent)) (kn:List V) (pl:List Int),vs=[.ref x,.int at',.ref pk,.ref pp]/\H x=some (.ins a.bZ dx (fU l d))/\H l=some (.lst ev)/\dj K H ev es/\aq K H pk kn/\tN kn/\aq K H pp (pl.map V.int)/\fR pl/\near at' /\
 ((bg es 5000 at' kn pl).2=none->∀ p vs H',ak H H'->H p=none->H' p=some (.lst vs)->cA H' vs (bg es 5000 at' kn pl).1->Q (.ref p) H') /\
 (∀ r,(bg es 5000 at' kn pl).2=some r->∀ d H',ak H H'->H' d=some (.xd [("row",.int r)])->E (.ref a.dO) (some d) H')
theorem OU {xs:List Int}{v x:Int}(h:x∈sI xs i v):x∈xs∨x=v:=by
 unfold sI at h;exact List.mem_or_eq_of_mem_set h
theorem fO {xs:List Int}(hv:∀ x∈xs,isVal x)(i:Int):isVal (gI xs i):=by
 unfold gI;rw[aar];cases e:xs[i.toNat]? with
 | none=>exact⟨by decide,by decide⟩
 | some y=>exact hv y (aaj e)
theorem fD {xs:List Int}{v:Int}(hv:∀ x∈xs,isVal x)(h:isVal v):∀ x∈sI xs i v,isVal x:=λx hx=>by
 rcases OU hx with z | z
 . exact hv x z
 . rw[z];exact h
variable {Ub Td:List Int} {n:Int}
theorem MX {n':Int}{bs pl:List Int}(ok:r.ok)(h0 : 0<=n)(h1:n<=2000)(h8:bs.length=8)(hv:∀ x∈bs,isVal x)(hp:∀ x∈pl,isVal x)(hl:pl.length<=4000)(hr:r.run n bs pl=some (n',Ub,Td)) :
   Ub.length=8/\(∀ x∈Ub,isVal x)/\(∀ x∈Td,isVal x)/\Td.length<=4000/\0<=n':=by
 have g0:∀ {m:Int},aH m->0<=m:=λh=>h.1;have t0:∀ {m:Int},aW m->0<=m:=λh=>h.1;have md:∀ x:Int,isVal (x%4294967296):=λx=>⟨by omega,by omega⟩;cases r with
 | set b m=>cases hr;exact⟨by rw[dw];exact h8,fD hv ok.2,hp,hl,by omega⟩
 | copy b o=>cases hr;exact⟨by rw[dw];exact h8,fD hv (fO hv _),hp,hl,by omega⟩
 | add b o t=>cases hr;exact⟨by rw[dw];exact h8,fD hv (md _),hp,hl,by omega⟩
 | sub b o t=>cases hr;exact⟨by rw[dw];exact h8,fD hv (md _),hp,hl,by omega⟩
 | mul b o t=>cases hr;exact⟨by rw[dw];exact h8,fD hv (md _),hp,hl,by omega⟩
 | less b o t=>cases hr;exact⟨by rw[dw];exact h8,fD hv (by split <;> exact⟨by decide,by decide⟩),hp,hl,by omega⟩
 | grow m =>
   simp only[Rw.run] at hr;split at hr
   . cases hr
   cases hr
   have:=g0 ok
   refine⟨h8,hv,λx hx=>?_,by rw[aab,aaB];omega,by omega⟩;rcases List.mem_append.mp hx with z | z
   . exact hp x z
   . rw[List.eq_of_mem_replicate z];exact⟨by decide,by decide⟩
 | shrink m =>
   simp only[Rw.run] at hr;split at hr
   . cases hr
   cases hr
   exact⟨h8,hv,λx hx=>hp x (abT hx),by rw[aaz];exact aaJ (Nat.min_le_right _ _) hl,by omega⟩
 | put b c =>
   simp only[Rw.run] at hr;split at hr
   . cases hr
   cases hr
   exact⟨h8,hv,fD hp (fO hv _),by rw[dw];exact hl,by omega⟩
 | get b c =>
   simp only[Rw.run] at hr;split at hr
   . cases hr
   cases hr
   exact⟨by rw[dw];exact h8,fD hv (fO hp _),hp,hl,by omega⟩
 | dA t=>cases hr;exact⟨h8,hv,hp,hl,t0 ok⟩
 | branch b t=>cases hr;exact⟨h8,hv,hp,hl,by split;omega;exact t0 ok.2⟩
 | call t=>cases hr;exact⟨by rw[dw];exact h8,fD hv ⟨by omega,by omega⟩,hp,hl,t0 ok⟩
 | back b=>cases hr;exact⟨h8,hv,hp,hl,(fO hv _).1⟩
 | drop b=>cases hr
def aE (aU n:Int):Str:=if n=aU then "ended" else if 0<=n/\n<aU then "runs" else "fault"
abbrev Cl:=Int×Int×Int×Int×Int
structure MS where
 rows:List Rw
 ar:Int
 held:List Int
 cells:List Int
 calls:List Cl
 cY:V
 state:Str
def MS.me (S:MS)(r:Rw):List Cl:=if r.isCall then S.calls++[(S.ar+1,gI S.held 4,gI S.held 5,gI S.held 6,(S.cells.length:Int))] else if r.eu then S.calls.take (S.calls.length - 1) else S.calls
def MS.bf (S:MS)(r:Rw):MS:=match r.run S.ar S.held S.cells with
 | none=>{ S with state:="fault" }
 | some (n,bs,pl)=>if aE S.rows.length n = "fault" then { S with state:="fault" } else { S with ar:=n,held:=bs,cells:=pl,calls:=S.me r,state:=aE S.rows.length n }
abbrev vk:List Str:=["word_ahead_of","at","boxes","pile","word","book","fault","step","do","forget","go_on","drop","land"]
structure MF (fs:List (Str×V))(pc pt ph pl pk:Addr)(aU ar:Int)(cY:V)(state:Str):Prop where
 code:fs.lookup ("code" : Str)=some (.ref pc)
 table:fs.lookup ("table" : Str)=some (.ref pt)
 aU:fs.lookup ("home" : Str)=some (.int aU)
 ar:fs.lookup ("coming" : Str)=some (.int ar)
 held:fs.lookup ("held" : Str)=some (.ref ph)
 cells:fs.lookup ("cells" : Str)=some (.ref pl)
 calls:fs.lookup ("calls" : Str)=some (.ref pk)
 cY:fs.lookup ("dropped" : Str)=some cY
 state:fs.lookup ("state" : Str)=some (.str state)
 len:fs.length<=9
 no:∀ x:Str,x∈vk->fs.lookup x=none
theorem hG {f:Str}{v w:V}:∀ {fs:List (Str×V)},fs.lookup f=some w->(av f v fs).length=fs.length
 | [],h=>by cases h
 | (g, x) :: r, h => by
   by_cases e:g=f
   . show(if g = f then (g, v) :: r else (g, x) :: av f v r).length = _;rw[if_pos e];rfl
   . have hb : (f == g) = false := beq_eq_false_iff_ne.mpr (λz => e z.symm);rw[aa8,hb] at h;show(if g=f then (g,v)::r else (g,x)::av f v r).length=_;rw[if_neg e,aaA,hG h];rfl
theorem MF.qx {fs:List (Str×V)}{f:Str}{v:V}(h:∀ x:Str,x∈vk->fs.lookup x=none)(hf:f ∉ vk):∀ x:Str,x∈vk->(av f v fs).lookup x=none:=λx hx=>iy (λe=>hf (e ▸ hx)) (h x hx)
section
variable {fs:List (Str×V)} {pc pt ph pl pk:Addr} {aU ar:Int} {cY:V} {state:Str}
theorem MF.Gb (F:MF fs pc pt ph pl pk aU ar cY state)(n:Int):MF (av "coming" (.int n) fs) pc pt ph pl pk aU n cY state :=
 ⟨aG (by nofun) F.code,aG (by nofun) F.table,aG (by nofun) F.aU,cq,aG (by nofun) F.held,aG (by nofun) F.cells,aG (by nofun) F.calls,aG (by nofun) F.cY,aG (by nofun) F.state,by rw[hG F.ar];exact F.len,MF.qx F.no (by nofun)⟩
theorem MF.Mf (F:MF fs pc pt ph pl pk aU ar cY state)(q:Addr):MF (av "held" (.ref q) fs) pc pt q pl pk aU ar cY state :=
 ⟨aG (by nofun) F.code,aG (by nofun) F.table,aG (by nofun) F.aU,aG (by nofun) F.ar,cq,aG (by nofun) F.cells,aG (by nofun) F.calls,aG (by nofun) F.cY,aG (by nofun) F.state,by rw[hG F.held];exact F.len,MF.qx F.no (by nofun)⟩
theorem MF.Iy (F:MF fs pc pt ph pl pk aU ar cY state)(q:Addr):MF (av "cells" (.ref q) fs) pc pt ph q pk aU ar cY state :=
 ⟨aG (by nofun) F.code,aG (by nofun) F.table,aG (by nofun) F.aU,aG (by nofun) F.ar,aG (by nofun) F.held,cq,aG (by nofun) F.calls,aG (by nofun) F.cY,aG (by nofun) F.state,by rw[hG F.cells];exact F.len,MF.qx F.no (by nofun)⟩
theorem MF.setState (F:MF fs pc pt ph pl pk aU ar cY state)(t:Str):MF (av "state" (.str t) fs) pc pt ph pl pk aU ar cY t :=
 ⟨aG (by nofun) F.code,aG (by nofun) F.table,aG (by nofun) F.aU,aG (by nofun) F.ar,aG (by nofun) F.held,aG (by nofun) F.cells,aG (by nofun) F.calls,aG (by nofun) F.cY,cq,by rw[hG F.state];exact F.len,MF.qx F.no (by nofun)⟩
theorem MF.MB (F:MF fs pc pt ph pl pk aU ar cY state)(v:V):MF (av "dropped" v fs) pc pt ph pl pk aU ar v state :=
 ⟨aG (by nofun) F.code,aG (by nofun) F.table,aG (by nofun) F.aU,aG (by nofun) F.ar,aG (by nofun) F.held,aG (by nofun) F.cells,aG (by nofun) F.calls,cq,aG (by nofun) F.state,by rw[hG F.cY];exact F.len,MF.qx F.no (by nofun)⟩
end
theorem MF.start (pc pt ph pl pk:Addr)(aU ar:Int)(st:Str):MF (av "state" (.str st) (av "dropped" .aA (av "calls" (.ref pk) (av "cells" (.ref pl) (av "held" (.ref ph) (av "coming" (.int ar) (av "home" (.int aU) (av "table" (.ref pt) (av "code" (.ref pc) []))))))))) pc pt ph pl pk aU ar .aA st:=by
 refine⟨?_,?_,?_,?_,?_,?_,?_,?_,?_,fN (fN (fN (fN (fN (fN (fN (fN (fN (aah 0))))))))),?_⟩
 . repeat first | exact cq | refine aG (by nofun) ?_
 . repeat first | exact cq | refine aG (by nofun) ?_
 . repeat first | exact cq | refine aG (by nofun) ?_
 . repeat first | exact cq | refine aG (by nofun) ?_
 . repeat first | exact cq | refine aG (by nofun) ?_
 . repeat first | exact cq | refine aG (by nofun) ?_
 . repeat first | exact cq | refine aG (by nofun) ?_
 . repeat first | exact cq | refine aG (by nofun) ?_
 . exact cq
 . repeat refine MF.qx ?_ (by nofun)
   exact λx _=>rfl
def AQ (H:Hp)(v:V)(c:Cl):Prop:=∃ t k,v=.ref t/\H t=some (.tup [.int c.1,.ref k,.int c.2.2.2.2])/\H k=some (.tup [.int c.2.1,.int c.2.2.1,.int c.2.2.2.1])
def ClsAt (H:Hp)(vs:List V)(cs:List Cl):Prop:=vs.length=cs.length/\∀ (i:Nat) (v:V) (c:Cl),vs[i]? = some v->cs[i]? = some c->AQ H v c
theorem AQ.to {v:V}{c:Cl}(h:AQ H v c)(k:∀ b xs,H b=some (.tup xs)->H' b=some (.tup xs)):AQ H' v c:=let ⟨t,q,e,e1,e2⟩:=h;⟨t,q,e,k _ _ e1,k _ _ e2⟩
theorem ClsAt.to {cs:List Cl}(h:ClsAt H vs cs)(k:∀ b xs,H b=some (.tup xs)->H' b=some (.tup xs)):ClsAt H' vs cs:=⟨h.1,λi v c e1 e2=>(h.2 i v c e1 e2).to k⟩
theorem ClsAt.snoc {cs:List Cl}{v:V}{c:Cl}(h:ClsAt H vs cs)(q:AQ H v c):ClsAt H (vs++[v]) (cs++[c]):=by
 refine⟨by rw[aab,aab,h.1];rfl,λi p' r' e1 e2=>?_⟩;by_cases hi:i<cs.length
 . rw[aao (by rw[h.1]; exact hi)] at e1;rw[aao hi] at e2;exact h.2 i p' r' e1 e2
 . have UU : i = cs.length := by
     have:=(List.getElem?_eq_some_iff.mp e2).1
     rw[aab] at this;simp at this;lia
   subst UU;rw[aaq (by lia)] at e2;rw[aaq (by rw[h.1];lia),h.1] at e1;simp at e1 e2;subst e1 e2;exact q
theorem ClsAt.take {cs:List Cl}(h:ClsAt H vs cs)(n:Nat):ClsAt H (vs.take n) (cs.take n):=by
 refine⟨by rw[aaz,aaz,h.1],λi v c e1 e2=>?_⟩;rw[List.getElem?_take] at e1 e2;split at e1
 . rename_i hi;rw[if_pos hi] at e2;exact h.2 i v c e1 e2
 . cases e1
def aN (m k:Addr)(H H':Hp):Prop:=∀ b o,H b=some o->b≠m->b≠k->H' b=some o
variable {m:Addr}
theorem aN.refl {k:Addr}:aN m k H H:=λ_ _ e _ _=>e
theorem aN.trans {k:Addr}{H1 H2:Hp}(h:aN m k H H1)(g:aN m k H1 H2):aN m k H H2:=λb o e n1 n2=>g b o (h b o e n1 n2) n1 n2
theorem aN.of_same {k:Addr}(h:ak H H'):aN m k H H':=λb o e _ _=>h b o e
theorem aN.nh {k:Addr}(h:aN m k H H'):aN m k H (upd H' m o):=λb u e n1 n2=>by rw[ai n1];exact h b u e n1 n2
theorem aN.HK {k:Addr}(h:aN m k H H'):aN m k H (upd H' k o):=λb u e n1 n2=>by rw[ai n2];exact h b u e n1 n2
structure gr (a:bE)(H:Hp)(m pk dx pc pt ph pl:Addr)(fs:List (Str×V))(prs:List Addr)(cs:List V)(S:MS):Prop where
 hm:H m=some (.ins a.aw dx fs)
 f:MF fs pc pt ph pl pk S.rows.length S.ar S.cY S.state
 hc:H pc=some (.lst (prs.map V.ref))
 rows:bH a H prs S.rows
 hh:H ph=some (.lst (S.held.map V.int))
 hl:H pl=some (.lst (S.cells.map V.int))
 hk:H pk=some (.lst cs)
 calls:ClsAt H cs S.calls
 n1:pk≠pc
 n2:pk≠ph
 n3:pk≠pl
 n4:∀ p∈prs,p≠m
def cM (a:bE)(H:Hp)(m pk pt:Addr)(S:MS):Prop:=∃ dx pc ph pl fs prs cs,gr a H m pk dx pc pt ph pl fs prs cs S
structure cj (S:MS):Prop where
 ok:∀ r∈S.rows,r.ok/\(r.d6=false->r.here)
 many:S.rows.length<=2000
 gm : 0<=S.ar
 r9:S.state = "runs"->S.ar<S.rows.length
 h8:S.held.length=8
 hv:∀ x∈S.held,isVal x
 cv:∀ x∈S.cells,isVal x
 cl:S.cells.length<=4000
 sk:PyData.strOk S.state=true
theorem ER (h n:Int):PyData.strOk (aE h n)=true:=by
 unfold aE
 repeat' split
 all_goals nofun
theorem zd:PyData.strOk "fault" = true:=by nofun
variable {aU:Int}
theorem Pr (h : ¬ aE aU n = "fault"):n=aU∨(0<=n/\n<aU):=by
 unfold aE at h;split at h
 . rename_i e;exact .inl e
 . split at h
   . rename_i e;exact .inr e
   . exact absurd rfl h
theorem FQ:("ended" : Str) ≠ "runs":=by nofun
theorem p8:("fault" : Str) ≠ "runs":=by nofun
theorem EI (h:aE aU n = "runs") : 0<=n/\n<aU:=by
 unfold aE at h;split at h
 . exact absurd h FQ
 . split at h
   . assumption
   . exact absurd h p8
variable {S:MS}
theorem cj.bf (o:cj S)(hr:r∈S.rows)(hn:S.ar<S.rows.length):cj (S.bf r):=by
 unfold MS.bf;split
 . exact⟨o.ok,o.many,o.gm,λz=>absurd z p8,o.h8,o.hv,o.cv,o.cl,zd⟩
 . rename_i n bs pl e;split
   . exact⟨o.ok,o.many,o.gm,λz=>absurd z p8,o.h8,o.hv,o.cv,o.cl,zd⟩
   . have hm := o.many;obtain⟨k1,k2,k3,k4,k5⟩:=MX (o.ok r hr).1 o.gm (by lia) o.h8 o.hv o.cv o.cl e;exact⟨o.ok,o.many,k5,λz=>(EI z).2,k1,k2,k3,k4,ER _ _⟩
theorem cj.row (o:cj S)(h:S.state = "runs"):∃ r,S.rows[S.ar.toNat]? = some r/\r∈S.rows:=by
 have h1:=o.r9 h;have h0:=o.gm;have hl:S.ar.toNat<S.rows.length:=by omega
 exact⟨S.rows[S.ar.toNat],aaa hl,aaV hl⟩
theorem uT (S:MS)(r:Rw):(S.bf r).rows=S.rows:=by
 unfold MS.bf;split
 . rfl
 . split <;> rfl
theorem Ce (S:MS)(r:Rw):(S.bf r).calls.length<=S.calls.length+1:=by
 unfold MS.bf;split
 . exact abn _
 . split
   . exact abn _
   . show(S.me r).length <= _;unfold MS.me;split
     . rw[aab];exact aah _
     . split
       . rw[aaz];omega
       . exact abn _
def zR (K:W.Frag):Sp:=λvs H Q _=>∃ (p:Addr) (bs:List Int),vs=[.ref p]/\aq K H p (bs.map V.int)/\bs.length=8/\∀ t,H t=none->Q (.ref t) (upd H t (.tup [.int (gI bs 4),.int (gI bs 5),.int (gI bs 6)]))
theorem IA {K:W.Frag}{bs:List Int}(h:aq K H p (bs.map V.int))(h8:bs.length=8)(q:∀ t,H t=none->Q (.ref t) (upd H t (.tup [.int (gI bs 4),.int (gI bs 5),.int (gI bs 6)]))):zR K [.ref p] H Q E:=⟨p,bs,rfl,h,h8,q⟩
def Rp (a:bE):Sp:=λvs H Q _=>∃ (m dx:Addr) (fs:List (Str×V)) (aU n:Int),vs=[.ref m,.int n]/\H m=some (.ins a.aw dx fs)/\fs.lookup ("home" : Str)=some (.int aU)/\Q (.str (aE aU n)) H
def DP (a:bE)(f:Str):Sp:=λvs H Q _=>∃ (m dx:Addr) (fs:List (Str×V)) (v:V),vs=[.ref m]/\H m=some (.ins a.aw dx fs)/\fs.lookup f=some v/\Q v H
def GX (a:bE)(f:Str):Sp:=λvs H Q _=>∃ (m dx p:Addr) (fs:List (Str×V)) (xs:List V),vs=[.ref m]/\H m=some (.ins a.aw dx fs)/\fs.lookup f=some (.ref p)/\H p=some (.lst xs)/\∀ l,H l=none->Q (.ref l) (upd H l (.lst xs))
def M6 (a:bE):Sp:=λvs H Q _=>∃ (m dx pc pt ph pl pk pb pp:Addr) (fs:List (Str×V)) (aU c n:Int) (d:V) (st:Str),vs=[.ref m,.int n,.ref pb,.ref pp]/\H m=some (.ins a.aw dx fs)/\MF fs pc pt ph pl pk aU c d st /\
 ∀ UW,MF UW pc pt pb pp pk aU n d (aE aU n)->Q .aA (upd H m (.ins a.aw dx UW))
def Hv (a:bE):Sp:=λvs H Q _=>∃ (m dx pk:Addr) (fs:List (Str×V)) (k:Int) (xs:List V),vs=[.ref m,.int k]/\H m=some (.ins a.aw dx fs)/\fs.lookup ("calls" : Str)=some (.ref pk)/\H pk=some (.lst xs)/\0<=k/\xs.length<=100000 /\
 ∀ H',H' pk=some (.lst (xs.take (xs.length - k.toNat)))->(∀ b,b≠pk->H' b=H b)->Q .aA H'
def QZ (a:bE):Sp:=λvs H Q _=>∃ (m p pk pt:Addr) (r:Rw) (S:MS),vs=[.ref m,.ref p]/\cM a H m pk pt S/\cj S/\bA a H p r/\r∈S.rows/\r.d6=false/\p≠m/\S.ar<S.rows.length/\S.calls.length<=50000/\∀ H',aN m pk H H'->cM a H' m pk pt (S.bf r)->Q .aA H'
def ij (rs:List Rw)(bs:List Int)(start:Int):MS:=⟨rs,start,bs++[(rs.length:Int)],[],[((rs.length:Int),gI (bs++[(rs.length:Int)]) 4,gI (bs++[(rs.length:Int)]) 5,gI (bs++[(rs.length:Int)]) 6,0)],.aA,aE rs.length start⟩
def Dw (a:bE)(H:Hp)(t pk:Addr)(ev:List V)(kvs:List (Key×V)):Prop:=∃ dt l d,H t=some (.ins a.bZ dt (fU l d))/\H l=some (.lst ev)/\H d=some (.dK kvs)/\l≠pk
def Ac (a:bE)(H H':Hp)(t pk:Addr)(ev:List V)(kvs:List (Key×V)):Prop:=∃ dt l d,H' t=some (.ins a.bZ dt (fU l d))/\H' l=some (.lst ev)/\H' d=some (.dK kvs)/\l≠pk/\H l=none/\H d=none
def mf (a:bE):Sp:=λvs H Q _=>∃ (x dx c t b dt l d:Addr) (start:Int) (prs:List Addr) (rs:List Rw) (bs:List Int) (es:List V) (kvs:List (Key×V)),vs=[.ref x,.ref c,.ref t,.ref b,.int start]/\H x=some (.ins a.aw dx [])/\H c=some (.lst (prs.map V.ref))/\bH a H prs rs/\(∀ p∈prs,p≠x) /\
 H t=some (.ins a.bZ dt (fU l d))/\t≠x/\H l=some (.lst es)/\H d=some (.dK kvs)/\H b=some (.lst (bs.map V.int))/\bs.length=7/\rs.length<=2000 /\
 ∀ pk pc pt ph pl fs cs H',H pk=none->H pc=none->H ph=none->H pl=none->(∀ b o,H b=some o->b≠x->H' b=some o)->gr a H' x pk dx pc pt ph pl fs prs cs (ij rs bs start)->Ac a H H' pt pk es kvs->Q .aA H'
variable {dx:Addr}
theorem Nc {a:bE}{x c t b dt l d:Addr}{start:Int}{bs:List Int}{es:List V}{kvs:List (Key×V)}{R:VK}{E:XK}(hx:H x=none)(UL:H dx=none)(hc:H c=some (.lst (prs.map V.ref)))(hr:bH a H prs rs)
   (ht:H t=some (.ins a.bZ dt (fU l d))) (hl:H l=some (.lst es)) (hd:H d=some (.dK kvs)) (hb:H b=some (.lst (bs.map V.int))) (h7:bs.length=7) (hm:rs.length<=2000)
   (q:∀ pk pc pt ph pl fs cs H',H pk=none->H pc=none->H ph=none->H pl=none->ak H H'->gr a H' x pk dx pc pt ph pl fs prs cs (ij rs bs start)->Ac a H H' pt pk es kvs->R .aA H'):mf a [.ref x,.ref c,.ref t,.ref b,.int start] (upd (upd H dx (.own x)) x (.ins a.aw dx [])) R E:=by
 have up:∀ {b:Addr} {o:HO},H b=some o->upd (upd H dx (.own x)) x (.ins a.aw dx []) b=some o:=λ{b o} e=>by rw[ai (af e hx),ai (af e UL)];exact e
 refine⟨x,dx,c,t,b,dt,l,d,start,prs,rs,bs,es,kvs,rfl,aa,up hc,hr.to (λp _ o e=>up e),λp hp=>?_,up ht,af ht hx,up hl,up hd,up hb,h7,hm,λpk pc pt ph pl fs cs H' n1 n2 n3 n4 kp M TT=>?_⟩
 . obtain⟨r, _, dxr, e⟩ := hr.mem hp;exact af e hx
 . have dn : ∀ {b : Addr}, upd (upd H dx (.own x)) x (.ins a.aw dx []) b = none -> H b = none := λe => (bq (bq e).1).1;exact q pk pc pt ph pl fs cs H' (dn n1) (dn n2) (dn n3) (dn n4) (λb o e=>kp b o (up e) (af e hx)) M (by obtain⟨dt',l',d',t1,t2,t3,t4,t5,t6⟩:=TT;exact⟨dt',l',d',t1,t2,t3,t4,dn t5,dn t6⟩)
section
variable {a:bE} {H H1:Hp} {m pk dx pc pt ph pl:Addr} {fs:List (Str×V)} {prs:List Addr} {cs:List V} {S:MS}
theorem gr.wm (M:gr a H m pk dx pc pt ph pl fs prs cs S)(kp:aN m pk H H1){o1:List (Str×V)}{b' p':Addr}{UW:List (Str×V)}{cs':List V}{calls':List Cl}{n:Int}{bs pp:List Int}{st:Str}{d':V}(hmm:H1 m=some (.ins a.aw dx o1))
   (hb:H1 b'=some (.lst (bs.map V.int))) (hp:H1 p'=some (.lst (pp.map V.int))) (hk:H1 pk=some (.lst cs')) (TF:ClsAt H1 cs' calls') (nb:pk≠b') (np:pk≠p') (F':MF UW pc pt b' p' pk S.rows.length n d' st) :
   gr a (upd H1 m (.ins a.aw dx UW)) m pk dx pc pt b' p' UW prs cs' ⟨S.rows,n,bs,pp,calls',d',st⟩:=by
 have kn:∀ {b:Addr} {xs:List V},H1 b=some (.lst xs)->b≠m:=λ{b xs} e z=>by subst z;rw[hmm] at e;cases e
 have kt:∀ {b:Addr} {xs:List V},H1 b=some (.tup xs)->b≠m:=λ{b xs} e z=>by subst z;rw[hmm] at e;cases e
 have c1:pc≠m:=λz=>by have e:=M.hc;rw[z,M.hm] at e;cases e
 refine⟨aa,F',?_,?_,?_,?_,?_,?_,M.n1,nb,np,M.n4⟩
 . rw[ai c1];exact kp _ _ M.hc c1 M.n1.symm
 . refine M.rows.to λp h o e=>?_;have q1:=M.n4 p h;rw[ai q1];refine kp _ _ e q1 λz=>?_;obtain⟨r,_,dxr,e2⟩:=M.rows.mem h;have e3:=M.hk;rw[<- z,e2] at e3;cases e3
 . rw[ai (kn hb)];exact hb
 . rw[ai (kn hp)];exact hp
 . rw[ai (kn hk)];exact hk
 . exact TF.to λb xs e=>by rw[ai (kt e)];exact e
theorem gr.clsAt (M:gr a H m pk dx pc pt ph pl fs prs cs S)(kp:aN m pk H H1):ClsAt H1 cs S.calls:=M.calls.to λb xs e=>kp b _ e (λz=>by have q:=M.hm;rw[<- z,e] at q;cases q) (λz=>by have q:=M.hk;rw[<- z,e] at q;cases q)
theorem gr.QD (M:gr a H m pk dx pc pt ph pl fs prs cs S):ph≠m:=λz=>by have e:=M.hh;rw[z,M.hm] at e;cases e
theorem gr.QB (M:gr a H m pk dx pc pt ph pl fs prs cs S):pl≠m:=λz=>by have e:=M.hl;rw[z,M.hm] at e;cases e
theorem gr.QP (M:gr a H m pk dx pc pt ph pl fs prs cs S):pk≠m:=λz=>by have e:=M.hk;rw[z,M.hm] at e;cases e
theorem gr.qL (M:gr a H m pk dx pc pt ph pl fs prs cs S)(s:ak H H1)(t:Str):cM a (upd H1 m (.ins a.aw dx (av "state" (.str t) fs))) m pk pt { S with state:=t } :=
 ⟨dx,pc,ph,pl,_,prs,cs,M.wm (aN.of_same s) (s _ _ M.hm) (s _ _ M.hh) (s _ _ M.hl) (s _ _ M.hk) (M.clsAt (aN.of_same s)) M.n2 M.n3 (M.f.setState t)⟩
theorem gr.to (M:gr a H m pk dx pc pt ph pl fs prs cs S)(s:ak H H1):gr a H1 m pk dx pc pt ph pl fs prs cs S :=
 ⟨s _ _ M.hm,M.f,s _ _ M.hc,M.rows.same s,s _ _ M.hh,s _ _ M.hl,s _ _ M.hk,M.clsAt (aN.of_same s),M.n1,M.n2,M.n3,M.n4⟩
theorem cM.to (M:cM a H m pk pt S)(s:ak H H1):cM a H1 m pk pt S:=by
 obtain⟨dx,pc,ph,pl,fs,prs,cs,M⟩:=M;exact⟨dx,pc,ph,pl,fs,prs,cs,s _ _ M.hm,M.f,s _ _ M.hc,M.rows.same s,s _ _ M.hh,s _ _ M.hl,s _ _ M.hk,M.clsAt (aN.of_same s),M.n1,M.n2,M.n3,M.n4⟩
end
def TabAt (K:W.Frag)(a:bE)(H:Hp)(t pk:Addr)(es:List (Option Ent))(kvs:List (Key×V)):Prop:=∃ ev,Dw a H t pk ev kvs/\dj K H ev es
variable {C:Addr}
theorem aJ.kept {K:W.Frag}{k:Addr}{fs:List (Str×V)}(h:aN m k H H')(hm:H m=some (.ins C dx fs))(hk:H k=some (.lst xs))(q:aJ K H p ys):aJ K H' p ys:=by
 rcases q with (q | ⟨o,q⟩) | q
 . exact .inl (.inl (h _ _ q (λz=>by rw[z,hm] at q;cases q) (λz=>by rw[z,hk] at q;cases q)))
 . exact .inl (.inr ⟨o,h _ _ q (λz=>by rw[z,hm] at q;cases q) (λz=>by rw[z,hk] at q;cases q)⟩)
 . exact .inr q
theorem dj.kept {K:W.Frag}{k:Addr}{fs:List (Str×V)}(h:aN m k H H')(hm:H m=some (.ins C dx fs))(hk:H k=some (.lst xs))(q:dj K H vs es):dj K H' vs es:=by
 refine⟨q.1,λi oe e=>?_⟩;obtain⟨v,e1,e2⟩:=q.2 i oe e;refine⟨v,e1,?_⟩;cases oe with
 | none=>exact e2
 | some en =>
   obtain⟨p,rfl,qq,h1,h2⟩:=e2;exact⟨p,rfl,qq,aJ.kept h hm hk h1,aJ.kept h hm hk h2⟩
variable {kvs:List (Key×V)} {t:Addr}
theorem Dw.ne {a:bE}{fs:List (Str×V)}{ev:List V}{v:V}(T:Dw a H t pk ev kvs)(hm:H m=some (.ins a.aw dx fs))(hf:fs.lookup ("code" : Str)=some v):t≠m:=λz=>by
 obtain⟨dt,l,d,h1,_⟩:=T;rw[z,hm] at h1;injection h1 with h1;injection h1 with _ _ h1;subst h1;rw[show(fU l d).lookup ("code" : Str)=none from iy (by nofun) (iy (by nofun) rfl)] at hf;cases hf
theorem TabAt.kept {K:W.Frag}{a:bE}{pq:Addr}(T:TabAt K a H t pk es kvs)(M:cM a H m pk pq S)(k:aN m pk H H'):TabAt K a H' t pk es kvs:=by
 obtain⟨ev,TI,E⟩:=T;obtain⟨dx,pc,ph,pl,fs,prs,cs,M⟩:=M;have tm:=TI.ne M.hm M.f.code;obtain⟨dt,l,d,h1,h2,h3,h4⟩:=TI;refine⟨ev,⟨dt,l,d,k _ _ h1 tm (λz=>by rw[z,M.hk] at h1;cases h1),k _ _ h2 (λz=>by rw[z,M.hm] at h2;cases h2) h4,k _ _ h3 (λz=>by rw[z,M.hm] at h3;cases h3) (λz=>by rw[z,M.hk] at h3;cases h3),h4⟩,E.kept k M.hm M.hk⟩
theorem TabAt.same {K:W.Frag}{a:bE}(T:TabAt K a H t pk es kvs)(s:ak H H'):TabAt K a H' t pk es kvs:=by
 obtain⟨ev,⟨dt,l,d,h1,h2,h3,h4⟩,E⟩:=T;exact⟨ev,⟨dt,l,d,s _ _ h1,s _ _ h2,s _ _ h3,h4⟩,E.same s⟩
def AW (kvs:List (Key×V)):Prop:=∀ k v,b3 kvs k=some v->∃ i:Int,v=.int i
def uh (kvs:List (Key×V))(c:bT):Option Int:=match b3 kvs (.inl (c.r - 1)) with | some (.int n)=>some n | _=>none
def landAt (aU:Int)(kvs:List (Key×V))(c:bT):Bool:=decide (c.r≠aU) && (b3 kvs (.inl (c.r - 1))).isSome
def MS.landed (S : MS)(v : Int)(c : bT)(k : Nat)(n : Int) : MS := if aE S.rows.length n = "fault" then { S with state := "fault" } else
 ⟨S.rows,n,[v,gI S.held 1,gI S.held 2,gI S.held 3,c.a,c.b,c.c,gI S.held 7],S.cells.take c.n.toNat,S.calls.take (S.calls.length - k),S.cY,aE S.rows.length n⟩
def MS.dropped (S:MS)(es:List (Option Ent))(kvs:List (Key×V))(v:Int):MS :=
 match (bg es 5000 S.ar (S.held.map V.int) S.cells).2 with
 | some _=>{ S with state:="fault" }
 | none => match (bg es 5000 S.ar (S.held.map V.int) S.cells).1.findIdx? (landAt S.rows.length kvs) with
   | none=>{ S with state:="dropped",cY:=.int v }
   | some i => match (bg es 5000 S.ar (S.held.map V.int) S.cells).1[i]? with
     | none=>S
     | some c => match uh kvs c with
       | none=>S
       | some n=>S.landed v c (i+1) n
def MS.c7 (S:MS)(es:List (Option Ent))(kvs:List (Key×V)):Rw->MS
 | .drop b=>S.dropped es kvs (gI S.held b)
 | r=>S.bf r
theorem wG (h:r.d6=false):S.c7 es kvs r=S.bf r:=by cases r <;> first | rfl | cases h
def MS.bj (S:MS)(es:List (Option Ent))(kvs:List (Key×V)):MS:=if S.state = "runs" then (match S.rows[S.ar.toNat]? with | none=>S | some r=>S.c7 es kvs r) else S
theorem xT (h:S.state ≠ "runs"):S.bj es kvs=S:=by unfold MS.bj;rw[if_neg h]
theorem kh (h:S.state = "runs")(hr:S.rows[S.ar.toNat]? = some r):S.bj es kvs=S.c7 es kvs r:=by unfold MS.bj;rw[if_pos h,hr]
theorem zV {v:Int}(h:(bg es 5000 S.ar (S.held.map V.int) S.cells).2=none)(hf:(bg es 5000 S.ar (S.held.map V.int) S.cells).1.findIdx? (landAt S.rows.length kvs)=none):S.dropped es kvs v={ S with state:="dropped",cY:=.int v }:=by unfold MS.dropped;rw[h];dsimp only;rw[hf]
theorem zG {v n:Int}{i:Nat}(h:(bg es 5000 S.ar (S.held.map V.int) S.cells).2=none)(hf:(bg es 5000 S.ar (S.held.map V.int) S.cells).1.findIdx? (landAt S.rows.length kvs)=some i)(hc:(bg es 5000 S.ar (S.held.map V.int) S.cells).1[i]? = some c)
   (hv:b3 kvs (.inl (c.r - 1))=some (.int n)):S.dropped es kvs v=S.landed v c (i+1) n:=by
 unfold MS.dropped;rw[h];dsimp only;rw[hf];dsimp only;rw[hc];dsimp only;rw[show uh kvs c=some n from by unfold uh;rw[hv]]
def OG (K:W.Frag)(a:bE):Sp:=λvs H Q _=>∃ (m pk pt t:Addr) (v n:Int) (k:Nat) (c:bT) (S:MS) (es:List (Option Ent)) (kvs:List (Key×V)),vs=[.ref m,.int v,.ref t,.int (k:Int)]/\cM a H m pk pt S/\cj S/\TabAt K a H pt pk es kvs/\jC H (.ref t) c/\0<=c.n /\
 S.calls.length<=50000/\b3 kvs (.inl (c.r - 1))=some (.int n)/\∀ H',aN m pk H H'->cM a H' m pk pt (S.landed v c k n)->Q .aA H'
def Nq (K:W.Frag)(a:bE):Sp:=λvs H Q _=>∃ (m pk pt:Addr) (v:Int) (S:MS) (es:List (Option Ent)) (kvs:List (Key×V)),vs=[.ref m,.int v]/\cM a H m pk pt S/\cj S/\TabAt K a H pt pk es kvs/\AW kvs/\S.ar<S.rows.length /\
 S.calls.length<=50000/\∀ H',aN m pk H H'->cM a H' m pk pt (S.dropped es kvs v)->Q .aA H'
def LW (K:W.Frag)(a:bE):Sp:=λvs H Q _=>∃ (m pk pt:Addr) (S:MS) (es:List (Option Ent)) (kvs:List (Key×V)),vs=[.ref m]/\cM a H m pk pt S/\cj S/\TabAt K a H pt pk es kvs/\AW kvs /\
 S.calls.length<=50000/\∀ H',aN m pk H H'->cM a H' m pk pt (S.bj es kvs)->Q .aA H'
def MS.walk (S:MS)(es:List (Option Ent)):List bT×Option Int:=bg es 5000 S.ar (S.held.map V.int) S.cells
def A6 (v:V):Prop:=∀ i,v=.int i->isVal i
theorem sR {kn:List V}(hk:∀ v∈kn,A6 v)(hp:∀ x∈pc,isVal x):A6 (br s kn pc):=by
 unfold br;split
 . intro i e;cases e
 . split
   . intro i e;rw[aar] at e;cases h:kn[(lowP s).toNat]? with
     | none=>rw[h] at e;cases e
     | some v=>rw[h] at e;exact hk v (aaj h) i e
   . split
     . intro i e;injection e with e;subst e;exact fO hp _
     . intro i e;cases e
theorem Oz (h1:isVal c.a)(h2:isVal c.b)(h3:isVal c.c):∀ v∈ib c,A6 v:=λv hv i e=>by
 simp only[ib,aaQ,aaR,or_false] at hv;rcases hv with rfl | rfl | rfl | rfl | rfl | rfl | rfl | rfl
 all_goals first | cases e | skip
 all_goals assumption
theorem zl {v:V}(h:vi v=some i):v=.int i:=by
 cases v with
 | int j=>injection h with h;rw[h]
 | _=>cases h
theorem LZ {kn:List V}{pl:List Int}(hk:∀ v∈kn,A6 v)(hp:∀ x∈pl,isVal x)(h:gM e kn pl=some c):isVal c.a/\isVal c.b/\isVal c.c:=by
 have hd:∀ x∈pl.drop ((pl.length:Int) - e.h).toNat,isVal x:=λx hx=>hp x (adv hx);unfold gM at h;split at h
 . rename_i r x y z h1 h2 h3 h4;cases h
   exact⟨sR hk hd _ (zl h2),sR hk hd _ (zl h3),sR hk hd _ (zl h4)⟩
 . cases h
theorem Iz {kn:List V}{pl:List Int}(hk:∀ v∈kn,A6 v)(hp:∀ x∈pl,isVal x)(h:ee es at' kn pl=some c):isVal c.a/\isVal c.b/\isVal c.c/\0<=c.n:=by
 unfold ee at h;split at h
 . unfold Gd at h;split at h
   . cases h
   . rename_i e _;split at h
     . rename_i hh;obtain⟨h1,h2,h3⟩:=LZ hk hp h;refine⟨h1,h2,h3,?_⟩;unfold gM at h;split at h
       . cases h
         show 0<=(pl.length:Int) - e.h
         lia
       . cases h
     . cases h
 . cases h
theorem Au:∀ (f:Nat) (at':Int) (kn:List V) (pl:List Int),(∀ v∈kn,A6 v)->(∀ x∈pl,isVal x)->∀ c∈(bg es f at' kn pl).1,isVal c.a/\isVal c.b/\isVal c.c/\0<=c.n
 | 0,at',kn,pl,_,_,c,hc=>by rw[bg] at hc;cases hc
 | f + 1, at', kn, pl, hk, hp, c, hc => by
   rw[bg] at hc;split at hc
   . cases hc
   . split at hc
     . cases hc
     . rename_i d hd;obtain⟨h1,h2,h3,h4⟩:=Iz hk hp hd;rcases List.mem_cons.mp hc with rfl | hc
       . exact⟨h1,h2,h3,h4⟩
       . exact Au f d.r (ib d) (pl.take d.n.toNat) (Oz h1 h2 h3) (λx hx=>hp x (abT hx)) c hc
theorem Bb:∀ (f:Nat) (at':Int) (kn:List V) (pl:List Int),(bg es f at' kn pl).1.length<=f
 | 0,at',kn,pl=>by rw[bg];exact aah 0
 | f + 1, at', kn, pl => by
   rw[bg];split
   . exact aaX _
   . split
     . exact aaX _
     . exact ade (Bb f _ _ _)
theorem Mc {bs:List Int}(h:∀ x∈bs,isVal x):∀ v∈bs.map V.int,A6 v:=λv hv i e=>by
 obtain⟨x,hx,rfl⟩:=List.mem_map.mp hv;injection e with e;subst e;exact h x hx
theorem cj.walk (o:cj S)(es:List (Option Ent)):∀ c∈(S.walk es).1,isVal c.a/\isVal c.b/\isVal c.c/\0<=c.n:=Au 5000 _ _ _ (Mc o.hv) o.cv
theorem cj.kn (o : cj S) : tN (S.held.map V.int) := ⟨by rw[aac]; exact o.h8, λv hv => by
 obtain⟨x,hx,rfl⟩:=List.mem_map.mp hv
 have:=o.hv x hx
 exact .inr ⟨x,rfl,by have:=this.1;lia,by have:=this.2;lia⟩⟩
theorem cj.pl (o:cj S):fR S.cells:=λx hx=>by
 have:=o.cv x hx
 exact⟨by have:=this.1;lia,by have:=this.2;lia⟩
structure Cn where
 P:Program
 w:World
 K:W.Frag
 mg:Str->Option Value
 base:Heap
 a:bE
def Cn.Good (c:Cn):Prop:=∀ (fa:Addr) (fd:aa3),Txt c.K c.mg c.a->eC c.K "law" "law" gX fa fd->c6 c.P c.w c.K c.mg c.base bJ 9 fa fd ["_law_script"] (qG c.K)
theorem Cn.some:Nonempty Cn:=⟨⟨PySem.Challenge.pw_frameback_k92_whole_all_as_at_the_call,⟨λ_ _=>0,{ strHash:=λ_=>0,shareClass:=λ_=>0,mergeTok:=id,idOf:=λ_=>0,idOfShared:=λ_ _=>0,followText:=λ_=>true,idOfImm:=λ_=>0 }⟩,[],λ_=>none,Classical.choice inferInstance,by constructor <;> exact(0:Nat)⟩⟩
noncomputable def cn:Cn:=@Classical.epsilon Cn Cn.some λc=>¬ c.Good
@[irreducible] noncomputable def P:Program:=cn.P
@[irreducible] noncomputable def w:World:=cn.w
@[irreducible] noncomputable def K:W.Frag:=cn.K
@[irreducible] noncomputable def mg:Str->Option Value:=cn.mg
@[irreducible] noncomputable def base:Heap:=cn.base
@[irreducible] noncomputable def a:bE:=cn.a
theorem Np (h:∀ (fa:Addr) (fd:aa3),Txt K mg a->eC K "law" "law" gX fa fd->c6 P w K mg base bJ 9 fa fd ["_law_script"] (qG K))(c:Cn):c.Good:=by
 delta P w K mg base a at h
 exact Classical.byContradiction λhn=>(@Classical.epsilon_spec Cn (λc=>¬ c.Good) ⟨c,hn⟩) h
abbrev FE:=iR P w K mg base bJ
abbrev ME:=mT P w K mg base bJ
abbrev KE:=C0 P w K mg base bJ
abbrev TX:=Txt K mg a
local macro_rules | `(tactic| walk_at "lk") => `(tactic| with_reducible assumption)
local macro_rules | `(tactic| walk_at "nolk") => `(tactic| with_reducible assumption)
set_option hygiene false
local macro_rules | `(tactic| walk_at "in") => `(tactic| ((focus (intro vs H Q E h; (repeat (first | (refine exE8 h ?_; clear h; intro _ _ _ _ _ _ _ _ h) | (refine exE4 h ?_; clear h; intro _ _ _ _ h) | (refine exE2 h ?_; clear h; intro _ _ h) | (refine Exists.elim h ?_; clear h; intro _ h))); first | exact congrArg List.length h.1 | exact congrArg List.length h | ((repeat (obtain ⟨_, h⟩ := h)); subst_vars; rfl))); intro f SN A outer s H vs Q E hr h))
set_option hygiene true
set_option hygiene false
local macro_rules | `(tactic| walk_at "t0") => `(tactic| first | (refine' aR ?_ ?_;walk_at "tS";walk_at "tB") | (refine' fE ?_;walk_at "tS"))
local macro_rules | `(tactic| walk_at "tB") => `(tactic| first | ((with_reducible refine' fE ?_);walk_at "tS") | ((with_reducible refine' aR ?_ ?_);walk_at "tS";walk_at "tB") | exact cB)
local macro_rules | `(tactic| walk_at "tS") => `(tactic| first
 | ((with_reducible refine' iO ?_);walk_at"tE")
 | ((with_reducible refine' Ki ?_ ?_ ?_);walk_at"tT";walk_at"tB";walk_at"tB")
 | ((with_reducible refine' c8 ?_ ?_ ?_ ?_ ?_ ?_);walk_at"tn";walk_at"ti";walk_at"tl";walk_at"tE";exact rfl;walk_at"tl")
 | ((with_reducible refine' wC ?_ ?_ ?_ ?_);walk_at"tk";walk_at"tE";walk_at"tE";exact rfl)
 | ((with_reducible refine' gi ?_ ?_);walk_at"tE";exact rfl)
 | ((with_reducible refine' O5 ?_ ?_ ?_ ?_ ?_);walk_at"tE";walk_at"tG";exact rfl;exact rfl;exact rfl)
 | ((with_reducible refine' A7 ?_ ?_ ?_ ?_ ?_ ?_);exact acA;exact rfl;walk_at"tI";walk_at"tG";walk_at"tB";exact λ_=>rfl)
 | ((with_reducible refine' j8 ?_ ?_ ?_);exact acA;walk_at"tT";walk_at"tB")
 | (with_reducible exact CM)
 )
local macro_rules | `(tactic| walk_at "tI") => `(tactic| first
 | ((with_reducible refine' M_ (mg:=mg) ?_ ?_ ?_ ?_ ?_);exact rfl;walk_at"t3";exact rfl;walk_at"tA";exact rfl)
 | ((with_reducible refine' dR ?_ ?_);walk_at"tk";walk_at"tE"))
local macro_rules | `(tactic| walk_at "tG") => `(tactic| first
 | ((with_reducible refine' bO ?_ ?_ ?_ ?_);walk_at"tn";walk_at"ti";walk_at"tl";walk_at"tl")
 | ((with_reducible refine' wz ?_ ?_ ?_ ?_ ?_);walk_at"tk";exact rfl;walk_at"tH";exact rfl;exact rfl)
 | ((with_reducible refine' OP ?_ ?_ ?_ ?_);walk_at"tE";walk_at"tE";exact set_list;exact λ_=>rfl))
local macro_rules | `(tactic| walk_at "tH") => `(tactic| first
 | (with_reducible exact wt)
 | ((with_reducible refine' km ?_ ?_ ?_);walk_at"tG";walk_at"tH";exact rfl))
local macro_rules | `(tactic| walk_at "tA") => `(tactic| first
 | ((with_reducible refine' ah ?_ ?_ ?_);walk_at"tE";walk_at"tA";exact rfl)
 | (with_reducible exact ax))
local macro_rules | `(tactic| walk_at "tT") => `(tactic| first
 | ((with_reducible refine' dS ?_ ?_ ?_ ?_);walk_at"tc";walk_at"tE";walk_at"tE";exact rfl)
 | ((with_reducible refine' NN ?_ ?_);walk_at"tT";walk_at"tW")
 | ((with_reducible refine' PQ ?_ ?_);walk_at"tT";walk_at"tW")
 | ((with_reducible refine' E4 ?_);walk_at"tT")
 | ((with_reducible refine' wU ?_ ?_ ?_);walk_at"tk";walk_at"tE";exact λ_=>rfl))
local macro_rules | `(tactic| walk_at "tW") => `(tactic| first
 | ((with_reducible refine' qE ?_);walk_at"tT")
 | ((with_reducible refine' Bo ?_);walk_at"tT")
 | ((with_reducible refine' oG ?_ ?_);walk_at"tT";walk_at"tW")
 | ((with_reducible refine' zc ?_ ?_);walk_at"tT";walk_at"tW"))
local macro_rules | `(tactic| walk_at "tP") => `(tactic| first
 | (with_reducible exact KN)
 | ((with_reducible refine' lI ?_);walk_at"tE"))
local macro_rules | `(tactic| walk_at "tE") => `(tactic| first
 | ((with_reducible refine' FK ?_ ?_ ?_ ?_);walk_at"ti";walk_at"tl";exact Eq.refl false;exact Eq.refl false)
 | (with_reducible exact aL)
 | ((with_reducible refine' cF ?_ ?_ ?_);walk_at"tc";walk_at"tE";walk_at"tE")
 | ((with_reducible refine' bV ?_ ?_ ?_ ?_);walk_at"tc";walk_at"tE";walk_at"tE";exact λ_ _=>rfl)
 | ((with_reducible refine' Pz (P:=P) (w:=w) (K:=K) (mg:=mg) (base:=base) ?_ ?_ ?_ ?_ ?_ ?_ ?_ ?_);rotate_left 1;exact⟨rfl,rfl,rfl,rfl,rfl⟩;walk_at"t3";walk_at"th";exact rfl;walk_at"tA";exact Eq.refl false;exact rfl;exact rfl)
 | ((with_reducible refine' cN ?_ ?_ ?_);walk_at"tk";walk_at"tE";exact rfl)
 | (with_reducible exact gK)
 | ((with_reducible refine' mH ?_);walk_at"tA")
 | ((with_reducible refine' mI ?_);walk_at"tA")
 | ((with_reducible refine' OT (mg:=mg) ?_ ?_ ?_ ?_ ?_ ?_ ?_ ?_ ?_ ?_);rotate_left 1;exact rfl;walk_at"t3";walk_at"t3";walk_at"tc";exact rfl;walk_at"tA";exact Eq.refl false;decide;exact rfl;exact rfl)
 | (with_reducible exact jq)
 | (with_reducible exact Kz)
 | ((with_reducible refine' Ni (mg:=mg) ?_ ?_ ?_ ?_ ?_ ?_ ?_ ?_ ?_ ?_);rotate_left 1;exact rfl;walk_at"t3";walk_at"t3";walk_at"tc";exact rfl;walk_at"tA";exact Eq.refl false;decide;exact rfl;exact rfl)
 | ((with_reducible refine' N3 (P:=P) (w:=w) (K:=K) (mg:=mg) (base:=base) ?_ ?_ ?_ ?_ ?_ ?_ ?_ ?_);rotate_left 1;exact⟨rfl,rfl,rfl,rfl,rfl⟩;walk_at"t3";walk_at"th";exact rfl;walk_at"tA";exact Eq.refl false;exact rfl;exact rfl)
 | ((with_reducible refine' LI ?_ ?_ ?_ ?_ ?_ ?_ ?_ ?_);walk_at"tk";walk_at"tE";walk_at"tA";exact rfl;exact rfl;exact rfl;exact rfl;exact rfl)
 | ((with_reducible refine' O8 (P:=P) (w:=w) (K:=K) (mg:=mg) (base:=base) ?_ ?_ ?_ ?_ ?_ ?_ ?_ ?_);rotate_left 1;walk_at"t3";exact⟨rfl,rfl,rfl,rfl,rfl⟩;walk_at"tE";walk_at"th";walk_at"tA";exact rfl;exact rfl;exact rfl)
 | ((with_reducible refine' KH (P:=P) (w:=w) (K:=K) (mg:=mg) (base:=base) ?_ ?_ ?_ ?_ ?_);rotate_left 1;walk_at"t3";exact⟨rfl,rfl,rfl,rfl,rfl⟩;walk_at"tE";walk_at"th";exact rfl)
 | ((with_reducible refine' sQ ?_ ?_ ?_ ?_);walk_at"tc";walk_at"tE";walk_at"tP";walk_at"tP")
 | ((with_reducible refine' lY ?_ ?_ ?_ ?_);walk_at"tc";walk_at"tE";walk_at"tE";exact rfl)
 | ((with_reducible refine' Ng (mg:=mg) ?_ ?_ ?_ ?_);exact rfl;walk_at"t3";exact rfl;exact Eq.refl false)
 | ((with_reducible refine' MI (mg:=mg) ?_ ?_ ?_ ?_);exact rfl;walk_at"t3";exact rfl;exact Eq.refl false)
 | ((with_reducible refine' J_ ?_ ?_);walk_at"tc";walk_at"tE")
 | ((with_reducible refine' sJ ?_ ?_ ?_);walk_at"tT";walk_at"tE";walk_at"tE")
 | ((with_reducible refine' Bf ?_);walk_at"tE")
 | ((with_reducible refine' E9 ?_ ?_);walk_at"tE";walk_at"tE")
 | ((with_reducible refine' JD ?_ ?_);walk_at"tE";walk_at"tE")
 | (with_reducible exact zj))
local macro_rules | `(tactic| walk_at "tl") => `(tactic| first | exact .inl rfl | exact .inr rfl | exact .inr (.inl rfl) | exact .inr (.inr rfl))
local macro_rules | `(tactic| walk_at "tn") => `(tactic| exact nd)
local macro_rules | `(tactic| walk_at "tk") => `(tactic| exact (rfl : _ = K))
local macro_rules | `(tactic| walk_at "th") => `(tactic| exact hr.mono (by decide))
local macro_rules | `(tactic| walk_at "ti") => `(tactic| ((with_reducible first | refine SA nd ?_ | refine Sj nd ?_ | refine RX nd ?_ | refine R1 nd ?_ | refine Se nd ?_ | refine SI nd ?_ | refine Sb nd ?_ | refine Sl nd ?_ | refine Sx nd ?_ | refine R9 nd ?_ | refine Rr nd ?_ | refine Rq nd ?_ ); rfl))
local macro_rules | `(tactic| walk_at "tc") => `(tactic| ((with_reducible first | exact uH | exact De | exact jQ | exact EA | exact Hs | exact JM | exact yU | exact Py | exact vo | exact Qu | exact Md | exact E_ | exact xc | exact Ab | exact EY | exact Nx | exact GN | refine' dG ?_ | refine' uA ?_ ?_ | refine' mE ?_ ?_ | refine' Mu ?_ | refine' Fi ?_ | refine' cS ?_ | refine' Hz ?_ | refine' eG ?_ | refine' EX ?_ | refine' xl ?_) <;> first | exact (rfl : _ = K) | exact hr.units))
local macro_rules | `(tactic| walk_at "t3") => `(tactic| with_reducible first | exact T.jb | exact je | exact T.GW | exact F3 | exact DK T | exact T.Gk | exact T.qi | exact pB | exact oM T | exact ka "height" 1 | exact hV T | exact T.Ci | exact T.t7 | exact Eh T | exact BM T | exact T.BG | exact T.f9 | exact ka "word" 1 | exact ka "word_ahead_of" 1 | exact T.PV | exact Qt | exact FN T | exact T.Bx | exact G0 T | exact Gi T | exact ka "at" 1 | exact yl T | exact Em T | exact T.Hj | exact ka "forget" 1 | exact ka "go_on" 2 | exact ka "keeps" 3 | exact T.lR | exact tP T | exact BL T | exact wK T | exact ka "boxes" 1 | exact T.BP | exact T.IC | exact vC T | exact T.xb | exact T.MA | exact T.wd | exact AG T | exact T.Gz | exact ka "drop" 5 | exact ka "do" 3 | exact ka "runs" 2 | exact ka "land" 3 | exact pL T | exact wj T | exact ou T | exact jA T | exact mS T | exact ka "goes" 1 | exact vp T | exact Nn T | exact K2 T | exact MQ T | exact Oa T | exact OR T | exact Fp T | exact L4 T | exact FO T | exact LK T | exact KP T | exact LS T | exact Lm T | exact va T | exact ka "fault" 1 | exact mD T | exact uB T | exact CC T | exact Ar T | exact ka "step" 6 | exact BK T | exact yS T)
local macro_rules | `(tactic| walk_at "s") => `(tactic| (refine Pq rfl (by dsimp only [L3.pZ]) ?_))
local macro_rules | `(tactic| walk_at "h") => `(tactic| (refine' ⟨_, ?_, ?_⟩; rotate_left))
local macro_rules | `(tactic| walk_at "v") => `(tactic| (walk_at "t0"; walk_at "s"))
local macro_rules | `(tactic| walk_at "n") => `(tactic| (with_reducible refine' aR ?_ ?_))
local macro_rules | `(tactic| walk_at "m") => `(tactic| (with_reducible refine' fE ?_))
local macro_rules | `(tactic| walk_at "c") => `(tactic| (walk_at "n"; walk_at "tS"))
local macro_rules | `(tactic| walk_at "x") => `(tactic| (with_reducible refine' PS.eZ ?_))
local macro_rules | `(tactic| walk_at "y") => `(tactic| (with_reducible refine' PT.eZ ?_))
local macro_rules | `(tactic| walk_at "f") => `(tactic| (with_reducible refine' Ki ?_ ?_ ?_))
local macro_rules | `(tactic| walk_at "g") => `(tactic| ((with_reducible refine' A7 ?_ ?_ ?_ ?_ ?_ ?_); exact acA; exact rfl))
set_option hygiene true
local macro_rules | `(tactic| walk_at "rk") => `(tactic| repeat (first | (with_reducible first | refine K1 ?_ | refine Nk ?_ | refine N1 ?_ | refine Qo ?_ | (refine' Jj ?x ?_; (case x => with_unfolding_all rfl)) | (refine' Ii ?x ?_; (case x => with_unfolding_all rfl)) | refine M2 ?_ | refine Nv ?_ | refine OK ?_ | refine LY ?_ | refine RL ?_ | refine RI ?_ | refine Qy ?_ | refine Pk ?_ | refine M3 ?_ | refine NF ?_ | refine ⟨_, rfl, ?_⟩) | (first | ((fail_if_success (fail_if_success (with_reducible refine L5 ?_))); (with_reducible refine λ_ _ => ?_)) | ((with_reducible refine' RB ?x ?y ?_); (case x => walk_at "tt"); (case y => walk_at "tt")) | ((with_reducible refine' PN ?x ?_); (case x => walk_at "sql")) | ((with_reducible refine' P7 ?x ?_); (case x => walk_at "sqt")) | ((with_reducible refine' Qn ?x ?_); (case x => walk_at "sql")) | ((with_reducible refine' Kg ?x ?_); (case x => walk_at "sql")) | ((with_reducible refine' Ik ?x ?y ?z ?_); (case x => walk_at "hlk"); (case y => walk_at "tt"); (case z => walk_at "tt")) | ((with_reducible refine' II ?x ?y ?z ?_); (case x => walk_at "hlk"); (case y => walk_at "hlk"); (case z => walk_at "small")) | ((with_reducible refine' Qr ?x ?_); (case x => walk_at "hlk")) | ((with_reducible refine' IP ?h ?_); (case h => walk_at "cmul")) | ((with_reducible refine' tK ?x ?y ?_); (case x => walk_at "hlk"); (case y => walk_at "small")) | ((with_reducible refine' eY ?c ?t ?e ?_); (case c => exact λz => nomatch z); (case t => walk_at "ty"); (case e => walk_at "kit"))) | (first | ((with_reducible refine' GC ?h ?_); (case h => first | exact ⟨by decide, by decide⟩ | (show (0 : Int) < _; first | decide | omega) | (show (0 : Int) <= _; first | decide | omega))) | ((with_reducible refine' Ke ?x ?_); (case x => intro hh; exact absurd hh (by decide)); intro _) | ((with_reducible refine' Ke ?_ ?x); (case x => intro hh; exact absurd hh (by decide)); intro _) | ((with_reducible refine' ky ?x ?_); (case x => intro hh; exact absurd hh (by walk_at "nn")); intro _) | ((with_reducible refine' ky ?_ ?x); (case x => intro hh; exact absurd (by walk_at "tt") hh); intro _) | ((with_reducible refine' gQ ?x ?_); (case x => intro hh; exact absurd (by walk_at "tt") hh); intro _) | ((with_reducible refine' gQ ?_ ?x); (case x => intro hh; exact absurd hh (by walk_at "nn")); intro _) | ((with_reducible refine' cW ?x ?_); (case x => intro hh; exact absurd hh (by walk_at "nn")); intro _) | ((with_reducible refine' cW ?_ ?x); (case x => intro hh; exact absurd (by walk_at "tt") hh); intro _) | ((with_reducible refine' vB ?x ?_); (case x => intro hh; exact absurd (by walk_at "tt") hh); intro _) | ((with_reducible refine' vB ?_ ?x); (case x => intro hh; exact absurd hh (by walk_at "nn")); intro _)) | (first | ((with_reducible refine' FY ?a ?b ?_); (case a => omega); (case b => omega)) | ((with_reducible refine' Gy ?h ?a ?b ?_); (case h => walk_at "sql"); (case a => omega); (case b => omega)) | ((with_reducible refine' JA ?h ?a ?_); (case h => walk_at "sql"); (case a => omega)) | (with_reducible refine xq ?_) | (with_reducible refine Ic ?_) | ((with_reducible refine' K8 ?a ?b ?_); (case a => omega); (case b => omega)) | ((with_reducible refine' Ju ?a ?b ?c ?_); (case a => omega); (case b => omega); (case c => omega)) | ((with_reducible refine' Ml ?x ?y ?z ?_); (case x => walk_at "hlk"); (case y => walk_at "tt"); (case z => walk_at "tt")) | ((with_reducible refine' uF ?h ?e ?_); (case h => walk_at "sqt"); (case e => walk_at "at")) | ((with_reducible refine' cy ?h ?e ?_); (case h => walk_at "sql"); (case e => walk_at "at"))) | (first | (with_reducible refine Lw ?_) | (with_reducible refine Pd ?_) | (with_reducible refine wb ?_) | (with_reducible refine Li ?_) | ((with_reducible refine' IA ?x ?y ?_); (case x => walk_at "sql"); (case y => first | assumption | apply_assumption)) | (with_reducible refine Ag ?_) | ((with_reducible refine' AS ?x ?_); (case x => walk_at "hlk")) | ((with_reducible refine' qR ?x ?y ?z ?_); (case x => walk_at "hlk"); (case y => walk_at "hlk"); (case z => walk_at "small"))) | (first | (with_reducible refine wb ?_) | (with_reducible refine IV ?_) | (with_reducible refine Og ?_) | (with_reducible refine oY ?_) | (with_reducible refine RD ?_) | (with_reducible refine Nh ?_) | (with_reducible refine La ?_) | (with_reducible refine Ag ?_) | (with_reducible refine GQ ?_) | (with_reducible refine Av ?_) | (with_reducible refine Kr ?_) | (with_reducible refine Kw ?_) | (with_reducible refine wu ?_) | (with_reducible refine zW ?_) | ((with_reducible refine' Gx ?x ?y ?_); (case x => walk_at "sqt"); (case y => with_unfolding_all rfl)) | ((with_reducible refine' AS ?x ?_); (case x => walk_at "hlk")) | ((with_reducible refine' jj ?x ?y ?_); (case x => walk_at "hlk"); (case y => walk_at "small")) | ((with_reducible refine' qR ?x ?y ?z ?_); (case x => walk_at "hlk"); (case y => walk_at "hlk"); (case z => walk_at "small"))) | (first | (with_reducible refine O9 ?_) | (with_reducible refine wb ?_) | (with_reducible refine PR ?_) | (with_reducible refine Nw ?_) | (with_reducible refine Ag ?_) | (with_reducible refine GQ ?_) | (with_reducible refine Av ?_) | (with_reducible refine Kr ?_) | (with_reducible refine Kw ?_) | (with_reducible refine wu ?_) | (with_reducible refine zW ?_) | ((with_reducible refine' Gx ?x ?y ?_); (case x => walk_at "sqt"); (case y => with_unfolding_all rfl)) | ((with_reducible refine' AS ?x ?_); (case x => walk_at "hlk")) | ((with_reducible refine' jj ?x ?y ?_); (case x => walk_at "hlk"); (case y => walk_at "small")) | ((with_reducible refine' qR ?x ?y ?z ?_); (case x => walk_at "hlk"); (case y => walk_at "hlk"); (case z => walk_at "small"))) | ((with_reducible refine' JO ?h ?_); (case h => rfl)) | ((with_reducible refine' JT ?h ?_); (case h => rfl)) | ((with_reducible refine' GZ ?h ?c ?n ?l ?_); (case h => walk_at "hlk"); (case c => walk_at "cls"); (case n => walk_at "noat"); (case l => walk_at "lk"))))
section
variable {l:Addr}
theorem il {A:Hp}{b:Addr}{x:HO}(h:(upd A l x) b=none):A b=none/\b≠l:=by
 by_cases e:b=l
 . rw[e,aa] at h;cases h
 . rw[ai e] at h;exact⟨h,e⟩
def dD (rs:List Rw)(ls:List (Int×Int))(i:Nat):List Int:=match rs[i]? with
 | some r=>r.du i++(if r.isCall=true/\(i:Int)∈ls.map (·.1) then [lv ls i] else [])
 | none=>[]
inductive RH (rs:List Rw) (ls:List (Int×Int)):Int->Int->Prop
 | start:RH rs ls 0 0
 | way {i:Nat} {h h' w:Int} {r:Rw}:RH rs ls (i:Int) h->rs[i]? = some r->r.aB h=some h'->w∈dD rs ls i->RH rs ls w h'
 | call {i:Nat} {h t:Int}:RH rs ls (i:Int) h->rs[i]? = some (.call t)->RH rs ls t 0
def y9 (rs:List Rw)(ls:List (Int×Int)):Prop:=∃ (i h:Int),RH rs ls i h/\(i<0∨(rs.length:Int)<=i∨(∃ r,rs[i.toNat]? = some r/\r.aB h=none)∨∃ h2,RH rs ls i h2/\h2≠h)
structure D2 (rs:List Rw)(ls:List (Int×Int))(hs:List (Option Int)):Prop where
 len:hs.length=rs.length
 rh:∀ (i:Nat) (h:Int),hs[i]? = some (some h)->RH rs ls (i:Int) h
 start:hs[0]? = some (some 0)
 cl:∀ (i:Nat) (h:Int) (r:Rw),hs[i]? = some (some h)->rs[i]? = some r->∃ h',r.aB h=some h'/\∀ w∈dD rs ls i,0<=w/\hs[w.toNat]? = some (some h')
 tg:∀ (i:Nat) (h t:Int),hs[i]? = some (some h)->rs[i]? = some (.call t)->0<=t/\hs[t.toNat]? = some (some 0)
def nV (k:Nat):V:=.int (k:Int)
def qr (H:Hp)(ly:Addr)(rs:List Rw)(ls:List (Int×Int)):Prop:=∃ TM:List Addr,H ly=some (.lst (TM.map V.ref))/\TM.length=rs.length/\∀ (i:Nat) (p:Addr),TM[i]? = some p->H p=some (.lst ((dD rs ls i).map V.int))
variable {ls:List (Int×Int)}
theorem qr.same {ly:Addr}(h:qr H ly rs ls)(s:ak H H'):qr H' ly rs ls:=let ⟨TM,h1,h2,h3⟩:=h;⟨TM,s _ _ h1,h2,λi p e=>s _ _ (h3 i p e)⟩
def IS (K:W.Frag)(a:bE):Sp:=λvs H Q _=>∃ (c d:Addr) (i:Nat) (prs:List Addr) (rs:List Rw) (ls:List (Int×Int)),vs=[.ref c,.ref d,.int (i:Int)]/\H c=some (.lst (prs.map V.ref))/\bH a H prs rs/\(∀ r∈rs,r.ok/\r.here)/\H d=some (.dK (au ls))/\(ls.map (·.1)).Nodup/\i<rs.length /\
 ∀ p H',ak H H'->H p=none->H' p=some (.lst ((dD rs ls i).map V.int))->Q (.ref p) H'
def CZ (a:bE):Sp:=λvs H Q E=>∃ (lh lw:Addr) (n Uy:Int) (hs:List (Option Int)) (ws:List Nat),vs=[.ref lh,.ref lw,.int n,.int Uy]/\H lh=some (.lst (hs.map bI))/\H lw=some (.lst (ws.map nV))/\hs.length<=2000/\ws.length<=2000/\-10000<=n/\n<=10000/\lh≠lw /\
 ((n<0∨(hs.length:Int)<=n∨∃ h2,hs[n.toNat]? = some (some h2)/\h2≠Uy)->E (.ref a.fh) none H)/\(0<=n->hs[n.toNat]? = some (some Uy)->Q .aA H) /\
 (0<=n->hs[n.toNat]? = some none->Q .aA (upd (upd H lh (.lst ((hs.set n.toNat (some Uy)).map bI))) lw (.lst ((ws++[n.toNat]).map nV))))
def bL (ks:List Nat):List (Key×V):=ks.map λk:Nat=>((Sum.inl (k:Int):Key),V.bl true)
def cw:Option Nat->V
 | none=>.aA
 | some s=>.int (s:Int)
def jU (ks:List Nat)(k:Nat):List Nat:=if k∈ks then ks else ks++[k]
def jh (o:Option Nat)(p:Nat):Nat:=match o with
 | none=>p
 | some s=>s &&& p
def zD:Sp:=λvs H Q _=>∃ (lsx dc:Addr) (n p:Nat) (ss:List (Option Nat)) (ks:List Nat) (o:Option Nat),vs=[.ref lsx,.ref dc,.int (n:Int),.int (p:Int)]/\H lsx=some (.lst (ss.map cw))/\H dc=some (.dK (bL ks))/\ss.length<=2000/\ks.length<=2000/\ks.Nodup/\ss[n]? = some o /\
 (o=some (jh o p)->Q .aA H)/\(o≠some (jh o p)->Q .aA (upd (upd H lsx (.lst ((ss.set n (some (jh o p))).map cw))) dc (.dK (bL (jU ks n)))))
theorem Ek {n k:Nat}(h:k<n):og n (k:Int)=some k:=by
 unfold og;rw[if_pos (by lia),if_pos (by lia)];rfl
theorem ID {ks:List Nat}(n:Nat):putK (bL ks) (.inl (n:Int)) (.bl true)=bL (jU ks n):=by
 unfold putK jU;have e:((bL ks).any λkv=>decide (kv.1=(Sum.inl (n:Int):Key)))=decide (n∈ks):=by
   unfold bL;rw[List.any_map]
   induction ks with
   | nil=>rfl
   | cons k r ih =>
     rw[abt,ih];by_cases h:k=n
     . subst h;simp
     . have h2 : ¬ n = k := λz => h z.symm;have h3 : ¬ ((Sum.inl (k:Int):Key)=Sum.inl (n:Int)):=λz=>h (by have:=ac0 z;lia);simp only[Function.comp_apply,aaQ,h2,false_or];rw[decide_eq_false h3,ac6]
 rw[e];by_cases h:n∈ks
 . rw[if_pos (decide_eq_true h),if_pos h];unfold bL;rw[aba];refine congrArg (λf=>ks.map f) (funext λk=>?_);show(if _ then _ else _)=_;split <;> rfl
 . rw[if_neg (by rw[decide_eq_false h]; exact aan), if_neg h];unfold bL;rw[aaF];rfl
theorem Lc {ks:List Nat}(h:ks.Nodup)(n:Nat):(jU ks n).Nodup:=by
 unfold jU;split
 . exact h
 . rename_i hn;exact List.nodup_append.mpr ⟨h,(by simp),λa ha b hb=>by rw[List.mem_singleton.mp hb];exact λz=>hn (z ▸ ha)⟩
theorem FI (ks:List Nat):(bL ks).map (·.1)=(ks.map λk:Nat=>(k:Int)).map Sum.inl:=by
 unfold bL;rw[aba,aba];rfl
variable {α : Type}
theorem qu (f : α->V)(xs:List α)(n:Nat)(x : α):(xs.map f).set n (f x)=(xs.set n x).map f:=by rw[List.map_set]
theorem m9 (h1 : -10000<=n)(h2:n<=10000):n.natAbs.log2<1900:=by
 by_cases h:n.natAbs=0
 . rw[h];decide
 . exact(Nat.log2_lt h).mpr (aay (show n.natAbs<2 ^ 14 by omega) (acI (by decide) (by decide)))
def dN (ls:List (Int×Int)):Prop:=(ls.map (·.1)).Nodup/\ls.length<64/\∀ p∈ls,-10000<=p.2/\p.2<=10000
theorem Oc {k:Int}(h:k∈ls.map (·.1)):∃ p∈ls,lv ls k=p.2:=by
 unfold lv;obtain⟨p,hp,e⟩:=List.mem_map.mp h;cases hf:ls.find? λp=>decide (p.1=k) with
 | none =>
   have:=List.find?_eq_none.mp hf p hp
   rw[decide_eq_true e] at this;exact absurd rfl this
 | some q=>exact⟨q,List.mem_of_find?_eq_some hf,rfl⟩
theorem D5 (az:∀ r∈rs,r.ok/\r.here)(hl:dN ls)(hn:rs.length<=2000){i:Nat}:∀ w∈dD rs ls i,-10000<=w/\w<=10000:=by
 intro w hw;unfold dD at hw;cases h:rs[i]? with
 | none=>rw[h] at hw;cases hw
 | some r =>
   rw[h] at hw;have hi:=(List.getElem?_eq_some_iff.mp h).1;have ho:=(az r (aaj h)).1;rcases List.mem_append.mp hw with hw | hw
   . cases r <;> simp only[Rw.du,aaQ,aaR,or_false] at hw <;> simp only[Rw.ok,aM,isVal,aH,aW] at ho <;> lia
   . split at hw
     . rename_i hc;rw[List.mem_singleton.mp hw];obtain⟨p,hp,e⟩:=Oc hc.2;rw[e];exact hl.2.2 p hp
     . cases hw
def nN (hs:List (Option Int)):Nat:=(hs.filter λo=>o.isNone).length
theorem Bi:∀ {hs:List (Option Int)} {n:Nat} {x:Int},hs[n]? = some none->nN (hs.set n (some x))+1=nN hs
 | [],n,x,h=>by simp at h
 | o :: r, 0, x, h => by
   have e:o=none:=by simpa using h
   subst e;rfl
 | o :: r, n + 1, x, h => by
   have ih:=@Bi r n x (by simpa using h);unfold nN at ih ⊢;rw[List.set_cons_succ,List.filter_cons,List.filter_cons];split
   . rw[aaA,aaA];lia
   . exact ih
theorem My (n:Nat):nN (aat n none)=n:=by
 unfold nN;rw[List.filter_eq_self.mpr (λa ha=>by rw[List.eq_of_mem_replicate ha];rfl),aaB]
def Nm (rs:List Rw)(ls:List (Int×Int))(hs:List (Option Int))(i:Nat):Prop:=∀ (h:Int) (r:Rw),hs[i]? = some (some h)->rs[i]? = some r ->
 (∃ h',r.aB h=some h'/\∀ w∈dD rs ls i,0<=w/\hs[w.toNat]? = some (some h'))/\∀ t,r=.call t->0<=t/\hs[t.toNat]? = some (some 0)
structure HI (rs:List Rw)(ls:List (Int×Int))(hs:List (Option Int))(ws:List Nat)(ex:Option Nat):Prop where
 len:hs.length=rs.length
 rh:∀ (i:Nat) (h:Int),hs[i]? = some (some h)->RH rs ls (i:Int) h
 KA:∀ k∈ws,∃ h,hs[k]? = some (some h)
 cl:∀ i,i ∉ ws->some i≠ex->Nm rs ls hs i
 J7:ws.length+nN hs<=hs.length
variable {h:Int} {hs:List (Option Int)}
theorem gL {n i:Nat}{x:Int}(e:hs[n]? = some none)(hi:hs[i]? = some (some h)):(hs.set n (some x))[i]? = some (some h):=by
 have ne:n≠i:=λz=>by rw[z,hi] at e;cases e
 rw[aaP ne];exact hi
theorem HI.new {ws:List Nat}{ex:Option Nat}{n:Nat}{x:Int}(I:HI rs ls hs ws ex)(e:hs[n]? = some none)(r:RH rs ls (n:Int) x):HI rs ls (hs.set n (some x)) (ws++[n]) ex:=by
 have hn:=(List.getElem?_eq_some_iff.mp e).1;refine⟨by rw[abx];exact I.len,λi h hi=>?_,λk hk=>?_,λi hi hx h r' hh hr'=>?_,?_⟩
 . by_cases z:n=i
   . subst z;rw[aaO hn] at hi;cases hi;exact r
   . rw[aaP z] at hi;exact I.rh i h hi
 . rcases List.mem_append.mp hk with hk | hk
   . obtain⟨h, hh⟩ := I.KA k hk;exact⟨h,gL e hh⟩
   . rw[List.mem_singleton.mp hk];exact⟨x,aaO hn⟩
 . have z : n ≠ i := λz => hi (aax _ (List.mem_singleton.mpr z.symm));rw[aaP z] at hh;obtain⟨⟨h',a1,a2⟩,a3⟩:=I.cl i (λhm=>hi (aa5 _ hm)) hx h r' hh hr';exact⟨⟨h',a1,λw hw=>⟨(a2 w hw).1,gL e (a2 w hw).2⟩⟩,λt ht=>⟨(a3 t ht).1,gL e (a3 t ht).2⟩⟩
 . have h1 := Bi (x := x) e;have h2:=I.J7;rw[aab,abx];show _+1+_<=_;lia
def P0 (K:W.Frag)(a:bE):Sp:=λvs H Q E=>∃ (c ly:Addr) (prs:List Addr) (rs:List Rw) (ls:List (Int×Int)),vs=[.ref c,.ref ly]/\H c=some (.lst (prs.map V.ref))/\bH a H prs rs/\(∀ r∈rs,r.ok/\r.here)/\0<rs.length/\rs.length<=2000/\dN ls/\qr H ly rs ls /\
 (y9 rs ls->∀ H',ak H H'->E (.ref a.fh) none H')/\∀ l hs H',ak H H'->H l=none->H' l=some (.lst (hs.map bI))->D2 rs ls hs->Q (.ref l) H'
theorem HI.reach {ws:List Nat}{ex:Option Nat}{x:Int}(I:HI rs ls hs ws ex)(r:RH rs ls n x):(n<0∨(hs.length:Int)<=n∨∃ h2,hs[n.toNat]? = some (some h2)/\h2≠x)->y9 rs ls:=by
 intro hb;by_cases h0:n<0
 . exact⟨n,x,r,.inl h0⟩
 . rcases hb with hb | hb | ⟨h2,e2,n2⟩
   . exact absurd hb h0
   . exact⟨n,x,r,.inr (.inl (by rw[<- I.len];exact hb))⟩
   . have e3 := I.rh _ _ e2;rw[show((n.toNat:Nat):Int)=n by lia] at e3;exact⟨n,x,r,.inr (.inr (.inr ⟨h2,e3,n2⟩))⟩
theorem HI.close {ws:List Nat}{k:Nat}(I:HI rs ls hs ws (some k))(c:Nm rs ls hs k):HI rs ls hs ws none:=⟨I.len,I.rh,I.KA,λi hi _=>by
 by_cases z:i=k
 . rw[z];exact c
 . exact I.cl i hi (λe=>z (aaw e)),I.J7⟩
theorem uS:∀ (n:Nat) (ks:List Nat),ks.Nodup->(∀ k∈ks,k<n)->ks.length<=n
 | 0, ks, _, h => by
   cases ks with
   | nil=>exact aah _
   | cons k r=>exact absurd (h k (abu ..)) (acb k)
 | n + 1, ks, Us, h => by
   by_cases hm:n∈ks
   . have := uS n (ks.erase n) (Us.erase n) λk hk => by
       have h1:=Us.mem_erase_iff.mp hk
       have:=h k h1.2
       have:=h1.1
       lia
     rw[List.length_erase_of_mem hm] at this;lia
   . have := uS n ks Us λk hk => by
       have h1:=h k hk;have h2:k≠n:=λz=>hm (z ▸ hk)
       lia
     lia
def Sub (x y:Nat):Prop:=x &&& y=x
variable {x y:Nat}
theorem Sub.iff:Sub x y ↔ ∀ i,x.testBit i=true->y.testBit i=true:=by
 unfold Sub
 constructor
 . intro h i hi
   have:=congrArg (λz=>z.testBit i) h
   simp only[aaS,hi,Bool.true_and] at this;exact this
 . intro h;apply abi;intro i;rw[aaS];cases hx:x.testBit i with
   | false=>rfl
   | true=>rw[h i hx];rfl
theorem Sub.refl (x:Nat):Sub x x:=Nat.and_self x
theorem Sub.trans {z:Nat}(h:Sub x y)(k:Sub y z):Sub x z:=Sub.iff.mpr λi hi=>Sub.iff.mp k i (Sub.iff.mp h i hi)
theorem Sub.left (x y:Nat):Sub (x &&& y) x:=Sub.iff.mpr λi hi=>by rw[aaS,aaM] at hi;exact hi.1
theorem Sub.right (x y:Nat):Sub (x &&& y) y:=Sub.iff.mpr λi hi=>by rw[aaS,aaM] at hi;exact hi.2
theorem Sub.both {g:Nat}(h:Sub g x)(k:Sub g y):Sub g (x &&& y):=Sub.iff.mpr λi hi=>by rw[aaS,Sub.iff.mp h i hi,Sub.iff.mp k i hi];rfl
theorem G7 {p:Nat}(h:Sub x y):Sub (Bt.wo x p) (Bt.wo y p):=Sub.iff.mpr λi hi=>by
 rw[Bt.jH,aaM] at hi ⊢;exact⟨Sub.iff.mp h i hi.1,hi.2⟩
theorem F9 {p q:Nat}(h:Sub x y):Sub (fC x p q) (fC y p q):=by
 unfold fC;by_cases hx:x &&& q=0
 . rw[if_pos hx];by_cases hy:y &&& q=0
   . rw[if_pos hy];exact G7 h
   . rw[if_neg hy];refine Sub.iff.mpr λi hi=>?_;rw[Bt.jH,aaM] at hi;rw[adE,Sub.iff.mp h i hi.1];rfl
 . have hy : ¬ y &&& q = 0 := λz => hx (by
     apply abi;intro i
     have:=congrArg (λz=>z.testBit i) z
     simp only[aaS,ab2] at this ⊢;cases hxi:x.testBit i with
     | false=>rfl
     | true=>rw[Sub.iff.mp h i hxi] at this;exact this)
   rw[if_neg hx,if_neg hy];refine Sub.iff.mpr λi hi=>?_;rw[adE,Bool.or_eq_true] at hi ⊢;rcases hi with hi | hi
   . exact .inl (Sub.iff.mp h i hi)
   . exact .inr hi
theorem Jc (r:Rw)(h:Int)(k:Sub x y):Sub (r.keep x h) (r.keep y h):=by
 cases r
 all_goals first | exact k | exact G7 k | exact F9 k
theorem JI (x p:Nat):Bt.wo x p<=x:=by
 have:Sub (Bt.wo x p) x:=Sub.iff.mpr λi hi=>by rw[Bt.jH,aaM] at hi;exact hi.1
 rw[<- this];exact adf
theorem tH {p q n:Nat}(h:x<2 ^ n)(k:p<2 ^ n):fC x p q<2 ^ n:=by
 unfold fC;split
 . exact abe (JI _ _) h
 . exact Nat.or_lt_two_pow h k
theorem Me (ho:r.ok)(h0 : 0<=h)(h1:h<=4000)(hx:x<2 ^ 4100):r.keep x h<2 ^ 4100:=by
 have zU:∀ m:Nat,m<4100->2 ^ m<2 ^ 4100:=λm hm=>adC (by decide) hm;cases r
 case copy=>exact tH hx (zU _ (by simp only[Rw.ok,aM] at ho;omega))
 case put=>exact tH hx (zU _ (by simp only[Rw.ok,aM,aH] at ho;omega))
 case get=>exact tH hx (zU _ (by simp only[Rw.ok,aM,aH] at ho;omega))
 all_goals first | exact hx | exact abe (JI _ _) hx
theorem Ft {h':Int}(ho:r.ok)(hb : 0<=h/\h<=4000)(hh:r.aB h=some h') : 0<=h'/\h'<=4000:=by
 cases r
 case grow m =>
   simp only[Rw.aB] at hh;simp only[Rw.ok,aH] at ho;split at hh
   . cases hh
   . have:=aaw hh;lia
 case shrink m =>
   simp only[Rw.aB] at hh;simp only[Rw.ok,aH] at ho;split at hh
   . cases hh
   . have:=aaw hh;lia
 case put b c =>
   simp only[Rw.aB] at hh;split at hh
   . cases hh
   . have:=aaw hh;lia
 case get b c =>
   simp only[Rw.aB] at hh;split at hh
   . cases hh
   . have:=aaw hh;lia
 all_goals (have:=aaw (show some h=some h' from hh);lia)
theorem Qw (az:∀ r∈rs,r.ok/\r.here)(r:RH rs ls i h) : 0<=h/\h<=4000:=by
 induction r with
 | start=>exact⟨by decide,by decide⟩
 | way _ hr hh _ ih=>exact Ft (az _ (aaj hr)).1 ih hh
 | call=>exact⟨by decide,by decide⟩
def Cons (rs:List Rw)(ls:List (Int×Int))(hs:List (Option Int))(first:Nat)(g:Nat->Nat):Prop:=Sub (g 0) first/\∀ (i:Nat) (h:Int) (r:Rw),hs[i]? = some (some h)->rs[i]? = some r->(∀ w∈dD rs ls i,Sub (g w.toNat) (r.keep (g i) h))/\∀ t,r=.call t->Sub (g t.toNat) first
def OA (rs:List Rw)(ls:List (Int×Int))(hs:List (Option Int))(first:Nat)(ss:List (Option Nat))(i:Nat):Prop:=∀ (s:Nat) (h:Int) (r:Rw),ss[i]? = some (some s)->hs[i]? = some (some h)->rs[i]? = some r ->
 (∀ w∈dD rs ls i,∃ s',ss[w.toNat]? = some (some s')/\Sub s' (r.keep s h))/\∀ t,r=.call t->∃ s',ss[t.toNat]? = some (some s')/\Sub s' first
structure PI (rs:List Rw)(ls:List (Int×Int))(hs:List (Option Int))(first:Nat)(ss:List (Option Nat))(T4:Nat->Prop):Prop where
 len:ss.length=rs.length
 rd:∀ (i s:Nat),ss[i]? = some (some s)->∃ h,hs[i]? = some (some h)
 bd:∀ (i s:Nat),ss[i]? = some (some s)->s<2 ^ 4100
 cl:∀ i,¬ T4 i->OA rs ls hs first ss i
 up:∀ g,Cons rs ls hs first g->∀ (i s:Nat),ss[i]? = some (some s)->Sub (g i) s
def fG (ss ss':List (Option Nat)):Prop:=∀ (i s:Nat),ss[i]? = some (some s)->∃ s',ss'[i]? = some (some s')/\Sub s' s
theorem fG.refl (ss:List (Option Nat)):fG ss ss:=λi s h=>⟨s,h,Sub.refl s⟩
theorem fG.trans {a b c:List (Option Nat)}(h:fG a b)(k:fG b c):fG a c:=λi s e=>by
 obtain⟨s1,e1,q1⟩:=h i s e;obtain⟨s2,e2,q2⟩:=k i s1 e1;exact⟨s2,e2,q2.trans q1⟩
def bY:List (Option Nat)->Nat
 | []=>0
 | none::r=>2 ^ 4200+bY r
 | some s::r=>s+bY r
theorem s_:∀ {ss:List (Option Nat)} {n:Nat} {o:Option Nat} {x:Nat},ss[n]? = some o->(∀ s,o=some s->x<s)->x<2 ^ 4200->bY (ss.set n (some x))<bY ss
 | [],n,o,x,h,_,_=>by simp at h
 | none::r,0,o,x,h,_,hx=>by show x+bY r<2 ^ 4200+bY r;lia
 | some s :: r, 0, o, x, h, k, _ => by
   have:=k s (by simpa using h.symm)
   show x+bY r<s+bY r;lia
 | none :: r, n + 1, o, x, h, k, hx => by
   have:=s_ (ss:=r) (n:=n) (o:=o) (x:=x) (by simpa using h) k hx
   show 2 ^ 4200+bY (r.set n (some x))<2 ^ 4200+bY r;lia
 | some s :: r, n + 1, o, x, h, k, hx => by
   have:=s_ (ss:=r) (n:=n) (o:=o) (x:=x) (by simpa using h) k hx
   show s+bY (r.set n (some x))<s+bY r;lia
section
variable {rs:List Rw} {ls:List (Int×Int)} {hs:List (Option Int)} {first:Nat} {ss:List (Option Nat)} {T4:Nat->Prop} {n p:Nat} {o:Option Nat}
theorem zw (ho:ss[n]? = some o):fG ss (ss.set n (some (jh o p))):=λi s e=>by
 have hn:=(List.getElem?_eq_some_iff.mp ho).1;by_cases z:n=i
 . subst z;rw[ho] at e;cases e
   exact⟨_,aaO hn,Sub.left s p⟩
 . exact⟨s,by rw[aaP z];exact e,Sub.refl s⟩
theorem CW (ho:ss[n]? = some o)(Ui:o≠some (jh o p))(hb:p<2 ^ 4100):bY (ss.set n (some (jh o p)))<bY ss:=by
 have zU:(2:Nat) ^ 4100<2 ^ 4200:=adC (by decide) (by decide);refine s_ ho (λs e=>?_) ?_
 . subst e;have h1:s &&& p<=s:=adq;have h2:s &&& p≠s:=λz=>Ui (by show some s=some (s &&& p);rw[z]);show s &&& p<s;lia
 . cases o with
   | none=>show p<_;lia
   | some s=>exact abe (show s &&& p<=p from adf) (by lia)
theorem PI.narrow (I:PI rs ls hs first ss T4)(ho:ss[n]? = some o)(hh:∃ h,hs[n]? = some (some h))(hb:p<2 ^ 4100)(hg:∀ g,Cons rs ls hs first g->Sub (g n) p):PI rs ls hs first (ss.set n (some (jh o p))) (λi=>T4 i∨i=n):=by
 have hn:=(List.getElem?_eq_some_iff.mp ho).1;have hl:=zw (p:=p) ho;have hleft:Sub (jh o p) p:=by cases o with | none=>exact Sub.refl p | some s=>exact Sub.right s p
 refine⟨by rw[abx];exact I.len,λi s e=>?_,λi s e=>?_,λi hi s h r e1 e2 e3=>?_,λg cg i s e=>?_⟩
 . by_cases z:n=i
   . subst z;exact hh
   . rw[aaP z] at e;exact I.rd i s e
 . by_cases z:n=i
   . subst z;rw[aaO hn] at e;cases e
     cases o with
     | none=>exact hb
     | some s=>exact abe (show s &&& p<=p from adf) hb
   . rw[aaP z] at e;exact I.bd i s e
 . have z : n ≠ i := λz => hi (.inr z.symm);rw [aaP z] at e1;obtain ⟨a1,a2⟩:=I.cl i (λk=>hi (.inl k)) s h r e1 e2 e3;refine ⟨λw hw=>?_,λt ht=>?_⟩
   . obtain⟨s', b1, b2⟩ := a1 w hw;obtain⟨s2,c1,c2⟩:=hl _ _ b1;exact⟨s2,c1,c2.trans b2⟩
   . obtain⟨s', b1, b2⟩ := a2 t ht;obtain⟨s2,c1,c2⟩:=hl _ _ b1;exact⟨s2,c1,c2.trans b2⟩
 . by_cases z:n=i
   . subst z;rw[aaO hn] at e;cases e
     cases o with
     | none=>exact hg g cg
     | some s0=>exact(I.up g cg n s0 ho).both (hg g cg)
   . rw[aaP z] at e;exact I.up g cg i s e
theorem PI.weak {pend':Nat->Prop}(I:PI rs ls hs first ss T4)(h:∀ i,T4 i->pend' i):PI rs ls hs first ss pend':=⟨I.len,I.rd,I.bd,λi hi=>I.cl i λk=>hi (h i k),I.up⟩
theorem PI.done {pend':Nat->Prop}(I:PI rs ls hs first ss T4)(h:∀ i,¬ pend' i->¬ T4 i∨OA rs ls hs first ss i):PI rs ls hs first ss pend':=⟨I.len,I.rd,I.bd,λi hi=>by
 rcases h i hi with k | k
 . exact I.cl i k
 . exact k,I.up⟩
end
structure pO (rs:List Rw)(ls:List (Int×Int))(hs:List (Option Int))(first:Nat)(ss:List (Option Nat)):Prop where
 pi:PI rs ls hs first ss (λ_=>False)
 st:∃ s0,ss[0]? = some (some s0)/\Sub s0 first
def PU (K:W.Frag)(a:bE):Sp:=λvs H Q _=>∃ (c ly lh:Addr) (prs:List Addr) (rs:List Rw) (ls:List (Int×Int)) (hs:List (Option Int)) (first:Nat),vs=[.ref c,.ref ly,.ref lh,.int (first:Int)]/\H c=some (.lst (prs.map V.ref))/\bH a H prs rs/\(∀ r∈rs,r.ok/\r.here)/\0<rs.length/\rs.length<=2000/\dN ls/\qr H ly rs ls/\H lh=some (.lst (hs.map bI))/\D2 rs ls hs/\first<2 ^ 4100 /\
 ∀ l ss H',ak H H'->H l=none->H' l=some (.lst (ss.map cw))->pO rs ls hs first ss->Q (.ref l) H'
theorem NW {first:Nat}{ss:List (Option Nat)}(P:pO rs ls hs first ss)(r:RH rs ls i h):∃ s,ss[i.toNat]? = some (some s):=by
 induction r with
 | start=>obtain⟨s0,e,_⟩:=P.st;exact⟨s0,e⟩
 | way _ hr hh hw ih =>
   obtain⟨s,e⟩:=ih;rw[aaE] at e;obtain⟨h0,e0⟩:=P.pi.rd _ _ e;obtain⟨s',e',_⟩:=(P.pi.cl _ (λz=>z) s h0 _ e e0 hr).1 _ hw;exact⟨s',e'⟩
 | call _ hr ih =>
   obtain⟨s,e⟩:=ih;rw[aaE] at e;obtain⟨h0,e0⟩:=P.pi.rd _ _ e;obtain⟨s',e',_⟩:=(P.pi.cl _ (λz=>z) s h0 _ e e0 hr).2 _ rfl;exact⟨s',e'⟩
theorem yZ {first:Nat}{ss:List (Option Nat)}(O:D2 rs ls hs)(P:pO rs ls hs first ss){i:Nat}(e:hs[i]? = some (some h)):∃ s,ss[i]? = some (some s):=by
 obtain⟨s,e1⟩:=NW P (O.rh i h e);rw[aaE] at e1;exact⟨s,e1⟩
structure SG (rs:List Rw)(ls:List (Int×Int))(hs:List (Option Int))(sb s4 s5 s6:List (Option Nat)):Prop where
 ht:D2 rs ls hs
 pb:pO rs ls hs 128 sb
 p4:pO rs ls hs 16 s4
 p5:pO rs ls hs 32 s5
 p6:pO rs ls hs 64 s6
def gN (ss:List (Option Nat))(i:Nat):Int:=(((ss[i]?).join).getD 0:Nat)
def gU (hs:List (Option Int))(sb s4 s5 s6:List (Option Nat))(i:Nat):Option Ent:=((hs[i]?).join).map λh=>⟨h,gN sb i,gN s4 i,gN s5 i,gN s6 i⟩
structure Ef (rs:List Rw)(ls:List (Int×Int))(es:List (Option Ent)):Prop where
 len:es.length=rs.length
 of : 0<rs.length->∃ (hs:List (Option Int)) (sb s4 s5 s6:List (Option Nat)),SG rs ls hs sb s4 s5 s6/\∀ i,i<rs.length->es[i]? = some (gU hs sb s4 s5 s6 i)
def M8 (K:W.Frag)(a:bE):Sp:=λvs H Q E=>∃ (c d:Addr) (prs:List Addr) (rs:List Rw) (ls:List (Int×Int)),vs=[.ref c,.ref d]/\H c=some (.lst (prs.map V.ref))/\bH a H prs rs/\(∀ r∈rs,r.ok/\r.here)/\rs.length<=2000/\dN ls/\H d=some (.dK (au ls)) /\
 ((0<rs.length/\y9 rs ls)->∀ H',ak H H'->E (.ref a.fh) none H')/\∀ l ev es H',ak H H'->H l=none->H' l=some (.lst ev)->dj K H' ev es->Ef rs ls es->Q (.ref l) H'
def Q_ (K:W.Frag)(a:bE)(H H':Hp)(t:Addr)(ev:List V)(ls:List (Int×Int)):Prop:=∃ dt l d,H l=none/\H d=none/\H' t=some (.ins a.bZ dt (fU l d))/\H' l=some (.lst ev)/\H' d=some (.dK (au ls))
def wJ (K:W.Frag)(a:bE):Sp:=λvs H Q E=>∃ (c:Addr) (lvv:V) (prs:List Addr) (rs:List Rw) (ls:List (Int×Int)),vs=[.ref c,lvv]/\H c=some (.lst (prs.map V.ref))/\bH a H prs rs/\(∀ r∈rs,r.ok/\r.here)/\rs.length<=2000/\dN ls/\((lvv=.aA/\ls=[])∨∃ d,lvv=.ref d/\H d=some (.dK (au ls))) /\
 (((0<rs.length/\y9 rs ls)∨∃ es ks,Ef rs ls es/\ks.Perm (ls.map (·.1))/\dH rs es ls ks≠[])->∀ H',ak H H'->E (.ref a.fh) none H') /\
 ∀ t ev es ks H',ak H H'->H t=none->Q_ K a H H' t ev ls->dj K H' ev es->Ef rs ls es->ks.Perm (ls.map (·.1))->dH rs es ls ks=[]->Q (.ref t) H'
theorem DB (G:Ef rs ls es):∀ t,some t∈es->t.nn:=by
 intro t ht;obtain⟨i,hi,e⟩:=abD ht;have hn:i<rs.length:=by rw[<- G.len];exact hi
 obtain⟨hs,sb,s4,s5,s6,_,he⟩:=G.of (by lia);have e1:=he i hn;rw[aaa hi,e] at e1;have e2:gU hs sb s4 s5 s6 i=some t:=(aaw e1).symm;unfold gU at e2;obtain⟨h,_,e3⟩:=Option.map_eq_some_iff.mp e2;rw[<- e3];exact⟨abf _,abf _,abf _,abf _⟩
def ON (H:Hp)(v:V):Option Ent->Prop
 | none=>v=.aA
 | some e=>∃ p q,v=.ref p/\H p=some (.tup [.int e.h,.int e.b,.ref q])/\H q=some (.tup [.int e.v4,.int e.v5,.int e.v6])
def nz (H:Hp)(vs:List V)(es:List (Option Ent)):Prop:=vs.length=es.length/\∀ (i:Nat) (oe:Option Ent),es[i]? = some oe->∃ v,vs[i]? = some v/\ON H v oe
theorem nz.to (h:nz H vs es)(k:∀ b xs,H b=some (.tup xs)->H' b=some (.tup xs)):nz H' vs es:=⟨h.1,λi oe e=>by
 obtain⟨v,e1,e2⟩:=h.2 i oe e;refine⟨v,e1,?_⟩;cases oe with
 | none=>exact e2
 | some en=>obtain⟨p,q,a1,a2,a3⟩:=e2;exact⟨p,q,a1,k _ _ a2,k _ _ a3⟩⟩
theorem nz.nil:nz H [] []:=⟨rfl,λi oe e=>by simp at e⟩
theorem nz.snoc {v:V}{o:Option Ent}(h:nz H vs es)(q:ON H v o):nz H (vs++[v]) (es++[o]):=by
 refine⟨by rw[aab,aab,h.1];rfl,λi oe e=>?_⟩;by_cases hi:i<es.length
 . rw[aao hi] at e;obtain⟨v',e1,e2⟩:=h.2 i oe e;exact⟨v',by rw[aao (by rw[h.1];exact hi)];exact e1,e2⟩
 . rw[aaq (by lia)] at e;cases hj:i - es.length with
   | zero =>
     rw[hj] at e
     have:o=oe:=by simpa using e
     subst this;exact⟨v,by rw[aaq (by rw[h.1];lia),h.1,hj];rfl,q⟩
   | succ j=>rw[hj] at e;simp at e
theorem nz.ents {K:W.Frag}(h:nz H vs es):dj K H vs es:=⟨h.1,λi oe e=>by
 obtain⟨v,e1,e2⟩:=h.2 i oe e;refine⟨v,e1,?_⟩;cases oe with
 | none=>exact e2
 | some en=>obtain⟨p,q,a1,a2,a3⟩:=e2;exact⟨p,a1,q,aJ.of a2,aJ.of a3⟩⟩
theorem qM (h:H l=some (.lst ys))(b:Addr)(xs:List V)(e:H b=some (.tup xs)):(upd H l o) b=some (.tup xs):=by
 rw[ai (λz=>by subst z;rw[h] at e;cases e)];exact e
def firstsD:List Nat:=[128,16,32,64]
theorem DT {K:W.Frag}{C pe x:Addr}{lv:V}{R:VK}{E:XK}(hx:H x=none)(UL:H dx=none)(h1:aq K H pe xs)(h2:(lv=.aA/\kvs=[])∨∃ pd,lv=.ref pd/\H pd=some (.dK kvs))
   (q:∀ l d H',ak H H'->H l=none->H d=none->l≠d->x≠l->x≠d->H' x=some (.ins C dx (av "landings" (.ref d) (av "entries" (.ref l) [])))->H' l=some (.lst xs)->H' d=some (.dK kvs)->R .aA H') :
   yW K C [.ref x,.ref pe,lv] (upd (upd H dx (.own x)) x (.ins C dx [])) R E:=by
 have s1:ak H (upd (upd H dx (.own x)) x (.ins C dx [])):=λb o e=>by rw[ai (af e hx),ai (af e UL)];exact e
 refine⟨x,dx,pe,lv,xs,kvs,rfl,aa,ak.seq s1 h1,?_,λl d H' nl nd nld kp Wz hl' WI=>?_⟩
 . rcases h2 with h2 | ⟨pd,e,h2⟩
   . exact .inl h2
   . exact .inr ⟨pd,e,s1 _ _ h2⟩
 . have VW := bq nl;have nd1:=bq nd;exact q l d H' (λb o e=>kp b o (s1 b o e) (af e hx)) (bq VW.1).1 (bq nd1.1).1 nld VW.2.symm nd1.2.symm Wz hl' WI
def fz (bs pl:List Int)(h p:Int):Int:=if p<8 then gI bs p else gI pl (pl.length - h+p - 8)
theorem tR {xs:List Int}{j v:Int}(h0 : 0<=i)(h1 : 0<=j)(h:i≠j):gI (sI xs j v) i=gI xs i:=by
 unfold gI sI;rw[aar,aar,aaP (by lia)]
theorem mP {xs:List Int}{v:Int}(h0 : 0<=i)(h1:i<xs.length):gI (sI xs i v) i=v:=by
 unfold gI sI;rw[aar,aaO (by lia)];rfl
theorem MC {xs ys:List Int}(h0 : 0<=i)(h1:i<xs.length):gI (xs++ys) i=gI xs i:=by
 unfold gI;rw[aar,aar,aao (by lia)]
theorem yX {xs:List Int}{n:Nat}(h0 : 0<=i)(h1:i<n):gI (xs.take n) i=gI xs i:=by
 unfold gI;rw[aar,aar,List.getElem?_take_of_lt (by omega)]
theorem Dl (s i:Nat):(s &&& 2 ^ i=0) ↔ s.testBit i=false:=by
 constructor
 . intro h
   have:=congrArg (λx=>x.testBit i) h
   simp only[aaS,abJ,ab2] at this
   simpa using this
 . intro h;apply abi;intro j;rw[aaS,abJ,ab2];by_cases e:i=j
   . subst e;rw[h];rfl
   . simp[e]
theorem EZ {s p i:Nat}(h:(Bt.wo s (2 ^ p)).testBit i=true):s.testBit i=true/\i≠p:=by
 rw[Bt.jH,abJ] at h;simp only[aaM,ac1,decide_eq_false_iff_not] at h;exact⟨h.1,λe=>h.2 e.symm⟩
theorem sC {s p q i:Nat}(h:(fC s (2 ^ p) (2 ^ q)).testBit i=true):(s.testBit i=true/\i≠p)∨(s.testBit q=true/\i=p):=by
 unfold fC at h;split at h
 . exact .inl (EZ h)
 . rename_i hn;rw [Dl] at hn;have hq:s.testBit q=true:=by simpa using hn
   by_cases e:i=p
   . exact .inr ⟨hq,e⟩
   . rw[adE,abJ] at h;have : ¬ p=i:=λz=>e z.symm;simp[this] at h;exact .inl ⟨h,e⟩
structure zI (Ub Td pl:List Int)(h d v:Int)(k:Nat):Prop where
 bits:∀ i:Nat,k.testBit i=true->(i:Int)<8+d/\fz Ub Td d i=v
 d0 : 0<=d
 dl:d<=Td.length
 len:(Td.length:Int) - d=pl.length - h
 below:Td.take (pl.length - h.toNat)=pl.take (pl.length - h.toNat)
theorem mR {bs pl:List Int}{w:Int}(h0 : 0<=i)(b0 : 0<=b)(hi:i≠b):fz (sI bs b w) pl h i=fz bs pl h i:=by
 unfold fz;split
 . exact tR h0 b0 hi
 . rfl
theorem mQ {d n' v:Int}{s:Nat}{bs pl:List Int}(ok:r.ok)(h0 : 0<=h)(hl:h<=pl.length)(h8:bs.length=8)(hd:r.aB h=some d)(hr:r.run n bs pl=some (n',Ub,Td))
   (hs:∀ i:Nat,s.testBit i=true->(i:Int)<8+h/\fz bs pl h i=v):zI Ub Td pl h d v (r.keep s h):=by
 have V5:∀ (b w:Int),aM b->zI (sI bs b w) pl pl h h v (Bt.wo s (2 ^ b.toNat)):=λb w hb=>by
   refine⟨λi hi=>?_,h0,hl,rfl,rfl⟩;obtain⟨h1,h2⟩:=EZ hi;obtain⟨h3,h4⟩:=hs i h1
   have:=hb.1
   exact⟨h3,by rw[mR (by lia) hb.1 (by lia)];exact h4⟩
 have Wn:zI bs pl pl h h v s:=⟨hs,h0,hl,rfl,rfl⟩
 cases r with
 | set b m=>cases hd;cases hr;exact V5 b m ok.1
 | add b o t=>cases hd;cases hr;exact V5 b _ ok.1
 | sub b o t=>cases hd;cases hr;exact V5 b _ ok.1
 | mul b o t=>cases hd;cases hr;exact V5 b _ ok.1
 | less b o t=>cases hd;cases hr;exact V5 b _ ok.1
 | dA t=>cases hd;cases hr;exact Wn
 | branch b t=>cases hd;cases hr;exact Wn
 | back b=>cases hd;cases hr;exact Wn
 | drop b=>cases hr
 | copy b o =>
   cases hd;cases hr
   obtain⟨⟨b0,b1⟩,⟨o0,o1⟩⟩:=ok;refine⟨λi hi=>?_,h0,hl,rfl,rfl⟩;rcases sC hi with ⟨h1,h2⟩ | ⟨h1,h2⟩
   . obtain⟨h3, h4⟩ := hs i h1;exact⟨h3,by rw[mR (by lia) b0 (by lia)];exact h4⟩
   . obtain ⟨h3, h4⟩ := hs _ h1;refine ⟨by lia,?_⟩;unfold fz at h4 ⊢;rw [if_pos (by lia)] at h4 ⊢;rw [show ((i:Nat):Int)=b by lia,mP b0 (by lia),<- h4]
     congr 1;lia
 | call t =>
   cases hd;cases hr
   refine⟨λi hi=>?_,h0,hl,rfl,rfl⟩;rw[show(Rw.call _).keep s h=Bt.wo s 143 from rfl,Bt.jH,aaM] at hi;obtain⟨h3,h4⟩:=hs i hi.1;have h7:i≠7:=λe=>by subst e;exact absurd hi.2 (by decide)
   exact⟨h3,by rw[mR (by lia) (by decide) (by lia)];exact h4⟩
 | grow m =>
   obtain⟨m0,m1⟩:aH m:=ok;simp only[Rw.aB] at hd;simp only[Rw.run] at hr;split at hd
   . cases hd
   split at hr
   . cases hr
   cases hd;cases hr
   refine⟨λi hi=>?_,by lia,?_,?_,?_⟩
   . obtain ⟨h3, h4⟩ := hs i hi;refine ⟨by lia,?_⟩;unfold fz at h4 ⊢;split
     . rename_i e;rw[if_pos e] at h4;exact h4
     . rename_i e;rw[if_neg e] at h4;rw[aab,aaB,<- h4,show(((pl.length+m.toNat:Nat):Int) - (h+m)+i - 8)=pl.length - h+i - 8 by lia];exact MC (by lia) (by lia)
   . rw[aab,aaB];lia
   . rw[aab,aaB];lia
   . rw[List.take_append_of_le_length (by lia)]
 | shrink m =>
   obtain⟨m0,m1⟩:aH m:=ok;simp only[Rw.aB] at hd;simp only[Rw.run] at hr;split at hd
   . cases hd
   split at hr
   . cases hr
   cases hd;cases hr
   have ht:(pl.take (pl.length - m.toNat)).length=pl.length - m.toNat:=by rw[aaz];lia
   refine⟨λi hi=>?_,by lia,?_,?_,?_⟩
   . rw[show(Rw.shrink m).keep s h = Bt.wo s ((2 ^ m.toNat - 1) * 2 ^ (8 + h - m).toNat) from rfl, Bt.jH, aaM, Nat.testBit_mul_two_pow, Nat.testBit_two_pow_sub_one] at hi;obtain⟨h3,h4⟩:=hs i hi.1;have h5:(i:Int)<8+h - m:=by
       by_cases z:(i:Int)<8+h - m
       . exact z
       . exfalso
         have z1:i ≥ (8+h - m).toNat:=by lia
         have z2:i - (8+h - m).toNat<m.toNat:=by lia
         have:=hi.2
         simp[z1,z2] at this
     refine⟨by lia,?_⟩;unfold fz at h4 ⊢;split
     . rename_i e;rw[if_pos e] at h4;exact h4
     . rename_i e;rw[if_neg e] at h4;rw[ht,<- h4,show(((pl.length - m.toNat:Nat):Int) - (h - m)+i - 8)=pl.length - h+i - 8 by lia];exact yX (by lia) (by lia)
   . rw[ht];lia
   . rw[ht];lia
   . rw[ady,acL (by lia)]
 | put b c =>
   obtain⟨⟨b0,b1⟩,⟨c0,c1⟩⟩:aM b/\aH c:=ok;simp only[Rw.aB] at hd;simp only[Rw.run] at hr;split at hd
   . cases hd
   split at hr
   . cases hr
   cases hd;cases hr
   refine⟨λi hi=>?_,h0,by rw[dw];exact hl,by rw[dw],?_⟩
   . rcases sC hi with ⟨h1,h2⟩ | ⟨h1,h2⟩
     . obtain⟨h3, h4⟩ := hs i h1;refine⟨h3,?_⟩;unfold fz at h4 ⊢;split
       . rename_i e;rw[if_pos e] at h4;exact h4
       . rename_i e;rw[if_neg e] at h4;rw[dw,tR (by lia) (by lia) (by lia)];exact h4
     . obtain ⟨h3, h4⟩ := hs _ h1;refine ⟨by lia,?_⟩;unfold fz at h4 ⊢;rw [if_pos (by lia)] at h4;rw [if_neg (by lia),dw,show ((pl.length:Int) - h+i - 8)=pl.length - 1 - c by lia,mP (by lia) (by lia),<- h4]
       congr 1;lia
   . unfold sI;rw[List.take_set_of_le (by lia)]
 | get b c =>
   obtain⟨⟨b0,b1⟩,⟨c0,c1⟩⟩:aM b/\aH c:=ok;simp only[Rw.aB] at hd;simp only[Rw.run] at hr;split at hd
   . cases hd
   split at hr
   . cases hr
   cases hd;cases hr
   refine⟨λi hi=>?_,h0,hl,rfl,rfl⟩;rcases sC hi with ⟨h1,h2⟩ | ⟨h1,h2⟩
   . obtain⟨h3, h4⟩ := hs i h1;exact⟨h3,by rw[mR (by lia) b0 (by lia)];exact h4⟩
   . obtain ⟨h3, h4⟩ := hs _ h1;refine ⟨by lia,?_⟩;unfold fz at h4 ⊢;rw [if_neg (by lia)] at h4;rw [if_pos (by lia),show ((i:Nat):Int)=b by lia,mP b0 (by lia),<- h4]
     congr 1;lia
variable {ns:List Int}
theorem IE {c:Int}(h:c∈ns):c∈once ns:=by
 have gen:∀ (ns t:List Int),(c∈ns∨c∈t)->c∈ns.foldl (λt n=>if n∈t then t else t++[n]) t:=by
   intro ns
   induction ns with
   | nil=>intro t h;rcases h with h | h;cases h;exact h
   | cons n r ih =>
     intro t h;rw[List.foldl_cons];refine ih _ ?_;by_cases hn:n∈t
     . rw[if_pos hn];rcases h with h | h
       . rcases List.mem_cons.mp h with rfl | h
         . exact .inr hn
         . exact .inl h
       . exact .inr h
     . rw[if_neg hn];rcases h with h | h
       . rcases List.mem_cons.mp h with rfl | h
         . exact .inr (aax _ (List.mem_singleton.mpr rfl))
         . exact .inl h
       . exact .inr (aa5 _ h)
 exact gen ns [] (.inl h)
structure Lb (rs:List Rw)(es:List (Option Ent))(ls:List (Int×Int)):Prop where
 len:es.length=rs.length
 start : 0<rs.length->es[0]?.join=mj
 own:∀ (i:Nat) (r:Rw) (e:Ent),rs[i]? = some r->es[i]?.join=some e->d9 r e=none
 way:∀ (i:Nat) (r:Rw) (e:Ent) (c:Int),rs[i]? = some r->es[i]?.join=some e->c∈r.du i->fg r e c es=none
 R8:∀ (i:Nat) (t:Int) (e:Ent),rs[i]? = some (.call t)->es[i]?.join=some e->eI t es=none
 land:∀ k∈ls.map (·.1),m6 rs es k (lv ls k)=none
theorem toL_none {β : Type}{o:Option α}{f : α->β}(h:(o.map f).toList=[]):o=none:=by cases o with | none=>rfl | some x=>cases h
theorem JU {ks:List Int}(hz:dH rs es ls ks=[])(hp:ks.Perm (ls.map (·.1))):Lb rs es ls:=by
 have hl:es.length=rs.length:=by
   by_cases h:es.length=rs.length
   . exact h
   . unfold dH at hz;rw[if_neg h] at hz;cases hz
 unfold dH at hz;rw[if_pos hl] at hz;obtain⟨h12,h3⟩:=List.append_eq_nil_iff.mp hz;obtain⟨h1,h2⟩:=List.append_eq_nil_iff.mp h12;have S4:∀ (i:Nat) (r:Rw) (e:Ent),rs[i]? = some r->es[i]?.join=some e->qj r e i es=[]:=λi r e hr he=>by
   have z:=List.flatMap_eq_nil_iff.mp h2 i (List.mem_range.mpr (List.getElem?_eq_some_iff.mp hr).1);unfold ni at z;rw[hr,he] at z;exact z
 have S5:∀ (i:Nat) (r:Rw) (e:Ent),rs[i]? = some r->es[i]?.join=some e->d9 r e=none:=λi r e hr he=>by
   have z:=S4 i r e hr he;unfold qj at z;cases ho:d9 r e with
   | none=>rfl
   | some w=>rw[ho] at z;cases z
 have Ur:∀ (i:Nat) (r:Rw) (e:Ent),rs[i]? = some r->es[i]?.join=some e->((once (r.du i)).filterMap λc=>(fg r e c es).map λw=>Cm.mk i c w)=[]/\tJ r i es=[]:=λi r e hr he=>by
   have z:=S4 i r e hr he;unfold qj at z;rw[S5 i r e hr he] at z;exact List.append_eq_nil_iff.mp z
 refine⟨hl,λh0=>?_,S5,λi r e c hr he hc=>?_,λi t e hr he=>?_,λk hk=>?_⟩
 . unfold dM at h1;rw[if_pos h0] at h1;by_cases h:kM (es[0]?.join) mj=true
   . exact Fj h
   . rw[if_neg h] at h1;cases h1
 . have z := (Ur i r e hr he).1;rw[List.filterMap_eq_nil_iff] at z
   have:=z c (IE hc)
   cases hw:fg r e c es with
   | none=>rfl
   | some w=>rw[hw] at this;cases this
 . exact toL_none (Ur i _ e hr he).2
 . exact toL_none (List.flatMap_eq_nil_iff.mp h3 k (hp.mem_iff.mpr hk))
theorem NY {c:Int}(h:fg r e c es=none) : 0<=c/\c<es.length/\∃ t,es[c.toNat]?.join=some t/\r.aB e.h=some t.h/\mY r e t=none:=by
 unfold fg at h;by_cases hb : 0<=c/\c<es.length
 . rw[if_pos hb] at h;refine⟨hb.1,hb.2,?_⟩;cases ht:es[c.toNat]?.join with
   | none=>rw[ht] at h;cases h
   | some t =>
     rw[ht] at h;have h:(if r.aB e.h=some t.h then mY r e t else some Wt.aB)=none:=h;by_cases hh:r.aB e.h=some t.h
     . rw[if_pos hh] at h;exact⟨t,rfl,hh,h⟩
     . rw[if_neg hh] at h;cases h
 . rw[if_neg hb] at h;cases h
theorem qK:Bt.wo x y=0 ↔ Sub x y:=by
 have h1:x &&& y<=x:=adq;show x - (x &&& y)=0 ↔ x &&& y=x
 lia
theorem Lv {t:Ent}(h:mY r e t=none):Sub t.b.toNat (r.keep e.b.toNat e.h)/\Sub t.v4.toNat (r.keep e.v4.toNat e.h)/\Sub t.v5.toNat (r.keep e.v5.toNat e.h)/\Sub t.v6.toNat (r.keep e.v6.toNat e.h):=by
 unfold mY at h;split at h;cases h
 split at h;cases h
 split at h;cases h
 split at h;cases h
 rename_i a b c d;exact⟨qK.mp (acp a),qK.mp (acp b),qK.mp (acp c),qK.mp (acp d)⟩
theorem K_ {t:Int}(h:eI t es=none) : 0<=t/\t<es.length/\es[t.toNat]?.join=mj:=by
 unfold eI at h;by_cases hb : 0<=t/\t<es.length
 . rw[if_pos hb] at h;by_cases he:kM (es[t.toNat]?.join) mj=true
   . exact⟨hb.1,hb.2,Fj he⟩
   . rw[if_neg he] at h;cases h
 . rw[if_neg hb] at h;cases h
def iY (H:Hp)(v:V)(r:Rw):Prop:=∃ p,v=.ref p/\H p=some (.tup (.str r.ei.1::r.ei.2.map V.int))
theorem iY.same {v:V}(h:iY H v r)(s:ak H H'):iY H' v r:=let ⟨p,e,k⟩:=h;⟨p,e,s _ _ k⟩
def cz:Rw->Int
 | .grow m=>m
 | _=>0
def jV (r:Rw):Prop:=(r.ok/\r.here)/\cz r<=5
def fM (r:Rw):Prop:=jV r∨(∃ t,r=.call t)∨∃ t,r=.dA t
def aZ (ok:Rw->Prop)(H:Hp)(us:List V):Prop:=∀ u∈us,∃ r,iY H u r/\ok r
theorem aZ.same {ok:Rw->Prop}(h:aZ ok H us)(s:ak H H'):aZ ok H' us:=λu hu=>let ⟨r,h1,h2⟩:=h u hu;⟨r,h1.same s,h2⟩
theorem aZ.app {ok:Rw->Prop}{ws:List V}(h:aZ ok H us)(k:aZ ok H ws):aZ ok H (us++ws):=λu hu=>by
 rcases List.mem_append.mp hu with z | z
 . exact h u z
 . exact k u z
theorem aZ.one {ok:Rw->Prop}{u:V}(h:iY H u r)(k:ok r):aZ ok H [u]:=λv hv=>by rw[List.mem_singleton.mp hv];exact⟨r,h,k⟩
theorem aZ.nil {ok:Rw->Prop}:aZ ok H []:=λu hu=>by cases hu
def He (a:bE):Sp:=λvs H Q _=>∃ (u:V) (r:Rw),vs=[u]/\iY H u r/\jV r/\∀ x H',ak H H'->H x=none->bA a H' x r->Q (.ref x) H'
def NI:Sp:=λvs H Q _=>∃ c m:Int,vs=[.int c,.int m]/\1<=m/\m<=450/\∀ u r H',ak H H'->iY H' u r->jV r->Q u H'
def MT (K:W.Frag):Sp:=λvs H Q _=>∃ (lc ls:Addr) (cs ss:List Int) (sp at_:Int),vs=[.ref lc,.ref ls,.int sp,.int at_]/\aq K H lc (cs.map V.int)/\cs.length<=63/\aq K H ls (ss.map V.int)/\ss.length<=4/\(∀ s∈ss,0<=s/\s<=7)/\-1<=sp/\sp<=5/\0<=at_/\at_<=1000 /\
 ∀ l us H',ak H H'->H' l=some (.lst us)->us.length<=2*cs.length->aZ fM H' us->Q (.ref l) H'
def GP (K:W.Frag)(N:Nat):Sp:=λvs H Q _=>∃ (a0:Addr) (ns:List Int),vs=[.ref a0]/\aq K H a0 (ns.map V.int)/\ns.length<=63 /\
 ∀ t l d us ls H',ak H H'->H' t=some (.tup [.ref l,.ref d])->H l=none->H d=none->l≠d->H' l=some (.lst us)->1<=us.length->us.length<=N->aZ jV H' us->H' d=some (.dK (au ls))->dN ls->Q (.ref t) H'
def Sv (oe:Option Ent):Prop:=∀ e,oe=some e->e.nn/\0<=e.h/\e.h<=4000
theorem aZ.cons {ok:Rw->Prop}{u:V}(h:iY H u r)(k:ok r)(t:aZ ok H us):aZ ok H (u::us):=λv hv=>by
 rcases List.mem_cons.mp hv with rfl | z
 . exact⟨r,h,k⟩
 . exact t v z
theorem xa {K:W.Frag}{ok:Rw->Prop}(hl:H l=some (.lst us))(t:aZ ok H us)(h0 : 0<=i)(h1:i<(us.length:Nat))(q:∀ u r,iY H u r->ok r->Q u H):dk K (.ref l) (.int i) H Q:=by
 obtain⟨j,rfl⟩:=acf h0;have hj:j<us.length:=by omega
 obtain⟨r,h2,h3⟩:=t us[j] (aaV hj);exact cy (aq.of hl) (bw (aaa hj)) (q _ r h2 h3)
theorem bP {K:W.Frag}{x:V}{b:Bool}(h:H p=some (.lst xs))(f1:dX x=true)(f2:xs.all dX=true)(e:eF x xs=b)(q:∀ Hx,ak H Hx->Q (.bl b) Hx):pD K false x (.ref p) H Q:=d7 (aq.of h) f1 f2 (by rw[e];exact q H (ak.refl _))
theorem BA (xs:List Int){j k:Int}(hj : 0<=j)(h0 : 0<=k):(cu xs (some j) (some (j+k))).length<=k.toNat:=by
 unfold cu;obtain⟨n,rfl⟩:=acf hj;rw[show HT.ba xs.length 0 (some ((n:Nat):Int))=min n xs.length from HT.jk _ _ n,show((n:Nat):Int)+k=((n+k.toNat:Nat):Int) from by omega,HT.jk,aaz,aaZ];refine aaJ (Nat.min_le_left _ _) ?_;rcases Nat.le_total n xs.length with h | h
 . rw[acL h];exact Nat.sub_le_of_le_add (aaJ (Nat.min_le_left _ _) (acz (Nat.add_comm _ _)))
 . rw[Nat.min_eq_right h];exact aaJ (Nat.sub_le_sub_right (Nat.min_le_right _ _) _) (by rw[Nat.sub_self];exact aaX _)
theorem K5 {sp:Sp}{j:Nat}{t:TA}{th:TS}{D:Ends}(h:t Z H λvs H1=>sp vs H1 (λv H2=>D.nx (Z.set j (some v)) H2) λc _ H2=>c=.ref C/\th { nx:=λZ' H'=>D.nx Z' H',rt:=λ_ _=>False } Z H2):Ks (JF sp j t) C th D Z H:=h
theorem Ld {c r:Int}(h:dN ls)(hl:ls.length<60)(r1 : -10000<=r)(r2:r<=10000):∃ V0,putK (au ls) (.inl c) (.int r)=au V0/\dN V0/\V0.length<=ls.length+1:=by
 obtain⟨h1,h2,h3⟩:=h;by_cases hm:c∈ls.map (·.1)
 . refine ⟨ls.map λp => if p.1 = c then (p.1, r) else p, ?_, ⟨?_, by rw [aac]; omega, λp hp => ?_⟩, by rw [aac]; omega⟩
   . unfold putK;rw [jO];obtain ⟨p,hp,rfl⟩:=List.mem_map.mp hm;rw [(hZ h1 p hp).1,if_pos (show (some (V.int p.2)).isSome=true from rfl)];unfold au;rw [aba,aba];refine List.map_congr_left λq _=>?_;show (if (Sum.inl q.1:Key)=Sum.inl p.1 then ((Sum.inl q.1:Key),V.int r) else (Sum.inl q.1,V.int q.2))=(Sum.inl (if q.1=p.1 then (q.1,r) else q).1,V.int (if q.1=p.1 then (q.1,r) else q).2)
     by_cases e:q.1=p.1
     . rw[if_pos (by rw[e]),if_pos e]
     . rw[if_neg (λz=>e (ac0 z)),if_neg e]
   . rw[aba, show((λx : Int × Int => x.1) ∘ λp : Int × Int => if p.1 = c then (p.1, r) else p) = λp => p.1 from funext λp => by
       show(if p.1=c then (p.1,r) else p).1=p.1;split <;> rfl]
     exact h1
   . obtain⟨p', hp', rfl⟩ := List.mem_map.mp hp;split
     . exact⟨r1,r2⟩
     . exact h3 p' hp'
 . refine ⟨ls ++ [(c, r)], AY (iN hm), ⟨?_, by rw [aab, aaG]; omega, λp hp => ?_⟩, by rw [aab, aaG]; omega⟩
   . rw [aaF,List.nodup_append];refine ⟨h1,by simp,λx hx y hy z=>?_⟩
     have:y=c:=by simpa using hy
     rw[z,this] at hx;exact hm hx
   . rcases List.mem_append.mp hp with hp | hp
     . exact h3 p hp
     . rw[List.mem_singleton.mp hp];exact⟨r1,r2⟩
theorem aT {K:W.Frag}{a:Addr}(e:ak H H')(h:aq K H a xs):aq K H' a xs:=by
 rcases h with (h | ⟨o,h⟩) | h
 . exact .inl (.inl (e _ _ h))
 . exact .inl (.inr ⟨o,e _ _ h⟩)
 . exact .inr h
theorem C1 {K:W.Frag}{l2:Addr}(h:H l=some (.lst []))(h2:H l2=some (.lst []))(q:Q (.bl false) H):e_ K (.ref l) (.ref l2) H Q∨lT K (.ref l) (.ref l2) H Q:=.inl (PL (.list []) (oz (aq.of h) cL) (oz (aq.of h2) cL) rfl q)
theorem Dm {K:W.Frag}{l2:Addr}(h:H l=some (.lst us))(h2:H l2=some (.lst []))(hu:us.length≠0)(q:Q (.bl true) H):e_ K (.ref l) (.ref l2) H Q∨lT K (.ref l) (.ref l2) H Q:=.inr ⟨l,l2,_,_,rfl,rfl,aq.of h,aq.of h2,hu,q⟩
theorem aZ.off {ok:Rw->Prop}(h:aZ ok H us)(hl:H l=some (.lst xs)):aZ ok (upd H l o) us:=λu hu=>by
 obtain⟨r,⟨p,e,k⟩,h2⟩:=h u hu;exact⟨r,⟨p,e,by rw[ai (λz=>by rw[z,hl] at k;cases k)];exact k⟩,h2⟩
theorem eL (h0 : 0<=i)(h1:i<(ns.length:Nat)):∃ t∈ns,b_ (ns.map V.int) i=some (.int t):=by
 obtain⟨j,rfl⟩:=acf h0;have SV:j<ns.length:=by lia
 exact⟨ns[j],aaV SV,bw (by rw[aag,aaa SV];rfl)⟩
theorem E7 {K:W.Frag}{a b:Addr}{g:TG}{tc:TT}{te:TE}{S0:List V->Hp->Prop}(hy:ys.length=xs.length)(Pv:Nat->List V->L2.St->Hp->Prop)(h0:Pv 0 [] Z H)(hl:∀ i zs Z H,i<=xs.length->Pv i zs Z H->(aq K H a xs/\aq K H b ys)/\zs.length<=aal)
   (hs:∀ i x y T zs Z H,xs[i]? = some x->ys[i]? = some y->Pv i zs Z H->H T=none->g (.ref T) Z (upd H T (.tup [x,y])) λZ3 H3=>tc Z3 H3 λb H4=>if b=true then te Z3 H4 λy H5=>Pv (i+1) (zs++[y]) Z3 H5 else Pv (i+1) zs Z3 H4) (hd:∀ zs Z H,Pv xs.length zs Z H->S0 zs H):iE (D6 K a b) g tc te S0 Z H:=by
 refine⟨λi m zs Z H=>m=xs.length - i/\i<=xs.length/\Pv i zs Z H,⟨xs.length,by simp,aaX _,h0⟩,?_⟩;rintro i m zs Z H ⟨rfl,hi,p⟩;obtain⟨⟨q1,q2⟩,hz⟩:=hl i zs Z H hi p;by_cases SV:i<xs.length
 . refine .inr ⟨⟨xs, ys, xs[i], ys[i]'(by lia), q1, q2, by simp[SV], by simp[show i < ys.length by lia]⟩, Pv (i + 1), λzs2 Z' H' p' => ⟨(hl (i + 1) zs2 Z' H' SV p').2, xs.length - (i + 1), by lia, rfl, SV, p'⟩, λx H' y => ?_⟩;obtain⟨T,x',y',rfl,hT,rfl,WU⟩:=y;obtain⟨z1,z2⟩:=WU _ _ q1 q2;exact hs i x' y' T zs Z H z1 z2 p hT
 . have e : i = xs.length := by lia
   subst e;exact .inl ⟨⟨xs,ys,q1,q2,.inl (aah _)⟩,hz,hd zs Z H p⟩
theorem Lo {c r:Int}(h:dN ls)(hl:ls.length<63)(r1 : -10000<=r)(r2:r<=10000):∃ V0,putK (au ls) (.inl c) (.int r)=au V0/\dN V0/\V0.length<=ls.length+1:=by
 obtain⟨h1,h2,h3⟩:=h;by_cases hm:c∈ls.map (·.1)
 . refine ⟨ls.map λp => if p.1 = c then (p.1, r) else p, ?_, ⟨?_, by rw [aac]; omega, λp hp => ?_⟩, by rw [aac]; omega⟩
   . unfold putK;rw [jO];obtain ⟨p,hp,rfl⟩:=List.mem_map.mp hm;rw [(hZ h1 p hp).1,if_pos (show (some (V.int p.2)).isSome=true from rfl)];unfold au;rw [aba,aba];refine List.map_congr_left λq _=>?_;show (if (Sum.inl q.1:Key)=Sum.inl p.1 then ((Sum.inl q.1:Key),V.int r) else (Sum.inl q.1,V.int q.2))=(Sum.inl (if q.1=p.1 then (q.1,r) else q).1,V.int (if q.1=p.1 then (q.1,r) else q).2)
     by_cases e:q.1=p.1
     . rw[if_pos (by rw[e]),if_pos e]
     . rw[if_neg (λz=>e (ac0 z)),if_neg e]
   . rw[aba, show((λx : Int × Int => x.1) ∘ λp : Int × Int => if p.1 = c then (p.1, r) else p) = λp => p.1 from funext λp => by
       show(if p.1=c then (p.1,r) else p).1=p.1;split <;> rfl]
     exact h1
   . obtain⟨p', hp', rfl⟩ := List.mem_map.mp hp;split
     . exact⟨r1,r2⟩
     . exact h3 p' hp'
 . refine ⟨ls ++ [(c, r)], AY (iN hm), ⟨?_, by rw [aab, aaG]; omega, λp hp => ?_⟩, by rw [aab, aaG]; omega⟩
   . rw [aaF,List.nodup_append];refine ⟨h1,by simp,λx hx y hy z=>?_⟩
     have:y=c:=by simpa using hy
     rw[z,this] at hx;exact hm hx
   . rcases List.mem_append.mp hp with hp | hp
     . exact h3 p hp
     . rw[List.mem_singleton.mp hp];exact⟨r1,r2⟩
def QA (K:W.Frag):Sp:=λvs H Q _=>∃ (lc:Addr) (cs:List Int) (c at_:Int),vs=[.int c,.ref lc,.int at_]/\aq K H lc (cs.map V.int)/\cs.length<=63/\0<=at_/\at_<=400 /\
 ∀ t l us e H',ak H H'->H' t=some (.tup [.ref l,.int e])->H' l=some (.lst us)->1<=us.length->us.length<=2*cs.length+11->aZ fM H' us->0<=e->e<=1000->Q (.ref t) H'
theorem KI (xs:List Int):(cu xs none (some 1)).length+(cu xs (some 1) none).length=xs.length:=by
 rw[gh _ (by decide)];unfold cu;rw[show HT.ba xs.length 0 (some (1:Int))=min 1 xs.length from HT.jk _ _ 1,show HT.ba xs.length xs.length none=xs.length from rfl,aaz,aaz,aaZ];show min 1 xs.length+_=_
 lia
theorem aZ.NZ {ok:Rw->Prop}{kv:List (Key×V)}(h:aZ ok H us)(hl:H l=some (.dK kv)):aZ ok (upd H l o) us:=λu hu=>by
 obtain⟨r,⟨p,e,k⟩,h2⟩:=h u hu;exact⟨r,⟨p,e,by rw[ai (λz=>by rw[z,hl] at k;cases k)];exact k⟩,h2⟩
theorem pX {kv:List (Key×V)}(h:H p=some (.lst us))(hl:H l=some (.dK kv)):upd H l o p=some (.lst us):=by
 rw[ai (λz=>by rw[z,hl] at h;cases h)];exact h
theorem OX:∀ n:Nat,0<n->∃ i,n.testBit i=true/\Bt.wo n (n - 1)=2 ^ i:=by
 intro n
 induction n using Nat.strongRecOn with
 | _ n ih =>
   intro hn;rcases Nat.mod_two_eq_zero_or_one n with hm | hm
   . obtain⟨i, h1, h2⟩ := ih (n / 2) (by omega) (by omega);refine⟨i+1,by rw[ab4];exact h1,?_⟩;have hand:n &&& (n - 1)=2*((n/2) &&& (n/2 - 1)):=by
       apply abi;intro k;cases k with
       | zero=>rw[aaS,ab3,ab3,ab3];simp[hm]
       | succ k =>
         rw[aaS,ab4,ab4,ab4,show 2*((n/2) &&& (n/2 - 1))/2=(n/2) &&& (n/2 - 1) from by omega,aaS,show(n - 1)/2=n/2 - 1 from by omega]
     unfold Bt.wo at h2 ⊢;rw[hand,Nat.pow_succ];have hle:(n/2) &&& (n/2 - 1)<=n/2:=adq;omega
   . refine⟨0, by rw[ab3]; simp[hm], ?_⟩;have hand:n &&& (n - 1)=n - 1:=by
       apply abi;intro k;cases k with
       | zero=>rw[aaS,ab3,ab3];simp;omega
       | succ k =>
         rw[aaS,ab4,ab4,show(n - 1)/2=n/2 from by omega,Bool.and_self]
     unfold Bt.wo;rw[hand];omega
theorem Ma (h : 0<s):∃ i:Nat,lowP s=i/\s.toNat.testBit i=true:=by
 obtain⟨n,rfl⟩:∃ n:Nat,s=(n:Int):=⟨s.toNat,by lia⟩
 obtain⟨i,h1,h2⟩:=OX n (by lia);exact⟨i,NP (by lia) h2,h1⟩
def Hd (s h:Int)(bx:Nat->Option Int)(pl:List Int)(n v:Int):Prop:=0<s/\∀ i:Nat,s.toNat.testBit i=true->(i:Int)<8+h/\(i<8->bx i=some v)/\(8<=i->gI pl (n+i - 8)=v)
structure KD (e:Ent)(bx:Nat->Option Int)(pl:List Int)(c:bT):Prop where
 b:Hd e.b e.h bx pl c.n c.r
 v4:Hd e.v4 e.h bx pl c.n c.a
 v5:Hd e.v5 e.h bx pl c.n c.b
 v6:Hd e.v6 e.h bx pl c.n c.c
def f_ (bs:List Int)(i:Nat):Option Int:=some (gI bs (i:Int))
def pM (c:bT)(i:Nat):Option Int:=if i=4 then some c.a else if i=5 then some c.b else if i=6 then some c.c else none
def JX (es:List (Option Ent))(pl:List Int):Int->(Nat->Option Int)->Int->List bT->Prop
 | at',_,_,[]=>at'=es.length
 | at',bx,n,c::cs=>∃ e,(0<=at'/\at'<es.length)/\es[at'.toNat]?.join=some e/\0<=e.h/\0<=c.n/\c.n=n - e.h/\KD e bx pl c/\JX es pl c.r (pM c) c.n cs
variable {bx:Nat->Option Int}
theorem L7 {v:Int}{pl:List Int}{kn:List V}(H:Hd s h bx pl n v)(h0 : 0<=h)(n0 : 0<=n)(hl:n+h<=pl.length)(hk:∀ i,i<8->∀ v,bx i=some v->kn[i]? = some (.int v)) :
   br s kn ((pl.take (n+h).toNat).drop ((((pl.take (n+h).toNat).length:Int) - h).toNat))=.int v:=by
 obtain⟨hs,hb⟩:=H;obtain⟨i,e,t⟩:=Ma hs;obtain⟨h1,h2,h3⟩:=hb i t;have SO:(pl.take (n+h).toNat).length=(n+h).toNat:=by rw[aaz];lia
 unfold br;rw[if_neg (by lia),e];by_cases h8:i<8
 . rw[if_pos (by lia), show((i : Int)).toNat = i from by lia, aar, hk i h8 v (h2 h8)];rfl
 . have e1 : (((n + h).toNat : Int) - h).toNat = n.toNat := by rw [aa1 (Int.add_nonneg n0 h0), Int.add_sub_cancel]
   have i8:(0:Int)<=(i:Int) - 8:=by lia
   have e2:n.toNat+((i:Int) - 8).toNat=(n+(i:Int) - 8).toNat:=by rw[<- Int.toNat_add n0 i8,Int.add_sub_assoc]
   have e3:n.toNat+((i:Int) - 8).toNat<(n+h).toNat:=by rw[Int.toNat_add n0 h0];exact Nat.add_lt_add_left ((Int.toNat_lt' (by lia)).mpr (by rw[aa1 h0];lia)) _
   rw[if_neg (by lia),SO,if_pos (by rw[aaZ,SO];lia)];have h4:=h3 (by lia);unfold gI at h4 ⊢;rw[aar] at h4 ⊢;rw[adK,List.getElem?_take,e1,if_pos e3,e2,h4]
theorem BE {pl:List Int}:∀ (cs:List bT) (f:Nat) (at':Int) (bx:Nat->Option Int) (kn:List V) (n:Int),JX es pl at' bx n cs->cs.length<=f->n<=pl.length->(∀ i,i<8->∀ v,bx i=some v->kn[i]? = some (.int v))->bg es f at' kn (pl.take n.toNat)=(cs,none)
 | [],f,at',bx,kn,n,h,_,_,_=>x8 h
 | c::cs,0,_,_,_,_,_,hf,_,_=>by cases hf
 | c :: cs, f + 1, at', bx, kn, n, h, hf, hn, hk => by
   obtain⟨e,⟨a0,a1⟩,he,eh,cn,en,F,rest⟩:=h;have n1:n=c.n+e.h:=by lia
   have SO:((pl.take n.toNat).length:Int)=n:=by rw[aaz];lia
   have lk:∀ {s v:Int},Hd s e.h bx pl c.n v->br s kn ((pl.take n.toNat).drop ((((pl.take n.toNat).length:Int) - e.h).toNat))=.int v:=λ{s v} q=>by
     have z:=L7 q eh cn (by lia) hk;rw[<- n1] at z;exact z
   have hs:ee es at' kn (pl.take n.toNat)=some c:=by
     unfold ee;rw[if_pos ⟨a0,a1⟩];have hg:es.getD at'.toNat none=some e:=by
       rw[aar];cases hx:es[at'.toNat]? with
       | none=>rw[hx] at he;cases he
       | some o=>rw[hx] at he;exact he
     rw[hg];show(if 0<=e.h/\e.h<=((pl.take n.toNat).length:Int) then gM e kn (pl.take n.toNat) else none)=some c;rw[if_pos ⟨eh,by lia⟩];unfold gM;rw[lk F.b,lk F.v4,lk F.v5,lk F.v6];show some (bT.mk c.r c.a c.b c.c (((pl.take n.toNat).length:Int) - e.h))=some c;rw[SO,<- en]
   have ih:=BE cs f c.r (pM c) (ib c) c.n rest (Nat.le_of_succ_le_succ hf) (by lia) (λi hi v hv=>by
     unfold pM at hv;split at hv
     . rename_i z;subst z;cases hv;rfl
     split at hv
     . rename_i z;subst z;cases hv;rfl
     split at hv
     . rename_i z;subst z;cases hv;rfl
     cases hv)
   rw[ye (by lia) hs,ady,show min c.n.toNat n.toNat=c.n.toNat from by lia,ih]
theorem Oe (L:Lb rs es ls)(hn:∀ t,some t∈es->t.nn):∀ oe∈es,Sv oe:=by
 intro oe ho e he;subst he;obtain⟨i,hi,e2⟩:=abD ho;have hir:i<rs.length:=by rw[<- L.len];exact hi
 have h:=L.own i rs[i] e (aaa hir) (by rw[aaa hi,e2];rfl);unfold d9 at h;by_cases hw:dz e=true
 . rw[if_pos hw] at h;cases h
 . refine⟨hn e ho,?_⟩;unfold dz at hw;simp only[Bool.or_eq_true,decide_eq_true_eq,not_or] at hw
   lia
def g_ (s:Nat)(h:Int)(bx:Nat->Option Int)(pl:List Int)(n v:Int):Prop:=∀ i:Nat,s.testBit i=true->(i:Int)<8+h/\(i<8->bx i=some v)/\(8<=i->gI pl (n+i - 8)=v)
structure Q0 (k:Nat->Nat)(e:Ent)(bx:Nat->Option Int)(pl:List Int)(c:bT):Prop where
 b:g_ (k e.b.toNat) e.h bx pl c.n c.r
 v4:g_ (k e.v4.toNat) e.h bx pl c.n c.a
 v5:g_ (k e.v5.toNat) e.h bx pl c.n c.b
 v6:g_ (k e.v6.toNat) e.h bx pl c.n c.c
def r0 (rs:List Rw)(es:List (Option Ent))(pl:List Int):bT->List bT->Prop
 | c,[]=>c.r=es.length
 | c,c2::cs=>∃ (t:Int) (e:Ent),(1<=c.r/\c.r<=es.length)/\rs[(c.r - 1).toNat]? = some (.call t)/\es[(c.r - 1).toNat]?.join=some e/\0<=e.h/\0<=c2.n/\c2.n=c.n - e.h/\Q0 (λs=>Bt.wo s 143) e (pM c) pl c2/\r0 rs es pl c2 cs
def Act (rs:List Rw)(es:List (Option Ent))(pl:List Int)(at':Int)(bs:List Int):List bT->Prop
 | []=>at'=es.length
 | c::cs=>∃ e,(0<=at'/\at'<es.length)/\es[at'.toNat]?.join=some e/\0<=e.h/\0<=c.n/\c.n=pl.length - e.h/\KD e (f_ bs) pl c/\r0 rs es pl c cs
theorem g_.sub {s t:Nat}{bx':Nat->Option Int}{pl:List Int}{v:Int}(H:g_ s h bx pl n v)(k:Sub t s)(m:∀ i v,bx i=some v->bx' i=some v):g_ t h bx' pl n v:=λi hi=>by
 obtain⟨h1,h2,h3⟩:=H i (Sub.iff.mp k i hi);exact⟨h1,λz=>m i v (h2 z),h3⟩
theorem g_.hd {v:Int}{pl:List Int}(H:g_ s.toNat h bx pl n v)(p : 0<s):Hd s h bx pl n v:=⟨p,H⟩
theorem G8 (L:Lb rs es ls){i:Nat}(he:es[i]?.join=some e):(0<=e.h/\e.h<=4000)/\0<e.b/\0<e.v4/\0<e.v5/\0<e.v6:=by
 have hi:i<es.length:=by
   by_cases h:i<es.length
   . exact h
   . rw[acy (by omega)] at he;cases he
 have hir:i<rs.length:=by rw[<- L.len];exact hi
 have h:=L.own i rs[i] e (aaa hir) he;unfold d9 at h;by_cases hw:dz e=true
 . rw[if_pos hw] at h;cases h
 . unfold dz at hw;simp only[Ent.dJ,abt,List.any_nil,jX,Bool.or_eq_true,decide_eq_true_eq,not_or,Bool.or_false] at hw;exact⟨⟨Int.not_lt.mp hw.1,Int.not_lt.mp hw.2.1⟩,Int.not_le.mp hw.2.2.1.1,Int.not_le.mp hw.2.2.2.1.1,Int.not_le.mp hw.2.2.2.2.1.1,Int.not_le.mp hw.2.2.2.2.2.1⟩
theorem wk (L:Lb rs es ls){x:Int}{bx bx':Nat->Option Int}{pl:List Int}(w:fg r e x es=none)(hh:r.aB e.h=some h)(F:∀ t:Ent,t.h=h->g_ (r.keep e.b.toNat e.h) t.h bx' pl c.n c.r/\g_ (r.keep e.v4.toNat e.h) t.h bx' pl c.n c.a/\g_ (r.keep e.v5.toNat e.h) t.h bx' pl c.n c.b/\g_ (r.keep e.v6.toNat e.h) t.h bx' pl c.n c.c) :
   (0<=x/\x<es.length)/\∃ t,es[x.toNat]?.join=some t/\t.h=h/\0<=t.h/\KD t bx' pl c:=by
 obtain⟨x0,x1,t,ht,hth,hl⟩:=NY w;have e1:t.h=h:=by rw[hh] at hth;cases hth;rfl
 obtain⟨s1,s2,s3,s4⟩:=Lv hl;obtain⟨⟨t0,_⟩,p1,p2,p3,p4⟩:=G8 L ht;obtain⟨k1,k2,k3,k4⟩:=F t e1;exact⟨⟨x0,x1⟩,t,ht,e1,t0,(k1.sub s1 λ_ _ z=>z).hd p1,(k2.sub s2 λ_ _ z=>z).hd p2,(k3.sub s3 λ_ _ z=>z).hd p3,(k4.sub s4 λ_ _ z=>z).hd p4⟩
theorem CO {pl:List Int}(L:Lb rs es ls):∀ (cs:List bT) (c:bT),r0 rs es pl c cs->JX es pl c.r (pM c) c.n cs
 | [],c,h=>h
 | c2 :: cs, c, h => by
   obtain⟨t,e,⟨r1,r2⟩,hr,he,e0,n0,hn,F,rest⟩:=h;have w:=L.way _ _ e c.r hr he (by
     show c.r∈[((c.r - 1).toNat:Int)+1];rw[List.mem_singleton];lia)
   obtain⟨b1,t2,UI,hh,h0,F2⟩:=wk L w (h:=e.h) (bx:=pM c) (bx':=pM c) (pl:=pl) (c:=c2) rfl (λt2 h2=>by rw[h2];exact⟨F.b,F.v4,F.v5,F.v6⟩);exact⟨t2,b1,UI,h0,n0,by lia,F2,CO L cs c2 rest⟩
theorem LM {pl bs:List Int}(L:Lb rs es ls):∀ {cs:List bT},Act rs es pl at' bs cs->JX es pl at' (f_ bs) pl.length cs
 | [],h=>h
 | c :: cs, h => by
   obtain⟨e,b1,he,e0,n0,hn,F,S⟩:=h;exact⟨e,b1,he,e0,n0,hn,F,CO L cs c S⟩
theorem g_.below {s:Nat}{v m:Int}{pl:List Int}(H:g_ s h bx pl n v)(n0 : 0<=n)(hm:n+h<=m)(k:∀ j:Int,0<=j->j<m->gI Td j=gI pl j):g_ s h bx Td n v:=λi hi=>by
 obtain⟨h1,h2,h3⟩:=H i hi;exact⟨h1,h2,λz=>by rw[k _ (by lia) (by lia)];exact h3 z⟩
theorem oW {pl:List Int}:∀ (cs:List bT) (c:bT),(∀ j:Int,0<=j->j<c.n->gI Td j=gI pl j)->r0 rs es pl c cs->r0 rs es Td c cs
 | [],_,_,h=>h
 | c2 :: cs, c, k, h => by
   obtain⟨t,e,r1,hr,he,e0,n0,hn,F,rest⟩:=h;exact⟨t,e,r1,hr,he,e0,n0,hn,⟨F.b.below n0 (by lia) k,F.v4.below n0 (by lia) k,F.v5.below n0 (by lia) k,F.v6.below n0 (by lia) k⟩,oW cs c2 (λj j0 j1=>k j j0 (by lia)) rest⟩
theorem KR {d n' v q:Int}{bs pl:List Int}(ok:r.ok)(h0 : 0<=h)(hl:h<=pl.length)(h8:bs.length=8)(hd:r.aB h=some d)(hr:r.run n bs pl=some (n',Ub,Td))(hq:q=pl.length - h)(H:Hd s h (f_ bs) pl q v) :
   g_ (r.keep s.toNat h) d (f_ Ub) Td q v:=by
 have K:=mQ (s:=s.toNat) (v:=v) ok h0 hl h8 hd hr (λi hi=>by
   obtain⟨h1,h2,h3⟩:=H.2 i hi;refine⟨h1,?_⟩;unfold fz;split
   . have z := h2 (by lia);unfold f_ at z;injection z
   . rw[<- hq];exact h3 (by lia))
 intro i hi;obtain⟨b1,b2⟩:=K.bits i hi;have SO:=K.len;unfold fz at b2;refine⟨b1,λz=>?_,λz=>?_⟩
 . rw[if_pos (by lia)] at b2;unfold f_;rw[b2]
 . rw[if_neg (by lia), SO, <- hq] at b2;exact b2
theorem KZ {pl:List Int}{k:Nat}(h:Td.take k=pl.take k){j:Int}(h0 : 0<=j)(h1:j<k):gI Td j=gI pl j:=by
 rw[<- yX (xs:=Td) h0 h1,h,yX h0 h1]
variable {cs:List bT}
theorem FW {pl bs:List Int}{nx:Int}(L:Lb rs es ls)(A:Act rs es pl at' bs cs)(hr:rs[at'.toNat]? = some r)(a0 : 0<=at')(ok:r.ok)(h8:bs.length=8)(c1:r.isCall=false)(c2:r.eu=false)(c3:r.d6=false)(run:r.run at' bs pl=some (nx,Ub,Td)):Act rs es Td nx Ub cs/\(0<=nx/\nx<es.length):=by
 cases cs with
 | nil =>
   have e:at'=es.length:=A
   have:at'.toNat<rs.length:=(List.getElem?_eq_some_iff.mp hr).1
   have:=L.len
   lia
 | cons c cs =>
   obtain⟨e,b1,he,e0,n0,hn,F,S⟩:=A;have S5:=L.own _ r e hr he;have hd:∃ d,r.aB e.h=some d:=by
     unfold d9 at S5;cases hx:r.aB e.h with
     | some d=>exact⟨d,rfl⟩
     | none =>
       rw[hx] at S5;split at S5
       . cases S5
       . rw[if_pos rfl] at S5;cases S5
   obtain⟨d,hd⟩:=hd;have hgo:nx∈r.du ((at'.toNat:Nat):Int):=by
     rw[show((at'.toNat:Nat):Int)=at' from by lia]
     cases r <;> simp only[Rw.run,Rw.du,Rw.isCall,Rw.eu,Rw.d6] at run c1 c2 c3 ⊢ <;> first
       | (cases run;simp;done) | (cases run;split <;> simp;done) | (split at run <;> cases run <;> simp;done) | (cases c1;done) | (cases c2;done) | (cases c3;done)
   have w:=L.way _ r e nx hr he hgo;have K:=mQ (s:=0) (v:=0) ok e0 (by lia) h8 hd run (λi hi=>by rw[ab2] at hi;cases hi);have hk:=λ{s v:Int} (H:Hd s e.h (f_ bs) pl c.n v)=>KR ok e0 (by lia) h8 hd run hn H;obtain⟨x1,t,ht,hth,t0,F2⟩:=wk L w hd (bx:=f_ bs) (bx':=f_ Ub) (pl:=Td) (c:=c) (λt h2=>by rw[h2];exact⟨hk F.b,hk F.v4,hk F.v5,hk F.v6⟩);have SO:=K.len;have Wl:=K.below;refine⟨⟨t,x1,ht,t0,n0,by lia,F2,oW cs c (λj j0 j1=>KZ Wl j0 (by lia)) S⟩,x1⟩
theorem B1 {s i:Nat}(h:(Bt.wo s 143).testBit i=true):s.testBit i=true/\(i=4∨i=5∨i=6∨8<=i):=by
 rw[Bt.jH,aaM,ac1] at h;refine⟨h.1,?_⟩;by_cases h8 : 8<=i
 . exact .inr (.inr (.inr h8))
 . have h2 := h.2;rcases(show i=0∨i=1∨i=2∨i=3∨i=4∨i=5∨i=6∨i=7 by lia) with z | z | z | z | z | z | z | z <;> subst z <;> first | (exact absurd h2 (by decide)) | lia
theorem uj {k:Nat}{v:Int}{pl:List Int}(h0 : 0<=h)(k8:k<8)(e:bx k=some v):Hd (((2 ^ k:Nat):Int)) h bx pl n v:=by
 refine⟨by have:=Nat.two_pow_pos k;omega,λi hi=>?_⟩;rw[aaE,abJ] at hi;have hi:k=i:=of_decide_eq_true hi;subst hi;exact⟨by omega,λ_=>e,λz=>by omega⟩
theorem IW {pl bs:List Int}{t:Int}(L:Lb rs es ls)(A:Act rs es pl at' bs cs)(hr:rs[at'.toNat]? = some (.call t))(a0 : 0<=at')(h8:bs.length=8) :
   Act rs es pl t (sI bs 7 (at'+1)) (⟨at'+1,gI bs 4,gI bs 5,gI bs 6,pl.length⟩::cs)/\(0<=t/\t<es.length):=by
 cases cs with
 | nil =>
   have e:at'=es.length:=A
   have:at'.toNat<rs.length:=(List.getElem?_eq_some_iff.mp hr).1
   have:=L.len
   omega
 | cons c cs =>
   obtain⟨e,⟨b0,b1⟩,he,e0,n0,hn,F,S⟩:=A;obtain⟨t0,t1,ht⟩:=K_ (L.R8 _ t e hr he);have ne:∀ i:Int,0<=i->i≠7->gI (sI bs 7 (at'+1)) i=gI bs i:=λi i0 i7=>tR i0 (by decide) i7;have F0:KD ⟨0,128,16,32,64⟩ (f_ (sI bs 7 (at'+1))) pl ⟨at'+1,gI bs 4,gI bs 5,gI bs 6,pl.length⟩ :=
     ⟨uj (k := 7) (by decide) (by decide) (by show some _ = some _; rw [show ((7 : Nat) : Int) = 7 from rfl, mP (by decide) (by rw [h8]; decide)]),
      uj (k:=4) (by decide) (by decide) (by show some _=some _;rw[show((4:Nat):Int)=4 from rfl,ne 4 (by decide) (by decide)]),
      uj (k:=5) (by decide) (by decide) (by show some _=some _;rw[show((5:Nat):Int)=5 from rfl,ne 5 (by decide) (by decide)]),
      uj (k:=6) (by decide) (by decide) (by show some _=some _;rw[show((6:Nat):Int)=6 from rfl,ne 6 (by decide) (by decide)])⟩
   have hk:∀ {s v:Int},Hd s e.h (f_ bs) pl c.n v->g_ (Bt.wo s.toNat 143) e.h (pM ⟨at'+1,gI bs 4,gI bs 5,gI bs 6,pl.length⟩) pl c.n v:=λ{s v} H i hi=>by
     obtain⟨k1,k2⟩:=B1 hi;obtain⟨h1,h2,h3⟩:=H.2 i k1;refine⟨h1,λz=>?_,h3⟩;have z2:=h2 z;rcases k2 with rfl | rfl | rfl | k2
     . exact z2
     . exact z2
     . exact z2
     . omega
   refine⟨⟨⟨0,128,16,32,64⟩,⟨t0,t1⟩,ht,by decide,by show(0:Int)<=pl.length;omega,by show(pl.length:Int)=pl.length - 0;omega,F0,?_⟩,t0,t1⟩;refine⟨t,e,⟨by show 1<=at'+1;omega,by show at'+1<=(es.length:Int);omega⟩,?_,?_,e0,n0,hn,⟨hk F.b,hk F.v4,hk F.v5,hk F.v6⟩,S⟩
   . show rs[(at' + 1 - 1).toNat]? = _;rw[show at'+1 - 1=at' from by omega];exact hr
   . show es[(at' + 1 - 1).toNat]?.join = _;rw[show at'+1 - 1=at' from by omega];exact he
theorem AN {pl bs:List Int}{x:Int}(L:Lb rs es ls)(S:r0 rs es pl c cs)(hx:x=c.r∨(c.r - 1∈ls.map (·.1)/\x=lv ls (c.r - 1)/\c.r≠es.length))(hn:(pl.length:Int)=c.n)(h4:gI bs 4=c.a)(h5:gI bs 5=c.b)(h6:gI bs 6=c.c):Act rs es pl x bs cs:=by
 have mono:∀ i v,pM c i=some v->f_ bs i=some v:=λi v hv=>by
   unfold pM at hv;unfold f_;split at hv
   . rename_i z;subst z;rw[<- hv,<- h4];rfl
   split at hv
   . rename_i z;subst z;rw[<- hv,<- h5];rfl
   split at hv
   . rename_i z;subst z;rw[<- hv,<- h6];rfl
   cases hv
 cases cs with
 | nil =>
   rcases hx with rfl | ⟨_,_,hx⟩
   . exact S
   . exact absurd S hx
 | cons c2 cs =>
   obtain⟨t,e,⟨r1,r2⟩,hr,he,e0,n0,hn2,F,rest⟩:=S;have w:fg (.call t) e x es=none:=by
     rcases hx with rfl | ⟨hk,rfl,_⟩
     . exact L.way _ _ e c.r hr he (by
         show c.r∈[((c.r - 1).toNat:Int)+1];rw[List.mem_singleton];lia)
     . have hl := L.land _ hk;unfold m6 at hl;rw[if_pos ⟨by lia,by lia⟩,hr,he] at hl;have hl:yY (.call t) (some e) (lv ls (c.r - 1)) es=none:=hl;have hl:(if (d9 (.call t) e).isSome=true then none else fg (.call t) e (lv ls (c.r - 1)) es)=none:=hl;rw[L.own _ _ e hr he] at hl;exact hl
   obtain⟨b1,t2,UI,hh,h0,F2⟩:=wk L w (h:=e.h) (bx:=pM c) (bx':=f_ bs) (pl:=pl) (c:=c2) rfl (λt2 h2=>by rw[h2];exact⟨F.b.sub (Sub.iff.mpr λ_ z=>z) mono,F.v4.sub (Sub.iff.mpr λ_ z=>z) mono,F.v5.sub (Sub.iff.mpr λ_ z=>z) mono,F.v6.sub (Sub.iff.mpr λ_ z=>z) mono⟩);exact⟨t2,b1,UI,h0,n0,by lia,F2,rest⟩
def toC (c:Cl):bT:=⟨c.1,c.2.1,c.2.2.1,c.2.2.2.1,c.2.2.2.2⟩
def MS.bk (S:MS):List bT:=(S.calls.map toC).reverse
def mZ (S:MS)(ls:List (Int×Int)):Rw->List bT
 | .call _=>⟨S.ar+1,gI S.held 4,gI S.held 5,gI S.held 6,S.cells.length⟩::S.bk
 | .back _=>S.bk.drop 1
 | .drop _=>match S.bk.findIdx? (landAt S.rows.length (au ls)) with | none=>S.bk | some i=>S.bk.drop (i+1)
 | _=>S.bk
structure Run (S:MS)(es:List (Option Ent))(ls:List (Int×Int)):Prop where
 lb:Lb S.rows es ls
 act:Act S.rows es S.cells S.ar S.held S.bk
 nf:S.state ≠ "fault"
theorem uo {pl:List Int}:∀ (cs:List bT) (c0:bT) (k:Nat) (c:bT),r0 rs es pl c0 cs->cs[k]? = some c->r0 rs es pl c (cs.drop (k+1))/\0<=c.n/\c.n<=c0.n
 | [],_,_,_,_,h=>by cases h
 | c2 :: cs, c0, 0, c, S, h => by
   obtain⟨t,e,r1,hr,he,e0,n0,hn,F,rest⟩:=S;cases h
   exact⟨rest,n0,by lia⟩
 | c2 :: cs, c0, k + 1, c, S, h => by
   obtain⟨t,e,r1,hr,he,e0,n0,hn,F,rest⟩:=S;obtain⟨h1,h2,h3⟩:=uo cs c2 k c rest h;exact⟨h1,h2,by lia⟩
theorem BD {pl bs:List Int}:∀ (cs:List bT) (k:Nat) (c:bT),Act rs es pl at' bs cs->cs[k]? = some c->r0 rs es pl c (cs.drop (k+1))/\0<=c.n/\c.n<=pl.length
 | [],_,_,_,h=>by cases h
 | c0 :: cs, k, c, A, h => by
   obtain⟨e,b1,he,e0,n0,hn,F,S⟩:=A;cases k with
   | zero=>cases h;exact⟨S,n0,by lia⟩
   | succ k =>
     obtain⟨h1,h2,h3⟩:=uo cs c0 k c S h;exact⟨h1,h2,by lia⟩
theorem uJ (h:n=aU∨(0<=n/\n<aU)):aE aU n ≠ "fault":=by
 unfold aE;rcases h with h | h
 . rw[if_pos h];nofun
 . by_cases e:n=aU
   . rw[if_pos e];nofun
   . rw[if_neg e,if_pos h];nofun
theorem Fd {pl bs:List Int}(A:Act rs es pl at' bs cs):at'=es.length∨(0<=at'/\at'<es.length):=by
 cases cs with
 | nil=>exact .inl A
 | cons c cs=>obtain⟨e,b1,_⟩:=A;exact .inr b1
theorem C8 (R:Run S es ls)(O:cj S)(hc:S.calls.length<=5000):bg es 5000 S.ar (S.held.map V.int) S.cells=(S.bk,none):=by
 have h:=BE S.bk 5000 S.ar (f_ S.held) (S.held.map V.int) S.cells.length (LM R.lb R.act) (by unfold MS.bk;rw[adG,aac];exact hc) (acs _) (λi hi v hv=>by
   unfold f_ at hv;cases hv
   rw[aag];have h8:=O.h8;rw[aaa (by lia)];show some (V.int _)=some (V.int _);unfold gI;rw[aar,aaE,aaa (by lia)];rfl)
 rwa [aaE,aaU] at h
theorem CP (k:Nat):((S.calls.take (S.calls.length - k)).map toC).reverse=S.bk.drop k:=by
 unfold MS.bk;rw[List.map_take,<- aac (f:=toC) (as:=S.calls),List.reverse_take];by_cases h:k<=(S.calls.map toC).length
 . rw[show(S.calls.map toC).length - ((S.calls.map toC).length - k)=k from by lia]
 . rw[show(S.calls.map toC).length - ((S.calls.map toC).length - k)=(S.calls.map toC).length from by lia,List.drop_eq_nil_of_le (by rw[adG];lia),List.drop_eq_nil_of_le (by rw[adG];lia)]
theorem Bk (R:Run S es ls)(O:cj S)(hs:S.state = "runs")(hr:S.rows[S.ar.toNat]? = some r)(c1:r.isCall=false)(c2:r.eu=false)(c3:r.d6=false)(hg:∀ m,r=.grow m->(S.cells.length:Int)+m<=4000) :
   ∃ nx Ub Td,r.run S.ar S.held S.cells=some (nx,Ub,Td)/\S.bf r={ S with ar:=nx,held:=Ub,cells:=Td,state:=aE S.rows.length nx }/\Run (S.bf r) es ls:=by
 have az:=(O.ok r (aaj hr)).1;have A:=R.act;obtain⟨c,cs,hb⟩:∃ c cs,S.bk=c::cs:=by
   cases hb:S.bk with
   | nil =>
     rw[hb] at A;have e:S.ar=es.length:=A
     have:=O.r9 hs
     have:=R.lb.len
     lia
   | cons c cs=>exact⟨c,cs,rfl⟩
 have S7:∃ nx Ub Td,r.run S.ar S.held S.cells=some (nx,Ub,Td):=by
   rw[hb] at A;obtain⟨e,b1,he,e0,n0,hn,F,Ss⟩:=A;have S5:=R.lb.own _ r e hr he;have hd:r.aB e.h≠none:=λhx=>by
     unfold d9 at S5;rw[hx] at S5;split at S5
     . cases S5
     . rw[if_pos rfl] at S5;cases S5
   cases r with
   | grow m=>exact⟨_,_,_,by simp only[Rw.run];rw[if_neg (by have:=hg m rfl;lia)]⟩
   | shrink m =>
     simp only[Rw.aB] at hd;have hm : ¬ e.h<m:=λz=>hd (if_pos z);exact⟨_,_,_,by simp only[Rw.run];rw[if_neg (by lia)]⟩
   | put b k =>
     simp only[Rw.aB] at hd;have hm : ¬ e.h<=k:=λz=>hd (if_pos z);exact⟨_,_,_,by simp only[Rw.run];rw[if_neg (by lia)]⟩
   | get b k =>
     simp only[Rw.aB] at hd;have hm : ¬ e.h<=k:=λz=>hd (if_pos z);exact⟨_,_,_,by simp only[Rw.run];rw[if_neg (by lia)]⟩
   | drop b=>cases c3
   | _=>exact⟨_,_,_,rfl⟩
 obtain⟨nx,Ub,Td,S7⟩:=S7;obtain⟨A2,b2⟩:=FW R.lb A hr O.gm az O.h8 c1 c2 c3 S7;have Vn:aE S.rows.length nx ≠ "fault":=uJ (by rw[<- R.lb.len];exact .inr b2);have hbo:S.me r=S.calls:=by
   unfold MS.me;rw[c1,c2];rfl
 have U5:S.bf r={ S with ar:=nx,held:=Ub,cells:=Td,state:=aE S.rows.length nx }:=by
   unfold MS.bf;rw[S7];show(if aE S.rows.length nx = "fault" then _ else _)=_;rw[if_neg Vn,hbo]
 refine⟨nx,Ub,Td,S7,U5,?_⟩;rw[U5];exact⟨R.lb,A2,Vn⟩
theorem Dt {t:Int}(R:Run S es ls)(O:cj S)(hr:S.rows[S.ar.toNat]? = some (.call t)):Run (S.bf (.call t)) es ls/\(S.bf (.call t)).bk=mZ S ls (.call t)/\(S.bf (.call t)).cells=S.cells:=by
 obtain⟨A2,b2⟩:=IW R.lb R.act hr O.gm O.h8;have Vn:aE S.rows.length t ≠ "fault":=uJ (by rw[<- R.lb.len];exact .inr b2);have U5:S.bf (.call t)={ S with ar:=t,held:=sI S.held 7 (S.ar+1),calls:=S.calls++[(S.ar+1,gI S.held 4,gI S.held 5,gI S.held 6,(S.cells.length:Int))],state:=aE S.rows.length t }:=by
   unfold MS.bf;show(if aE S.rows.length t = "fault" then _ else _)=_;rw[if_neg Vn];rfl
 rw[U5];have hb:MS.bk { S with ar:=t,held:=sI S.held 7 (S.ar+1),calls:=S.calls++[(S.ar+1,gI S.held 4,gI S.held 5,gI S.held 6,(S.cells.length:Int))],state:=aE S.rows.length t }=mZ S ls (.call t):=by
   unfold MS.bk mZ;rw[aaF,List.reverse_append];rfl
 exact⟨⟨R.lb,by rw[hb];exact A2,Vn⟩,hb,rfl⟩
theorem qp {k:Nat}(p : 0<=s)(h:(aaK s ((2 ^ k:Nat):Int) != 0)=true):s.toNat.testBit k=true:=by
 obtain⟨n,rfl⟩:=acf p;rw[nv] at h;rw[aaE];cases hb:n.testBit k with
 | true=>rfl
 | false =>
   rw[(Dl n k).mpr hb] at h;cases h
theorem Dg (R:Run S es ls)(O:cj S)(hr:S.rows[S.ar.toNat]? = some (.back b))(hb:S.bk=c::cs):gI S.held b=c.r/\gI S.held 4=c.a/\gI S.held 5=c.b/\gI S.held 6=c.c/\(S.cells.length:Int)=c.n/\S.bf (.back b)={ S with ar:=c.r,calls:=S.calls.take (S.calls.length - 1),state:=aE S.rows.length c.r }/\(MS.bk { S with ar:=c.r,calls:=S.calls.take (S.calls.length - 1),state:=aE S.rows.length c.r }=S.bk.drop 1)/\Act S.rows es S.cells c.r S.held cs/\aE S.rows.length c.r ≠ "fault":=by
 have A:=R.act;have az:=(O.ok _ (aaj hr)).1;rw[hb] at A;obtain⟨e,b1,he,e0,n0,hn,F,Ss⟩:=A;have S5:=R.lb.own _ _ e hr he;have hm:jv b e=true:=by
   unfold d9 at S5;by_cases hw:dz e=true
   . rw[if_pos hw] at S5;cases S5
   . rw [if_neg hw, if_neg (by simp [Rw.aB])] at S5;by_cases hm:jv b e=true
     . exact hm
     . have S5 : (if jv b e = true then none else some Wt.back) = none := S5;rw[if_neg hm] at S5;cases S5
 unfold jv at hm;simp only[aaM,decide_eq_true_eq] at hm;obtain⟨h0,m1,m2,m3,m4⟩:=hm;obtain⟨_,p1,p2,p3,p4⟩:=G8 R.lb he;have bx:∀ {s v:Int} {k:Nat},Hd s e.h (f_ S.held) S.cells c.n v->s.toNat.testBit k=true->k<8->gI S.held (k:Int)=v:=λ{s v k} H t k8=>by
   have z:=(H.2 k t).2.1 k8;unfold f_ at z;injection z
 have hbx : 0<=b/\b<=7:=az;have e1:gI S.held b=c.r:=by
   have z:=bx F.b (qp (k:=b.toNat) (by lia) m1) (by lia)
   rwa [show((b.toNat:Nat):Int)=b from by lia] at z
 have e4:gI S.held 4=c.a:=bx F.v4 (qp (k:=4) (by lia) m2) (by decide);have e5:gI S.held 5=c.b:=bx F.v5 (qp (k:=5) (by lia) m3) (by decide);have e6:gI S.held 6=c.c:=bx F.v6 (qp (k:=6) (by lia) m4) (by decide);have A2:=AN (x:=c.r) (bs:=S.held) R.lb Ss (.inl rfl) (by lia) e4 e5 e6;have Vn:aE S.rows.length c.r ≠ "fault":=uJ (by rw[<- R.lb.len];exact Fd A2);have U5:S.bf (.back b)={ S with ar:=c.r,calls:=S.calls.take (S.calls.length - 1),state:=aE S.rows.length c.r }:=by
   unfold MS.bf;show(if aE S.rows.length (gI S.held b) = "fault" then _ else _)=_;rw[e1,if_neg Vn];rfl
 exact⟨e1,e4,e5,e6,by lia,U5,CP (S:=S) 1,A2,Vn⟩
theorem Mb (R:Run S es ls)(O:cj S)(hs:S.state = "runs")(hr:S.rows[S.ar.toNat]? = some (.back b)):Run (S.bf (.back b)) es ls/\(S.bf (.back b)).bk=mZ S ls (.back b)/\(S.bf (.back b)).cells=S.cells:=by
 have A:=R.act;obtain⟨c,cs,hb⟩:∃ c cs,S.bk=c::cs:=by
   cases hb:S.bk with
   | nil =>
     rw[hb] at A;have e:S.ar=es.length:=A
     have:=O.r9 hs
     have:=R.lb.len
     omega
   | cons c cs=>exact⟨c,cs,rfl⟩
 obtain⟨_,_,_,_,_,U5,U6,A2,Vn⟩:=Dg R O hr hb;rw[U5];exact⟨⟨R.lb,by rw[U6,hb];exact A2,Vn⟩,U6,rfl⟩
theorem IX (h:dN ls){k:Int}(e:(b3 (au ls) (.inl k)).isSome=true):k∈ls.map (·.1)/\b3 (au ls) (.inl k)=some (.int (lv ls k)):=by
 by_cases hm:k∈ls.map (·.1)
 . refine⟨hm,?_⟩;obtain⟨p,hp,rfl⟩:=List.mem_map.mp hm;obtain⟨h1,h2⟩:=hZ h.1 p hp;rw[h1,h2]
 . rw[iN hm] at e;cases e
theorem xV (R:Run S es ls)(O:cj S)(hc:S.calls.length<=5000)(hf:S.bk.findIdx? (landAt S.rows.length (au ls))=none):S.c7 es (au ls) (.drop b)={ S with state:="dropped",cY:=.int (gI S.held b) }:=by
 have W:=C8 R O hc;exact zV (S:=S) (kvs:=au ls) (v:=gI S.held b) (by rw[W]) (by rw[W];exact hf)
theorem xv {b:Int}{i:Nat}(R:Run S es ls)(O:cj S)(S6:dN ls)(hc:S.calls.length<=5000)(hf:S.bk.findIdx? (landAt S.rows.length (au ls))=some i) :
   ∃ c,S.bk[i]? = some c/\b3 (au ls) (.inl (c.r - 1))=some (.int (lv ls (c.r - 1)))/\(0<=c.n/\c.n<=S.cells.length)/\S.c7 es (au ls) (.drop b)=⟨S.rows,lv ls (c.r - 1),[gI S.held b,gI S.held 1,gI S.held 2,gI S.held 3,c.a,c.b,c.c,gI S.held 7],S.cells.take c.n.toNat,S.calls.take (S.calls.length - (i+1)),S.cY,aE S.rows.length (lv ls (c.r - 1))⟩ /\
     (S.c7 es (au ls) (.drop b)).bk=S.bk.drop (i+1)/\Run (S.c7 es (au ls) (.drop b)) es ls:=by
 have W:=C8 R O hc;have W2:(bg es 5000 S.ar (S.held.map V.int) S.cells).2=none:=by rw[W]
 have W1:(bg es 5000 S.ar (S.held.map V.int) S.cells).1=S.bk:=by rw[W]
 obtain⟨hi,hp,_⟩:=List.findIdx?_eq_some_iff_getElem.mp hf;have VP:S.bk[i]? = some S.bk[i]:=aaa hi;generalize S.bk[i]=c at hp VP;unfold landAt at hp;rw[aaM,decide_eq_true_eq] at hp;obtain⟨Ui,hk⟩:=hp;obtain⟨hk1,TQ⟩:=IX S6 hk;have e:=zG (S:=S) (kvs:=au ls) (v:=gI S.held b) (i:=i) (c:=c) W2 (by rw[W1];exact hf) (by rw[W1];exact VP) TQ;obtain⟨Ss,n0,n1⟩:=BD S.bk i c R.act VP;have SO:(S.cells.take c.n.toNat).length=c.n.toNat:=by rw[aaz];lia
 have Ss2:r0 S.rows es (S.cells.take c.n.toNat) c (S.bk.drop (i+1)):=oW _ c (λj j0 j1=>yX j0 (by lia)) Ss;have A2:=AN (x:=lv ls (c.r - 1)) (bs:=[gI S.held b,gI S.held 1,gI S.held 2,gI S.held 3,c.a,c.b,c.c,gI S.held 7]) R.lb Ss2 (.inr ⟨hk1,rfl,by rw[R.lb.len];exact Ui⟩) (by rw[SO];lia) rfl rfl rfl;have Vn:aE S.rows.length (lv ls (c.r - 1)) ≠ "fault":=uJ (by rw[<- R.lb.len];exact Fd A2);have e3:S.c7 es (au ls) (.drop b)=⟨S.rows,lv ls (c.r - 1),[gI S.held b,gI S.held 1,gI S.held 2,gI S.held 3,c.a,c.b,c.c,gI S.held 7],S.cells.take c.n.toNat,S.calls.take (S.calls.length - (i+1)),S.cY,aE S.rows.length (lv ls (c.r - 1))⟩:=by
   show S.dropped es (au ls) (gI S.held b)=_;rw[e];unfold MS.landed;rw[if_neg Vn]
 have U6:(S.c7 es (au ls) (.drop b)).bk=S.bk.drop (i+1):=by rw[e3];exact CP (S:=S) (i+1)
 exact⟨c,VP,TQ,⟨n0,n1⟩,e3,U6,by rw[e3] at U6 ⊢;exact⟨R.lb,by rw[U6];exact A2,Vn⟩⟩
theorem KL (R:Run S es ls)(O:cj S)(S6:dN ls)(hc:S.calls.length<=5000):Run (S.c7 es (au ls) (.drop b)) es ls/\(S.c7 es (au ls) (.drop b)).bk=mZ S ls (.drop b)/\(S.c7 es (au ls) (.drop b)).cells.length<=S.cells.length:=by
 have hlb:mZ S ls (.drop b)=match S.bk.findIdx? (landAt S.rows.length (au ls)) with | none=>S.bk | some i=>S.bk.drop (i+1):=rfl
 cases hf:S.bk.findIdx? (landAt S.rows.length (au ls)) with
 | none =>
   rw[xV R O hc hf,hlb,hf];exact⟨⟨R.lb,R.act,by show("dropped" : Str) ≠ "fault";nofun⟩,rfl,aah _⟩
 | some i =>
   obtain⟨c,_,_,⟨n0,n1⟩,e3,U6,R2⟩:=xv (b:=b) R O S6 hc hf;refine⟨R2,by rw[U6,hlb,hf],?_⟩;rw[e3];show(S.cells.take c.n.toNat).length<=_;rw[aaz];omega
theorem HM (R:Run S es ls)(O:cj S)(S6:dN ls)(hs:S.state = "runs")(hr:S.rows[S.ar.toNat]? = some r)(hc:S.calls.length<=5000)(hg:(S.cells.length:Int)+cz r<=4000)(g0 : 0<=cz r) :
   Run (S.bj es (au ls)) es ls/\(S.bj es (au ls)).bk=mZ S ls r/\((S.bj es (au ls)).cells.length:Int)<=S.cells.length+cz r:=by
 rw[kh hs hr];have plain:r.isCall=false->r.eu=false->r.d6=false->mZ S ls r=S.bk->Run (S.c7 es (au ls) r) es ls/\(S.c7 es (au ls) r).bk=mZ S ls r/\((S.c7 es (au ls) r).cells.length:Int)<=S.cells.length+cz r:=λc1 c2 c3 hl=>by
   rw[wG c3];obtain⟨nx,Ub,Td,S7,U5,R2⟩:=Bk R O hs hr c1 c2 c3 (λm e=>by rw[e] at hg;exact hg);refine⟨R2,by rw[U5,hl];rfl,?_⟩;rw[U5];show(Td.length:Int)<=_;cases r with
   | drop b=>cases c3
   | grow m=>simp only[Rw.run] at S7;split at S7 <;> cases S7;rw[aab,aaB];show _<=(S.cells.length:Int)+m;have : 0<=m:=g0;omega
   | shrink m=>simp only[Rw.run] at S7;split at S7 <;> cases S7;rw[aaz];show _<=(S.cells.length:Int)+0;omega
   | put b k=>simp only[Rw.run] at S7;split at S7 <;> cases S7;rw[dw];show _<=(S.cells.length:Int)+0;omega
   | get b k=>simp only[Rw.run] at S7;split at S7 <;> cases S7;show _<=(S.cells.length:Int)+0;omega
   | _=>simp only[Rw.run] at S7;cases S7;show _<=(S.cells.length:Int)+0;omega
 cases r with
 | call t =>
   obtain⟨h1,h2,h3⟩:=Dt R O hr;exact⟨h1,h2,by show((S.bf (.call t)).cells.length:Int)<=S.cells.length+0;rw[h3];omega⟩
 | back b =>
   obtain⟨h1,h2,h3⟩:=Mb R O hs hr;exact⟨h1,h2,by show((S.bf (.back b)).cells.length:Int)<=S.cells.length+0;rw[h3];omega⟩
 | drop b =>
   obtain⟨h1,h2,h3⟩:=KL (b:=b) R O S6 hc;exact⟨h1,h2,by show((S.c7 es (au ls) (.drop b)).cells.length:Int)<=S.cells.length+0;omega⟩
 | _=>exact plain rfl rfl rfl rfl
def Jt:Sp:=λvs H Q _=>∃ c:Int,vs=[.int c]/\∀ v H',ak H H'->isVal v->Q (.int v) H'
theorem Ff (h:r.here):decide (V.str r.ei.1=V.str "call")=r.isCall:=by cases r <;> first | exact h.elim | kernel_rfl
theorem GL (h:r.here):decide (V.str r.ei.1=V.str "back")=r.eu:=by cases r <;> first | exact h.elim | kernel_rfl
theorem G3 (h:r.here):decide (V.str r.ei.1=V.str "drop")=r.d6:=by cases r <;> first | exact h.elim | kernel_rfl
def pE (H:Hp)(us:List V)(rs:List Rw):Prop:=∀ (j:Nat) (u:V) (r:Rw),us[j]? = some u->rs[j]? = some r->iY H u r
theorem pE.snoc {u:V}{i:Nat}(h:pE H us rs)(e:rs.length=i)(hu:us[i]? = some u)(td:iY H u r):pE H us (rs++[r]):=λj u' r' h1 h2=>by
 by_cases hj:j<rs.length
 . rw[aao hj] at h2;exact h j u' r' h1 h2
 . have hje : j = rs.length := by
     have:=(List.getElem?_eq_some_iff.mp h2).1
     rw[aab] at this;have h9 : [r].length=1:=rfl
     lia
   subst hje;subst e;rw[hu] at h1;cases h1;rw[aaq (aah _),Nat.sub_self] at h2;cases h2;exact td
theorem pE.to (h:pE H us rs)(k:∀ b xs,H b=some (.tup xs)->H' b=some (.tup xs)):pE H' us rs:=λj u r h1 h2=>let ⟨p,e,z⟩:=h j u r h1 h2;⟨p,e,k _ _ z⟩
theorem GU (ls:List (Int×Int)):AW (au ls):=λk v e=>by
 unfold b3 at e;obtain⟨p,hp,rfl⟩:=Option.map_eq_some_iff.mp e;have hm:=List.mem_of_find?_eq_some hp;obtain⟨x,_,rfl⟩:=List.mem_map.mp hm;exact⟨_,rfl⟩
theorem uL {k:Nat}{pl:List Int}{v:Int}(hk:k<8)(h0 : 0<=h)(e:bx k=some v):Hd ((2 ^ k:Nat):Int) h bx pl n v:=by
 refine⟨by have:=Nat.two_pow_pos k;omega,λi hi=>?_⟩;rw[aaE,abJ] at hi;have e2:k=i:=by simpa using hi
 subst e2;exact⟨by omega,λ_=>e,λz=>by omega⟩
theorem Fc {bs:List Int}(L:Lb rs es ls)(h : 0<rs.length)(hb:bs.length=7):Run (ij rs bs 0) es ls:=by
 have hl:=L.len;have g7:f_ (bs++[(rs.length:Int)]) 7=some (rs.length:Int):=by
   unfold f_ gI;rw[aar,aaE,aaq (by lia),hb];rfl
 refine⟨L,?_,uJ (.inr ⟨by decide,by show(0:Int)<(rs.length:Int);lia⟩)⟩;refine⟨⟨0,128,16,32,64⟩,⟨acs _,by show(0:Int)<(es.length:Int);lia⟩,L.start h,acs _,acs _,rfl,⟨?_,?_,?_,?_⟩,by show(rs.length:Int)=(es.length:Int);lia⟩
 . exact uL (k:=7) (by decide) (by decide) g7
 . exact uL (k:=4) (by decide) (by decide) rfl
 . exact uL (k:=5) (by decide) (by decide) rfl
 . exact uL (k:=6) (by decide) (by decide) rfl
theorem OB (h:r.ok) : 0<=cz r:=by
 cases r <;> first | exact h.1 | exact acs _
theorem Ja {bs:List Int}(az:∀ r∈rs,r.ok/\r.here)(hr:rs.length<=450)(h1 : 0<rs.length)(hbl:bs.length=7)(hbv:∀ x∈bs,isVal x):cj (ij rs bs 0):=by
 refine⟨λr h=>⟨(az r h).1,λ_=>(az r h).2⟩,by show rs.length<=2000;lia,acs _,λz=>(EI z).2,by show(bs++[(rs.length:Int)]).length=8;rw[aab,hbl];rfl,?_,λx hx=>(nomatch hx),aaX _,ER _ _⟩;intro x hx;rcases List.mem_append.mp (show x∈bs++[(rs.length:Int)] from hx) with z | z
 . exact hbv x z
 . have e : x = (rs.length : Int) := by simpa using z
   rw[e];exact⟨by lia,by lia⟩
theorem xX (dv:List V)(k:Nat):fS dv (some (k:Int)) none=dv.drop k:=by
 unfold fS;have e1:HT.ba dv.length 0 (some (k:Int))=min k dv.length:=HT.jk _ _ k;have e2:HT.ba dv.length dv.length none=dv.length:=rfl;rw[e1,e2];by_cases h:k<=dv.length
 . rw[acL h,adg (by rw[aaZ];exact aah _)]
 . rw[Nat.min_eq_right (by lia),List.drop_of_length_le (aah _),List.drop_of_length_le (by lia),List.take_nil]
theorem A9:("dropped" : Str) ≠ "runs":=by nofun
theorem Qe:PyData.strOk "dropped" = true:=by nofun
theorem cj.landed (o:cj S){v:Int}{k:Nat}(hv:isVal v)(h1:isVal c.a)(h2:isVal c.b)(h3:isVal c.c):cj (S.landed v c k n):=by
 unfold MS.landed;split
 . exact⟨o.ok,o.many,o.gm,λz=>absurd z p8,o.h8,o.hv,o.cv,o.cl,zd⟩
 . rename_i hw;have WE:=Pr hw;refine ⟨o.ok,o.many,?_,λz=>(EI z).2,rfl,?_,λx hx=>o.cv x (abT hx),?_,ER _ _⟩
   . show 0 <= n
     lia
   . intro x hx;have hx:x∈[v,gI S.held 1,gI S.held 2,gI S.held 3,c.a,c.b,c.c,gI S.held 7]:=hx;simp only[aaQ,aaR,or_false] at hx;rcases hx with rfl | rfl | rfl | rfl | rfl | rfl | rfl | rfl
     . exact hv
     . exact fO o.hv _
     . exact fO o.hv _
     . exact fO o.hv _
     . exact h1
     . exact h2
     . exact h3
     . exact fO o.hv _
   . show(S.cells.take c.n.toNat).length <= 4000;rw[aaz]
     have:=o.cl
     lia
theorem cj.dropped (o:cj S){v:Int}(hv:isVal v):cj (S.dropped es kvs v):=by
 have hw:=o.walk es;unfold MS.walk at hw;unfold MS.dropped;split
 . exact⟨o.ok,o.many,o.gm,λz=>absurd z p8,o.h8,o.hv,o.cv,o.cl,zd⟩
 . split
   . exact⟨o.ok,o.many,o.gm,λz=>absurd z A9,o.h8,o.hv,o.cv,o.cl,Qe⟩
   . split
     . exact o
     . rename_i c hc;split
       . exact o
       . obtain⟨h1, h2, h3, _⟩ := hw c (aaj hc);exact o.landed hv h1 h2 h3
theorem cj.bj (o:cj S):cj (S.bj es kvs):=by
 by_cases h:S.state = "runs"
 . obtain⟨r, e, hr⟩ := o.row h;rw[kh h e];cases r with
   | drop b=>exact o.dropped (fO o.hv _)
   | _=>exact o.bf hr (o.r9 h)
 . rw[xT h];exact o
theorem CH (S:MS)(v:Int)(c:bT)(k:Nat)(n:Int):(S.landed v c k n).rows=S.rows/\(S.landed v c k n).calls.length<=S.calls.length/\(S.landed v c k n).cY=S.cY:=by
 unfold MS.landed;split
 . exact⟨rfl,aah _,rfl⟩
 . exact⟨rfl,by show(S.calls.take _).length<=_;rw[aaz];omega,rfl⟩
theorem Bu (S:MS)(es:List (Option Ent))(kvs:List (Key×V))(v:Int):(S.dropped es kvs v).rows=S.rows/\(S.dropped es kvs v).calls.length<=S.calls.length/\((S.dropped es kvs v).state = "runs"->(S.dropped es kvs v).cY=S.cY):=by
 unfold MS.dropped;split
 . exact⟨rfl,aah _,λ_=>rfl⟩
 . split
   . exact⟨rfl,aah _,λz=>absurd z A9⟩
   . split
     . exact⟨rfl,aah _,λ_=>rfl⟩
     . split
       . exact⟨rfl,aah _,λ_=>rfl⟩
       . obtain⟨h1, h2, h3⟩ := CH S v _ _ _;exact⟨h1,h2,λ_=>h3⟩
theorem FJ (S:MS)(r:Rw):(S.bf r).cY=S.cY:=by
 unfold MS.bf;split
 . rfl
 . split <;> rfl
theorem xY (S:MS)(es:List (Option Ent))(kvs:List (Key×V))(r:Rw):(S.c7 es kvs r).rows=S.rows/\(S.c7 es kvs r).calls.length<=S.calls.length+1/\((S.c7 es kvs r).state = "runs"->(S.c7 es kvs r).cY=S.cY):=by
 cases r with
 | drop b =>
   obtain⟨h1,h2,h3⟩:=Bu S es kvs (gI S.held b);exact⟨h1,Nat.le_succ_of_le h2,h3⟩
 | _=>exact⟨uT _ _,Ce _ _,λ_=>FJ _ _⟩
theorem uM (S:MS)(es:List (Option Ent))(kvs:List (Key×V)):(S.bj es kvs).rows=S.rows/\(S.bj es kvs).calls.length<=S.calls.length+1/\((S.bj es kvs).state = "runs"->S.state = "runs"/\(S.bj es kvs).cY=S.cY):=by
 by_cases h:S.state = "runs"
 . cases e:S.rows[S.ar.toNat]? with
   | none =>
     have:S.bj es kvs=S:=by unfold MS.bj;rw[if_pos h,e]
     rw[this];exact⟨rfl,abn _,λz=>⟨z,rfl⟩⟩
   | some r =>
     rw[kh h e];obtain⟨h1,h2,h3⟩:=xY S es kvs r;exact⟨h1,h2,λz=>⟨h,h3 z⟩⟩
 . rw[xT h];exact⟨rfl,abn _,λz=>⟨z,rfl⟩⟩
theorem D_:(S.bj es kvs).rows=S.rows:=(uM S es kvs).1
theorem B8 (S:MS)(es:List (Option Ent))(kvs:List (Key×V)):(S.bj es kvs).calls.length<=S.calls.length+1:=(uM S es kvs).2.1
structure Cp where
 r:Int
 a:Int
 b:Int
 c:Int
 pl:List Int
def Cp.gW (d:Cp):bT:=⟨d.r,d.a,d.b,d.c,d.pl.length⟩
structure Th (S:MS)(ds:List Cp):Prop where
 bk:∃ c0:bT,S.bk=ds.map Cp.gW++[c0]/\c0.r=S.rows.length
 pl:∀ d∈ds,S.cells.take d.pl.length=d.pl
theorem FX {xs ys:List Int}{n m:Nat}(h:ys.take m=xs.take m)(hn:n<=m):ys.take n=xs.take n:=by
 have e:∀ zs:List Int,zs.take n=(zs.take m).take n:=λzs=>by rw[ady,acL hn]
 rw[e ys,e xs,h]
theorem B4 {nx:Int}(R:Run S es ls)(O:cj S)(hr:S.rows[S.ar.toNat]? = some r)(hb:S.bk=c::cs)(run:r.run S.ar S.held S.cells=some (nx,Ub,Td)):Td.take c.n.toNat=S.cells.take c.n.toNat:=by
 have A:=R.act;rw[hb] at A;obtain⟨e,b1,he,e0,n0,hn,F,Ss⟩:=A;have S5:=R.lb.own _ r e hr he;have hd:∃ d,r.aB e.h=some d:=by
   unfold d9 at S5;cases hx:r.aB e.h with
   | some d=>exact⟨d,rfl⟩
   | none =>
     rw[hx] at S5;split at S5
     . cases S5
     . rw[if_pos rfl] at S5;cases S5
 obtain⟨d,hd⟩:=hd;have K:=mQ (s:=0) (v:=0) (O.ok r (aaj hr)).1 e0 (by lia) O.h8 hd run (λi hi=>by rw[ab2] at hi;cases hi);have Wl:=K.below
 rwa [show S.cells.length - e.h.toNat=c.n.toNat by lia] at Wl
variable {ds:List Cp}
theorem Pl (R:Run S es ls)(T:Th S ds)(hb:S.bk=c::cs):∀ d∈ds,(d.pl.length:Int)<=c.n:=by
 intro d hd;obtain⟨c0,h1,_⟩:=T.bk;obtain⟨k,hk,e⟩:=abD hd;have TQ:S.bk[k]? = some d.gW:=by
   rw[h1,aao (by rw[aac];exact hk),aag,aaa hk,e];rfl
 have A:=R.act;rw[hb] at A TQ;cases k with
 | zero=>injection TQ with TQ;rw[TQ];exact acs _
 | succ k =>
   obtain⟨e,b1,he,e0,n0,hn,F,Ss⟩:=A;exact(uo cs c k d.gW Ss TQ).2.2
theorem JG (T:Th S ds):∃ c cs,S.bk=c::cs:=by
 obtain⟨c0,h1,_⟩:=T.bk;cases ds with
 | nil=>exact⟨_,_,h1⟩
 | cons d ds=>exact⟨_,_,h1⟩
theorem IM (R:Run S es ls)(O:cj S)(T:Th S ds)(hs:S.state = "runs")(hr:S.rows[S.ar.toNat]? = some r)(c1:r.isCall=false)(c2:r.eu=false)(c3:r.d6=false)(hg:∀ m,r=.grow m->(S.cells.length:Int)+m<=4000):Th (S.bf r) ds:=by
 obtain⟨c,cs,hb⟩:=JG T;obtain⟨nx,Ub,Td,S7,U5,R2⟩:=Bk R O hs hr c1 c2 c3 hg;have Wl:=B4 R O hr hb S7;have hle:=Pl R T hb;rw[U5];refine⟨T.bk,λd hd=>?_⟩
 have:=hle d hd
 show Td.take d.pl.length=d.pl;rw[FX Wl (by lia)];exact T.pl d hd
theorem LF {t:Int}(R:Run S es ls)(O:cj S)(T:Th S ds)(hr:S.rows[S.ar.toNat]? = some (.call t)):Th (S.bf (.call t)) (⟨S.ar+1,gI S.held 4,gI S.held 5,gI S.held 6,S.cells⟩::ds):=by
 obtain⟨R2,U6,WK⟩:=Dt R O hr;obtain⟨c0,h1,h2⟩:=T.bk;refine⟨⟨c0,?_,by rw[uT];exact h2⟩,λd hd=>?_⟩
 . rw[U6];show _::S.bk=_::_;rw[h1];rfl
 . rw[WK];rcases List.mem_cons.mp hd with rfl | z
   . exact aaU
   . exact T.pl d z
theorem call_in (R:Run S es ls)(T:Th S ds):∀ d∈ds,d.r<S.rows.length:=by
 intro d hd;obtain⟨c0,h1,h2⟩:=T.bk;obtain⟨k,hk,e⟩:=abD hd;have TQ:S.bk[k]? = some d.gW:=by
   rw[h1,aao (by rw[aac];exact hk),aag,aaa hk,e];rfl
 obtain⟨Ss,_,_⟩:=BD S.bk k d.gW R.act TQ;have hl:S.bk.drop (k+1)≠[]:=λz=>by
   have:=congrArg List.length z
   rw[aaZ,h1,aab,aac] at this;have h9 : [c0].length=1:=rfl
   have:([]:List bT).length=0:=rfl
   lia
 cases hx:S.bk.drop (k+1) with
 | nil=>exact(hl hx).elim
 | cons c2 cs =>
   rw[hx] at Ss;obtain⟨t,e2,⟨r1,r2⟩,hr,he,_⟩:=Ss;have w:=R.lb.way _ _ e2 (((d.r - 1).toNat:Nat)+1) hr he (by simp[Rw.du];rfl);have SO:=R.lb.len;have r1 : 1<=d.r:=r1;unfold fg at w;split at w
   . rename_i z;lia
   . cases w
theorem Le (R:Run S es ls)(O:cj S)(T:Th S ds)(hs:S.state = "runs")(hr:S.rows[S.ar.toNat]? = some (.back b)) :
   (ds=[]->(S.bf (.back b)).state = "ended"/\(S.bf (.back b)).ar=S.rows.length) /\
   ∀ d ds',ds=d::ds'->(S.bf (.back b)).ar=d.r/\(S.bf (.back b)).held=S.held/\gI S.held 4=d.a/\gI S.held 5=d.b/\gI S.held 6=d.c/\(S.bf (.back b)).cells=d.pl/\Th (S.bf (.back b)) ds':=by
 obtain⟨c,cs,hb⟩:=JG T;obtain⟨e1,e4,e5,e6,hn,U5,U6,A2,Vn⟩:=Dg R O hr hb;obtain⟨c0,h1,h2⟩:=T.bk;rw[U5];refine⟨λz=>?_,λd ds' z=>?_⟩
 . subst z;have hc:c=c0:=by rw [h1] at hb;cases hb;rfl
   have hcr:c.r=(S.rows.length:Int):=by rw[hc];exact h2
   refine⟨?_,hcr⟩;show aE S.rows.length c.r = "ended";unfold aE;rw[if_pos hcr]
 . subst z;have hc:c=d.gW:=by rw [h1] at hb;cases hb;rfl
   have hcs:cs=ds'.map Cp.gW++[c0]:=by rw[h1] at hb;cases hb;rfl
   subst hc;have TF:S.cells=d.pl:=by
     rw[<- T.pl d (abu ..)];have hn:(S.cells.length:Int)=d.pl.length:=hn;rw[show d.pl.length=S.cells.length by lia,aaU]
   refine⟨rfl,rfl,e4,e5,e6,TF,⟨c0,?_,h2⟩,λd2 Uu=>T.pl d2 (aa0 _ Uu)⟩;rw[U6,hb];exact hcs
theorem Ds {c0:bT}(h0:c0.r=aU):∀ (ds:List Cp),(∀ d∈ds,d.r≠aU)->(ds.map Cp.gW++[c0]).findIdx? (landAt aU kvs)=ds.findIdx? (λd=>(b3 kvs (.inl (d.r - 1))).isSome)
 | [], _ => by
   have e:landAt aU kvs c0=false:=by unfold landAt;rw[h0];simp
   show List.findIdx? _ [c0]=_;rw[adL,e];rfl
 | d :: ds, h => by
   have e:landAt aU kvs d.gW=(b3 kvs (.inl (d.r - 1))).isSome:=by
     unfold landAt;rw[decide_eq_true (show d.gW.r≠aU from h d (abu ..))];rfl
   have ih:=Ds h0 ds (λd2 h2=>h d2 (aa0 _ h2));rw[aaN,List.cons_append,adL,adL,e,ih]
def kj (ls:List (Int×Int))(d:Cp):Bool:=(b3 (au ls) (.inl (d.r - 1))).isSome
theorem LV {b:Int}(R:Run S es ls)(O:cj S)(T:Th S ds)(S6:dN ls)(hc:S.calls.length<=5000) :
   (ds.findIdx? (kj ls)=none->(S.c7 es (au ls) (.drop b)).state = "dropped"/\(S.c7 es (au ls) (.drop b)).cY=.int (gI S.held b)) /\
   ∀ i,ds.findIdx? (kj ls)=some i->∃ d,ds[i]? = some d/\b3 (au ls) (.inl (d.r - 1))=some (.int (lv ls (d.r - 1)))/\(S.c7 es (au ls) (.drop b)).ar=lv ls (d.r - 1)/\(S.c7 es (au ls) (.drop b)).held=[gI S.held b,gI S.held 1,gI S.held 2,gI S.held 3,d.a,d.b,d.c,gI S.held 7]/\(S.c7 es (au ls) (.drop b)).cells=d.pl/\Th (S.c7 es (au ls) (.drop b)) (ds.drop (i+1)):=by
 obtain⟨c0,h1,h2⟩:=T.bk;have hfb:S.bk.findIdx? (landAt S.rows.length (au ls))=ds.findIdx? (kj ls):=by
   rw[h1];exact Ds h2 ds (λd hd=>by have:=call_in R T d hd;lia)
 refine⟨λz=>?_,λi z=>?_⟩
 . rw[xV R O hc (by rw[hfb]; exact z)];exact⟨rfl,rfl⟩
 . obtain⟨c, VP, hv, ⟨n0, n1⟩, e3, U6, R2⟩ := xv (b := b) R O S6 hc (by rw[hfb]; exact z);obtain⟨hi,_⟩:=List.findIdx?_eq_some_iff_getElem.mp z;have Tp:c=ds[i].gW:=by
     rw[h1,aao (by rw[aac];exact hi),aag,aaa hi] at VP;cases VP;rfl
   have hm:ds[i]∈ds:=aaV hi;have hdi:ds[i]? = some ds[i]:=aaa hi;generalize ds[i]=d at Tp hm hdi;subst Tp;have TF:S.cells.take d.gW.n.toNat=d.pl:=by
     show S.cells.take ((d.pl.length:Nat):Int).toNat=d.pl;rw[aaE];exact T.pl d hm
   refine⟨d,hdi,hv,by rw[e3];rfl,by rw[e3];rfl,by rw[e3];exact TF,⟨c0,?_,?_⟩,λd2 Uu=>?_⟩
   . rw[U6,h1,List.drop_append_of_le_length (by rw[aac];lia),List.map_drop]
   . rw[(xY S es (au ls) (.drop b)).1];exact h2
   . have hd3 : d2 ∈ ds := adv Uu;rw[e3];show(S.cells.take d.gW.n.toNat).take _=_;have hle:d2.pl.length<=d.pl.length:=by
       obtain⟨k,hk,ek⟩:=abD Uu;have hk3:S.bk[i]? = some d.gW:=VP;have WD:(S.bk.drop (i+1))[k]? = some d2.gW:=by
         rw[h1,List.drop_append_of_le_length (by rw[aac];lia),<- List.map_drop,aao (by rw[aac];exact hk),aag,aaa hk,ek];rfl
       obtain⟨Ss,_,_⟩:=BD S.bk i d.gW R.act hk3;have hz:=(uo (S.bk.drop (i+1)) d.gW k d2.gW Ss WD).2.2;have hz:(d2.pl.length:Int)<=(d.pl.length:Int):=hz
       lia
     rw[ady,show min d2.pl.length d.gW.n.toNat=d2.pl.length by show min d2.pl.length ((d.pl.length:Nat):Int).toNat=_;lia];exact T.pl d2 hd3
def OO (K:W.Frag)(a:bE)(H:Hp)(t:Addr)(rs:List Rw)(ls:List (Int×Int)):Prop:=∃ dt l d ev es,H t=some (.ins a.bZ dt (fU l d))/\H l=some (.lst ev)/\H d=some (.dK (au ls))/\dj K H ev es/\es.length=rs.length/\∀ oe∈es,∀ e,oe=some e->e.nn
def JP (K:W.Frag)(a:bE):Sp:=λvs H Q _=>∃ (c d:Addr) (prs:List Addr) (rs:List Rw) (ls:List (Int×Int)),vs=[.ref c,.ref d]/\H c=some (.lst (prs.map V.ref))/\bH a H prs rs/\(∀ r∈rs,r.ok/\r.here)/\1<=rs.length/\rs.length<=450/\dN ls/\H d=some (.dK (au ls))/\(∀ H',ak H H'->Q .aA H')/\∀ t H',ak H H'->OO K a H' t rs ls->Q (.ref t) H'
def nF (pk:Addr)(H:Hp)(v:V)(d:Cp):Prop:=∃ t q p,v=.ref t/\H t=some (.tup [.int d.r,.ref q,.ref p])/\H q=some (.tup [.int d.a,.int d.b,.int d.c])/\H p=some (.lst (d.pl.map V.int))/\p≠pk
theorem nF.same {v:V}{d:Cp}(h:nF pk H v d)(s:ak H H'):nF pk H' v d:=by
 obtain⟨t,q,p,e,h1,h2,h3,h4⟩:=h;exact⟨t,q,p,e,s _ _ h1,s _ _ h2,s _ _ h3,h4⟩
theorem nF.kept {fs:List (Str×V)}{v:V}{d:Cp}(kp:aN m pk H H')(hm:H m=some (.ins C dx fs))(hk:H pk=some (.lst xs))(h:nF pk H v d):nF pk H' v d:=by
 obtain⟨t,q,p,e,h1,h2,h3,h4⟩:=h;exact⟨t,q,p,e,kp _ _ h1 (λz=>by rw[z,hm] at h1;cases h1) (λz=>by rw[z,hk] at h1;cases h1),kp _ _ h2 (λz=>by rw[z,hm] at h2;cases h2) (λz=>by rw[z,hk] at h2;cases h2),kp _ _ h3 (λz=>by rw[z,hm] at h3;cases h3) h4,h4⟩
def dC (pk:Addr)(H:Hp)(vs:List V)(ds:List Cp):Prop:=vs.length=ds.length/\∀ (i:Nat) (v:V) (d:Cp),vs[i]? = some v->ds[i]? = some d->nF pk H v d
theorem dC.same (h:dC pk H vs ds)(s:ak H H'):dC pk H' vs ds:=⟨h.1,λi v d e1 e2=>(h.2 i v d e1 e2).same s⟩
theorem dC.kept {fs:List (Str×V)}(kp:aN m pk H H')(hm:H m=some (.ins C dx fs))(hk:H pk=some (.lst xs))(h:dC pk H vs ds):dC pk H' vs ds:=⟨h.1,λi v d e1 e2=>(h.2 i v d e1 e2).kept kp hm hk⟩
theorem dC.Kc (h:dC pk H vs ds)(k:Nat):dC pk H (vs.drop k) (ds.drop k) :=
 ⟨by rw[aaZ,aaZ,h.1],λi v d e1 e2=>h.2 (k+i) v d (by rw[adK] at e1;exact e1) (by rw[adK] at e2;exact e2)⟩
theorem dC.cons {v:V}{d:Cp}(q:nF pk H v d)(h:dC pk H vs ds):dC pk H (v::vs) (d::ds):=by
 refine⟨by rw[aaA,aaA,h.1],λi u e e1 e2=>?_⟩;cases i with
 | zero=>cases e1;cases e2;exact q
 | succ i=>exact h.2 i u e e1 e2
def iV (ds:List Cp)(ls:List (Int×Int)):Int:=match ds.findIdx? (kj ls) with | none=>-1 | some i=>(i:Int)
def y6:Sp:=λvs H Q _=>∃ (p d pk:Addr) (us:List V) (ds:List Cp) (ls:List (Int×Int)),vs=[.ref p,.ref d]/\H p=some (.lst us)/\dC pk H us ds/\us.length<=5000/\H d=some (.dK (au ls))/\Q (.int (iV ds ls)) H
def RM (a:bE):Sp:=λvs H Q _=>∃ (m t pk pt:Addr) (S:MS) (d:Cp),vs=[.ref m,.ref t]/\cM a H m pk pt S/\cj S/\nF pk H (.ref t) d/\gI S.held 4=d.a/\gI S.held 5=d.b/\gI S.held 6=d.c/\S.cells=d.pl/\∀ H',ak H H'->Q (.bl true) H'
def y7 (a:bE):Sp:=λvs H Q _=>∃ (m p pk pt:Addr) (aU:Int) (S:MS) (us:List V) (ds:List Cp),vs=[.ref m,.ref p,.int aU]/\cM a H m pk pt S/\cj S/\H p=some (.lst us)/\dC pk H us ds/\us.length<=5000/\(ds=[]->S.state = "ended"/\S.ar=aU)/\(∀ d ds',ds=d::ds'->S.ar=d.r/\gI S.held 4=d.a/\gI S.held 5=d.b/\gI S.held 6=d.c/\S.cells=d.pl)/\∀ H',ak H H'->Q (.bl true) H'
def za (a:bE):Sp:=λvs H Q _=>∃ (m p d0 lh pk pt:Addr) (b:Int) (S:MS) (hs:List Int) (us:List V) (ds:List Cp) (ls:List (Int×Int)),vs=[.ref m,.ref p,.ref d0,.ref lh,.int b]/\cM a H m pk pt S/\cj S/\H p=some (.lst us)/\dC pk H us ds/\us.length<=5000/\H d0=some (.dK (au ls))/\H lh=some (.lst (hs.map V.int))/\hs.length=8/\0<=b/\b<=7 /\
 (ds.findIdx? (kj ls)=none->S.state = "dropped"/\S.cY=.int (gI hs b))/\(∀ i,ds.findIdx? (kj ls)=some i->∃ d,ds[i]? = some d/\b3 (au ls) (.inl (d.r - 1))=some (.int (lv ls (d.r - 1)))/\S.ar=lv ls (d.r - 1)/\S.held=[gI hs b,gI hs 1,gI hs 2,gI hs 3,d.a,d.b,d.c,gI hs 7]/\S.cells=d.pl)/\∀ H',ak H H'->Q (.bl true) H'
theorem Jr {xs:List Int}(h:xs.length=8):∃ x0 x1 x2 x3 x4 x5 x6 x7,xs=[x0,x1,x2,x3,x4,x5,x6,x7]:=by
 match xs,h with
 | [x0,x1,x2,x3,x4,x5,x6,x7],_=>exact⟨x0,x1,x2,x3,x4,x5,x6,x7,rfl⟩
def so (d:Cp):PyData:=.tuple [.int d.r,.tuple [.int d.a,.int d.b,.int d.c],.list (d.pl.map acE)]
theorem nF.dp {K:W.Frag}{v:V}{d:Cp}(h:nF pk H v d):Dp K H (so d) v:=by
 obtain⟨t,q,p,rfl,h1,h2,h3,_⟩:=h;exact gB (aJ.of h1) (aS (cE _) (aS (gB (aJ.of h2) (aS (cE _) (aS (cE _) (aS (cE _) cL)))) (aS (jl (aq.of h3)) cL)))
theorem dC.dp {K:W.Frag}:∀ {vs:List V} {ds:List Cp},dC pk H vs ds->dW K H (ds.map so) vs
 | [],[],_=>cL
 | v::vs,d::ds,h=>aS (h.2 0 v d rfl rfl).dp (dC.dp ⟨ac5 h.1,λi u e e1 e2=>h.2 (i+1) u e e1 e2⟩)
 | [],_::_,h=>nomatch h.1
 | _::_,[],h=>nomatch h.1
theorem Dj:∀ ds:List Cp,aci (ds.map so)=true
 | []=>rfl
 | d :: ds => by
   have:=Dj ds
   simp[so,adp,aci,iF,this]
theorem xJ:∀ ds:List Cp,ab9 (ds.map so)<=3
 | []=>by simp[ab9]
 | d :: ds => by
   have:=xJ ds
   simp[so,PyData.depth,ab9,jf]
   lia
theorem ED (ds:List Cp):shaped (.list (ds.map so))=true:=by
 have:=xJ ds
 unfold shaped;rw[adp,Dj,PyData.depth]
 simp;lia
def Wd (s:Str):Prop:=s = "runs"∨s = "ended"∨s = "dropped"∨s = "fault"
theorem Dx (h n:Int):Wd (aE h n):=by
 unfold aE;split
 . exact .inr (.inl rfl)
 . split
   . exact .inl rfl
   . exact .inr (.inr (.inr rfl))
theorem M0 (h:Wd S.state):Wd (S.c7 es kvs r).state:=by
 have D:∀ r:Rw,Wd (S.bf r).state:=λr=>by
   unfold MS.bf;split
   . exact .inr (.inr (.inr rfl))
   . split
     . exact .inr (.inr (.inr rfl))
     . exact Dx _ _
 cases r with
 | drop b =>
   show Wd (S.dropped es kvs (gI S.held b)).state;unfold MS.dropped;split
   . exact .inr (.inr (.inr rfl))
   . split
     . exact .inr (.inr (.inl rfl))
     . split
       . exact h
       . split
         . exact h
         . unfold MS.landed;split
           . exact .inr (.inr (.inr rfl))
           . exact Dx _ _
 | _=>exact D _
theorem Ln {s:Str}(h:Wd s)(n1:s ≠ "runs")(n2:s ≠ "fault"):s = "ended"∨s = "dropped":=by
 rcases h with h | h | h | h
 . exact absurd h n1
 . exact .inl h
 . exact .inr h
 . exact absurd h n2
theorem HU {bs:List Int}(hb:bs.length=7):Th (ij rs bs 0) []:=⟨⟨_,rfl,rfl⟩,λd hd=>by cases hd⟩
theorem gE (T:TX):J6 P w K mg base 1 "Astray" a.dO "row":=by
 obtain⟨f0,fd0,F,c0,hb0⟩:=T.Gm;refine⟨f0,fd0,_,c0,F.ok (k:=0) mh (λvs H Q E h=>?_) (λSN A outer s H vs Q E hr h=>?_),hb0⟩
 . obtain⟨e, i, rfl, _⟩ := h;rfl
 . obtain⟨e, i, rfl, he, WB, q⟩ := h;walk_at"h";have nd:=mh.nd;refine' aR ?_ ?_;exact(gi (Cu T.yP T.xW.choose_spec rfl (ah (pv 0) (ah (qI (pv 1)) ax))));walk_at"m";exact(Hw (K:=K) rfl (pv 0) (pv 1));walk_at"s";symm;refine⟨WB,?_⟩;symm;refine⟨e,_,rfl,he,?_⟩;symm;refine⟨e,a.dO,rfl,he,T.Fl,λd hd=>?_⟩;symm;exact q d hd
theorem DK (T:TX):FE 1 "bounded" xx:=by
 refine a_ 0 T.EU uE ?_ ?_;ac_nf
 . obtain⟨n, top, rfl, h0, h1, q⟩ := h;walk_at"h";have nd:=uE.nd;refine' aR ?_ ?_;walk_at"f";walk_at"tT";walk_at"m";exact Jo;exact cB;walk_at"m";walk_at"tS";walk_at"s";symm;exact q
theorem BM (T:TX):FE 1 "with_box" (xR K):=by
 refine a_ 0 T.B5 rQ ?_ ?_;ac_nf
 . obtain⟨p, xs, b, v, rfl, hS, h0, h1, q⟩ := h;walk_at"h";have nd:=rQ.nd;walk_at"v";symm;rename_i l hl;rw[iI];exact q l hl
theorem oM (T:TX):FE 1 "box_place" CS:=by
 refine a_ 0 T.AX oR ?_ ?_;ac_nf
 . obtain⟨b, rfl, h0, h1, q⟩ := h;walk_at"h";have nd:=oR.nd;walk_at"v";symm;refine GC (vS h0 (by lia)) ?_;rw[wq];exact q
theorem yl (T:TX):FE 1 "cell_place" AU:=by
 refine a_ 0 T.yR nZ ?_ ?_;ac_nf
 . obtain⟨c, z, rfl, h0, h1, h2, q⟩ := h;walk_at"h";have nd:=nZ.nd;walk_at"v";symm;refine GC (vS (by lia) (by lia)) ?_;rw[wq];exact q
theorem Eh (T:TX):FE 1 "without" xB:=by
 refine a_ 0 T.EH uu ?_ ?_;ac_nf
 . obtain⟨s, p, rfl, q⟩ := h;walk_at"h";have nd:=uu.nd;walk_at"v";symm;refine(?_:Q (V.int _) _);rw[gj];exact q
theorem Cz (T:TX)(b o t:Int):ME 1 a.cH "goes" (eB a (.add b o t)):=by
 refine ay 0 T.ju T.DY bB ?_ ?_;ac_nf
 . obtain⟨x, z, rfl, ⟨dx, hx⟩, q⟩ := h
   change H x=some (.ins a.cH dx (av "other" (.int t) (av "one" (.int o) (av "box" (.int b) [])))) at hx
   walk_at"h";have nd:=bB.nd;walk_at"v";symm;exact q _ (by assumption)
theorem B2 (T:TX)(b n:Int):ME 1 a.cP "goes" (eB a (.set b n)):=by
 refine ay 0 T.jE T.EB bB ?_ ?_;ac_nf
 . obtain⟨x, z, rfl, ⟨dx, hx⟩, q⟩ := h
   change H x=some (.ins a.cP dx (av "number" (.int n) (av "box" (.int b) []))) at hx
   walk_at"h";have nd:=bB.nd;walk_at"v";symm;exact q _ (by assumption)
theorem Af (T:TX)(b o:Int):ME 1 a.bW "goes" (eB a (.copy b o)):=by
 refine ay 0 T.hJ T.B_ bB ?_ ?_;ac_nf
 . obtain⟨x, z, rfl, ⟨dx, hx⟩, q⟩ := h
   change H x=some (.ins a.bW dx (av "one" (.int o) (av "box" (.int b) []))) at hx
   walk_at"h";have nd:=bB.nd;walk_at"v";symm;exact q _ (by assumption)
theorem zO (T:TX)(t:Int):ME 1 a.aV "goes" (eB a (.call t)):=by
 refine ay 0 T.iw T.CJ bB ?_ ?_;ac_nf
 . obtain⟨x, z, rfl, ⟨dx, hx⟩, q⟩ := h
   change H x=some (.ins a.aV dx (av "target" (.int t) [])) at hx
   walk_at"h";have nd:=bB.nd;walk_at"v";symm;exact q _ (by assumption)
theorem B0 (T:TX)(b c:Int):ME 1 a.cQ "goes" (eB a (.put b c)):=by
 refine ay 0 T.jD T.Ey bB ?_ ?_;ac_nf
 . obtain⟨x, z, rfl, ⟨dx, hx⟩, q⟩ := h
   change H x=some (.ins a.cQ dx (av "cell" (.int c) (av "box" (.int b) []))) at hx
   walk_at"h";have nd:=bB.nd;walk_at"v";symm;exact q _ (by assumption)
theorem B7 (T:TX)(b c:Int):ME 1 a.cO "goes" (eB a (.get b c)):=by
 refine ay 0 T.jT T.D8 bB ?_ ?_;ac_nf
 . obtain⟨x, z, rfl, ⟨dx, hx⟩, q⟩ := h
   change H x=some (.ins a.cO dx (av "cell" (.int c) (av "box" (.int b) []))) at hx
   walk_at"h";have nd:=bB.nd;walk_at"v";symm;exact q _ (by assumption)
theorem AR (T:TX)(m:Int):ME 1 a.b9 "goes" (eB a (.grow m)):=by
 refine ay 0 T.ic T.Cq bB ?_ ?_;ac_nf
 . obtain⟨x, z, rfl, ⟨dx, hx⟩, q⟩ := h
   change H x=some (.ins a.b9 dx (av "many" (.int m) [])) at hx
   walk_at"h";have nd:=bB.nd;walk_at"v";symm;exact q _ (by assumption)
theorem wR (T:TX)(m:Int):ME 1 a.bz "goes" (eB a (.shrink m)):=by
 refine ay 0 T.fu T.yx bB ?_ ?_;ac_nf
 . obtain⟨x, z, rfl, ⟨dx, hx⟩, q⟩ := h
   change H x=some (.ins a.bz dx (av "many" (.int m) [])) at hx
   walk_at"h";have nd:=bB.nd;walk_at"v";symm;exact q _ (by assumption)
theorem yC (T:TX)(b o t:Int):ME 1 a.cH "height" (c9 a (.add b o t)):=by
 refine ay 0 T.ju T.A3 bc ?_ ?_;ac_nf
 . obtain⟨x, z, rfl, ⟨dx, hx⟩, q⟩ := h
   change H x=some (.ins a.cH dx (av "other" (.int t) (av "one" (.int o) (av "box" (.int b) [])))) at hx
   walk_at"h";have nd:=bc.nd;walk_at"v";walk_at"rds";all_goals (try simp only[Rw.aB] at q);(repeat' split at q) <;> first | exact q | (exfalso;lia)
theorem sV (T:TX)(b t:Int):ME 1 a.bp "height" (c9 a (.branch b t)):=by
 refine ay 0 T.fi T.uI bc ?_ ?_;ac_nf
 . obtain⟨x, z, rfl, ⟨dx, hx⟩, q⟩ := h
   change H x=some (.ins a.bp dx (av "target" (.int t) (av "box" (.int b) []))) at hx
   walk_at"h";have nd:=bc.nd;walk_at"v";walk_at"rds";all_goals (try simp only[Rw.aB] at q);(repeat' split at q) <;> first | exact q | (exfalso;omega)
theorem yT (T:TX)(b n:Int):ME 1 a.cP "height" (c9 a (.set b n)):=by
 refine ay 0 T.jE T.Ai bc ?_ ?_;ac_nf
 . obtain⟨x, z, rfl, ⟨dx, hx⟩, q⟩ := h
   change H x=some (.ins a.cP dx (av "number" (.int n) (av "box" (.int b) []))) at hx
   walk_at"h";have nd:=bc.nd;walk_at"v";walk_at"rds";all_goals (try simp only[Rw.aB] at q);(repeat' split at q) <;> first | exact q | (exfalso;omega)
theorem wx (T:TX)(b o:Int):ME 1 a.bW "height" (c9 a (.copy b o)):=by
 refine ay 0 T.hJ T.yk bc ?_ ?_;ac_nf
 . obtain⟨x, z, rfl, ⟨dx, hx⟩, q⟩ := h
   change H x=some (.ins a.bW dx (av "one" (.int o) (av "box" (.int b) []))) at hx
   walk_at"h";have nd:=bc.nd;walk_at"v";walk_at"rds";all_goals (try simp only[Rw.aB] at q);(repeat' split at q) <;> first | exact q | (exfalso;omega)
theorem vY (T:TX)(t:Int):ME 1 a.b8 "height" (c9 a (.dA t)):=by
 refine ay 0 T.iB T.yE bc ?_ ?_;ac_nf
 . obtain⟨x, z, rfl, ⟨dx, hx⟩, q⟩ := h
   change H x=some (.ins a.b8 dx (av "target" (.int t) [])) at hx
   walk_at"h";have nd:=bc.nd;walk_at"v";walk_at"rds";all_goals (try simp only[Rw.aB] at q);(repeat' split at q) <;> first | exact q | (exfalso;lia)
theorem vO (T:TX)(t:Int):ME 1 a.aV "height" (c9 a (.call t)):=by
 refine ay 0 T.iw T.yA bc ?_ ?_;ac_nf
 . obtain⟨x, z, rfl, ⟨dx, hx⟩, q⟩ := h
   change H x=some (.ins a.aV dx (av "target" (.int t) [])) at hx
   walk_at"h";have nd:=bc.nd;walk_at"v";walk_at"rds";all_goals (try simp only[Rw.aB] at q);(repeat' split at q) <;> first | exact q | (exfalso;omega)
theorem w4 (T:TX)(b:Int):ME 1 a.a8 "height" (c9 a (.back b)):=by
 refine ay 0 T.iz T.yI bc ?_ ?_;ac_nf
 . obtain⟨x, z, rfl, ⟨dx, hx⟩, q⟩ := h
   change H x=some (.ins a.a8 dx (av "box" (.int b) [])) at hx
   walk_at"h";have nd:=bc.nd;walk_at"v";walk_at"rds";all_goals (try simp only[Rw.aB] at q);(repeat' split at q) <;> first | exact q | (exfalso;lia)
theorem wH (T:TX)(b:Int):ME 1 a.a9 "height" (c9 a (.drop b)):=by
 refine ay 0 T.gc T.yz bc ?_ ?_;ac_nf
 . obtain⟨x, z, rfl, ⟨dx, hx⟩, q⟩ := h
   change H x=some (.ins a.a9 dx (av "box" (.int b) [])) at hx
   walk_at"h";have nd:=bc.nd;walk_at"v";walk_at"rds";all_goals (try simp only[Rw.aB] at q);(repeat' split at q) <;> first | exact q | (exfalso;lia)
theorem uQ (T:TX)(b t:Int):ME 1 a.bp "keeps" (dF a (.branch b t)):=by
 refine ay 0 T.fi T.wZ cD ?_ ?_;ac_nf
 . obtain⟨x, s, z, rfl, ⟨dx, hx⟩, hk, z0, z1, hs, q⟩ := h
   change H x=some (.ins a.bp dx (av "target" (.int t) (av "box" (.int b) []))) at hx
   obtain⟨⟨k1,k2⟩,⟨k3,k4⟩⟩:=hk;walk_at"h";have nd:=cD.nd;walk_at"v";symm;exact q
theorem yN (T:TX)(t:Int):ME 1 a.b8 "keeps" (dF a (.dA t)):=by
 refine ay 0 T.iB T.A_ cD ?_ ?_;ac_nf
 . obtain⟨x, s, z, rfl, ⟨dx, hx⟩, hk, z0, z1, hs, q⟩ := h
   change H x=some (.ins a.b8 dx (av "target" (.int t) [])) at hx
   obtain⟨k1,k2⟩:=hk;walk_at"h";have nd:=cD.nd;walk_at"v";symm;exact q
theorem yo (T:TX)(m:Int):ME 1 a.b9 "keeps" (dF a (.grow m)):=by
 refine ay 0 T.ic T.AZ cD ?_ ?_;ac_nf
 . obtain⟨x, s, z, rfl, ⟨dx, hx⟩, hk, z0, z1, hs, q⟩ := h
   change H x=some (.ins a.b9 dx (av "many" (.int m) [])) at hx
   obtain⟨k1,k2⟩:=hk;walk_at"h";have nd:=cD.nd;walk_at"v";symm;exact q
theorem yD (T:TX)(b:Int):ME 1 a.a8 "keeps" (dF a (.back b)):=by
 refine ay 0 T.iz T.zu cD ?_ ?_;ac_nf
 . obtain⟨x, s, z, rfl, ⟨dx, hx⟩, hk, z0, z1, hs, q⟩ := h
   change H x=some (.ins a.a8 dx (av "box" (.int b) [])) at hx
   obtain⟨k1,k2⟩:=hk;walk_at"h";have nd:=cD.nd;walk_at"v";symm;exact q
theorem yM (T:TX)(b:Int):ME 1 a.a9 "keeps" (dF a (.drop b)):=by
 refine ay 0 T.gc T.zP cD ?_ ?_;ac_nf
 . obtain⟨x, s, z, rfl, ⟨dx, hx⟩, hk, z0, z1, hs, q⟩ := h
   change H x=some (.ins a.a9 dx (av "box" (.int b) [])) at hx
   obtain⟨k1,k2⟩:=hk;walk_at"h";have nd:=cD.nd;walk_at"v";symm;exact q
theorem mz (T:TX)(m:Int):ME 1 a.b9 "height" (c9 a (.grow m)):=by
 refine ay 0 T.ic T.yH lP ?_ ?_;ac_nf
 . obtain⟨x, z, rfl, ⟨dx, hx⟩, q⟩ := h
   change H x=some (.ins a.b9 dx (av "many" (.int m) [])) at hx
   walk_at"h";have nd:=lP.nd;walk_at"v";walk_at"rds";all_goals (try simp only[Rw.aB] at q);(repeat' split at q) <;> first | exact q | (exfalso;lia)
theorem j6 (T:TX)(m:Int):ME 1 a.bz "height" (c9 a (.shrink m)):=by
 refine ay 0 T.fu T.uP jW ?_ ?_;ac_nf
 . obtain⟨x, z, rfl, ⟨dx, hx⟩, q⟩ := h
   change H x=some (.ins a.bz dx (av "many" (.int m) [])) at hx
   walk_at"h";have nd:=jW.nd;walk_at"v";walk_at"rds";all_goals (try simp only[Rw.aB] at q);(repeat' split at q) <;> first | exact q | (exfalso;lia)
theorem nR (T:TX)(b c:Int):ME 1 a.cQ "height" (c9 a (.put b c)):=by
 refine ay 0 T.jD T.AB dZ ?_ ?_;ac_nf
 . obtain⟨x, z, rfl, ⟨dx, hx⟩, q⟩ := h
   change H x=some (.ins a.cQ dx (av "cell" (.int c) (av "box" (.int b) []))) at hx
   walk_at"h";have nd:=dZ.nd;walk_at"v";walk_at"rds";all_goals (try simp only[Rw.aB] at q);(repeat' split at q) <;> first | exact q | (exfalso;lia)
theorem nE (T:TX)(b c:Int):ME 1 a.cO "height" (c9 a (.get b c)):=by
 refine ay 0 T.jT T.Aq dZ ?_ ?_;ac_nf
 . obtain⟨x, z, rfl, ⟨dx, hx⟩, q⟩ := h
   change H x=some (.ins a.cO dx (av "cell" (.int c) (av "box" (.int b) []))) at hx
   walk_at"h";have nd:=dZ.nd;walk_at"v";walk_at"rds";all_goals (try simp only[Rw.aB] at q);(repeat' split at q) <;> first | exact q | (exfalso;lia)
theorem F5 (T:TX):KE 1 "Table" a.bZ (yW K a.bZ)/\QQ P w K mg base bJ 1 "Table" a.bZ (yW K a.bZ):=by
 refine LH 0 T.KW T.L0 oo ?_ ?_;ac_nf
 . obtain⟨x, dx, pe, lv, xs, kvs, rfl, hx, hS, hd, q⟩ := h;walk_at"h";have nd:=oo.nd;refine' aR ?_ ?_;walk_at"tS";walk_at"m";exact(wC (K:=K) rfl (pv 0) (sJ (dS xc (pv 2) jq (dI _)) zj (iK DI rfl T.OH M9 (ah (pv 2) ax))));walk_at"s";rcases hd with ⟨rfl,rfl⟩ | ⟨pd,rfl,hd⟩
   . symm;rename_i l hl d hd;have nx:=bq hd;have nl:=bq nx.1;refine q l d _ hl nl.1 nl.2.symm (λb o e ne=>?_) aa ?_ ?_
     . rw[ai ne,ai (af (show upd (upd H l (.lst xs)) x _ b=some o from by rw[ai ne,ai (af e hl)];exact e) hd),ai ne,ai (af e hl)];exact e
     . rw[ai (af hx hl).symm,ai nl.2.symm,ai (af hx hl).symm,aa]
     . rw[ai nx.2,aa]
   . have npx : pd ≠ x := Kx hd hx (by intro z; cases z);symm;rename_i l hl d WI;have nx:=bq WI;have nl:=bq nx.1;refine q l d _ hl nl.1 nl.2.symm (λb o e ne=>?_) aa ?_ ?_
     . rw[ai ne,ai (af (show upd (upd H l (.lst xs)) x _ b=some o from by rw[ai ne,ai (af e hl)];exact e) WI),ai ne,ai (af e hl)];exact e
     . rw[ai (af hx hl).symm,ai nl.2.symm,ai (af hx hl).symm,aa]
     . rw[ai nx.2,aa]
theorem AG (T:TX):KE 1 "Table" a.bZ (yW K a.bZ):=(F5 T).1
theorem gT (T:TX):FE 1 "sets_of" (Oj K):=by
 refine a_ 0 T.Ei vE ?_ ?_;ac_nf
 . obtain⟨p, e, rfl, ⟨pk, h1, h2⟩, q⟩ := h;walk_at"h";have nd:=vE.nd;walk_at"v";symm;exact q _ (by assumption)
theorem vC (T:TX):FE 1 "lowest_place" Kl:=by
 refine a_ 0 T.ui kF ?_ ?_;ac_nf
 . obtain⟨i, rfl, q⟩ := h;walk_at"h";have nd:=kF.nd;refine' fE ?_;exact(iO (cF jQ (wM (K:=K) rfl PySem.F.plainAttrs_int PySem.F.slot_int_bit_length PySem.F.type_int_bit_length Fy (cF vo (pv 0) (J_ EY (pv 0)))) aL));walk_at"s";symm;exact q
theorem zJ (T:TX)(t:Int):ME 1 a.b8 "runs" (ez K a (.dA t)):=by
 refine ay 0 T.iB T.BQ qg ?_ ?_;ac_nf
 . obtain⟨x, bo, pi, z, bs, pl, rfl, ⟨dx, hx⟩, hk, hb, h8, hv, hp, SS, q⟩ := h
   change H x=some (.ins a.b8 dx (av "target" (.int t) [])) at hx
   obtain⟨k1,k2⟩:=hk;walk_at"h";have nd:=qg.nd;walk_at"v";symm;exact fm (by assumption) (by assumption) (by assumption) q
theorem Bd (T:TX)(t:Int):ME 1 a.b8 "goes" (eB a (.dA t)):=by
 refine ay 0 T.iB T.BI o8 ?_ ?_;ac_nf
 . obtain⟨x, z, rfl, ⟨dx, hx⟩, q⟩ := h
   change H x=some (.ins a.b8 dx (av "target" (.int t) [])) at hx
   walk_at"h";have nd:=o8.nd;walk_at"v";symm;exact q _ (by assumption)
theorem vL (T:TX)(b t:Int):ME 1 a.bp "runs" (ez K a (.branch b t)):=by
 refine ay 0 T.fi T.yK mG ?_ ?_;ac_nf
 . obtain⟨x, bo, pi, z, bs, pl, rfl, ⟨dx, hx⟩, hk, hb, h8, hv, hp, SS, q⟩ := h
   change H x=some (.ins a.bp dx (av "target" (.int t) (av "box" (.int b) []))) at hx
   obtain⟨⟨k1,k2⟩,⟨k3,k4⟩⟩:=hk;walk_at"h";have nd:=mG.nd;walk_at"v";symm;have q:h_ H Q (some (if gI bs b=0 then z+1 else t,bs,pl)):=q;refine ky (λhh=>?_) (λhh=>?_)
   all_goals
     symm;first | rw[if_pos hh] at q | rw[if_neg hh] at q
     exact fm (by assumption) (by assumption) (by assumption) q
theorem vN (T:TX)(b t:Int):ME 1 a.bp "goes" (eB a (.branch b t)):=by
 refine ay 0 T.fi T.yt mC ?_ ?_;ac_nf
 . obtain⟨x, z, rfl, ⟨dx, hx⟩, q⟩ := h
   change H x=some (.ins a.bp dx (av "target" (.int t) (av "box" (.int b) []))) at hx
   walk_at"h";have nd:=mC.nd;walk_at"v";symm;exact q _ (by assumption)
theorem Bl (T:TX)(b:Int):ME 1 a.a8 "runs" (ez K a (.back b)):=by
 refine ay 0 T.iz T.CI pH ?_ ?_;ac_nf
 . obtain⟨x, bo, pi, z, bs, pl, rfl, ⟨dx, hx⟩, hk, hb, h8, hv, hp, SS, q⟩ := h
   change H x=some (.ins a.a8 dx (av "box" (.int b) [])) at hx
   obtain⟨k1,k2⟩:=hk;walk_at"h";have nd:=pH.nd;walk_at"v";symm;exact fm (by assumption) (by assumption) (by assumption) q
theorem AA (T:TX)(b:Int):ME 1 a.a8 "goes" (eB a (.back b)):=by
 refine ay 0 T.iz T.BU pU ?_ ?_;ac_nf
 . obtain⟨x, z, rfl, ⟨dx, hx⟩, q⟩ := h
   change H x=some (.ins a.a8 dx (av "box" (.int b) [])) at hx
   walk_at"h";have nd:=pU.nd;walk_at"v";symm;exact q _ (by assumption)
theorem A4 (T:TX)(b:Int):ME 1 a.a9 "runs" (ez K a (.drop b)):=by
 refine ay 0 T.gc T.BO qa ?_ ?_;ac_nf
 . obtain⟨x, bo, pi, z, bs, pl, rfl, ⟨dx, hx⟩, hk, hb, h8, hv, hp, SS, q⟩ := h
   change H x=some (.ins a.a9 dx (av "box" (.int b) [])) at hx
   obtain⟨k1,k2⟩:=hk;walk_at"h";have nd:=qa.nd;walk_at"v";symm;exact q H (ak.refl _)
theorem A0 (T:TX)(b:Int):ME 1 a.a9 "goes" (eB a (.drop b)):=by
 refine ay 0 T.gc T.B3 pJ ?_ ?_;ac_nf
 . obtain⟨x, z, rfl, ⟨dx, hx⟩, q⟩ := h
   change H x=some (.ins a.a9 dx (av "box" (.int b) [])) at hx
   walk_at"h";have nd:=pJ.nd;walk_at"v";symm;exact q _ (by assumption)
theorem Em (T:TX):FE 1 "kept_of" (zR K):=by
 refine a_ 0 T.Dy ud ?_ ?_;ac_nf
 . obtain⟨p, bs, rfl, hS, h8, q⟩ := h;walk_at"h";have nd:=ud.nd;walk_at"v";symm;exact q _ (by assumption)
theorem cT (T:TX):ME 1 a.aw "word_ahead_of" (Rp a):=by
 refine ay 0 T.cb T.kq fv ?_ ?_;ac_nf
 . obtain⟨m, dx, fs, aU, n, rfl, hm, hf, q⟩ := h;unfold aE at q;walk_at"h";have nd:=fv.nd;refine' aR ?_ ?_;walk_at"tS";walk_at"m";exact(iO (sJ (Ip yU EA aL (pv 1) (cN (K:=K) rfl (pv 0))) gK gK));walk_at"s";walk_at"rds";all_goals (repeat' split at q) <;> first | exact q | (exfalso;lia)
theorem eQ (T:TX):ME 1 a.aw "at" (DP a "coming"):=by
 refine ay 0 T.cb T.Bp nB ?_ ?_;ac_nf
 . obtain⟨m, dx, fs, v, rfl, hm, hf, q⟩ := h;walk_at"h";have nd:=nB.nd;walk_at"v";symm;exact q
theorem fV (T:TX):ME 1 a.aw "boxes" (GX a "held"):=by
 refine ay 0 T.cb T.vf jx ?_ ?_;ac_nf
 . obtain⟨m, dx, p, fs, xs, rfl, hm, hf, hp, q⟩ := h;walk_at"h";have nd:=jx.nd;walk_at"v";symm;exact q _ (by assumption)
theorem kz (T:TX):ME 1 a.aw "pile" (GX a "cells"):=by
 refine ay 0 T.cb T.wV kJ ?_ ?_;ac_nf
 . obtain⟨m, dx, p, fs, xs, rfl, hm, hf, hp, q⟩ := h;walk_at"h";have nd:=kJ.nd;walk_at"v";symm;exact q _ (by assumption)
theorem dU (T:TX):ME 1 a.aw "word" (DP a "state"):=by
 refine ay 0 T.cb T.wQ kQ ?_ ?_;ac_nf
 . obtain⟨m, dx, fs, v, rfl, hm, hf, q⟩ := h;walk_at"h";have nd:=kQ.nd;walk_at"v";symm;exact q
theorem sP (T:TX):ME 1 a.aw "fault" (DP a "dropped"):=by
 refine ay 0 T.cb T.vD jP ?_ ?_;ac_nf
 . obtain⟨m, dx, fs, v, rfl, hm, hf, q⟩ := h;walk_at"h";have nd:=jP.nd;walk_at"v";symm;exact q
theorem i_ (T:TX):ME 1 a.aw "forget" (Hv a):=by
 refine ay 0 T.cb T.tf fL ?_ ?_;ac_nf
 . obtain ⟨m, dx, pk, fs, k, xs, rfl, hm, hf, hk, k0, hl, q⟩ := h;have ne:m≠pk:=λz=>by rw [z,hk] at hm;cases hm
   walk_at"h";have nd:=fL.nd;refine' aR ?_ ?_;exact(c8 (i:=2) fL.nd rfl (Or.inl rfl) (cJ (yd rfl) rfl T.JY JE (ah aL (ah (cF jQ (cJ (eG (K:=K) rfl) rfl T.jb je (ah (cN (K:=K) rfl (pv 0)) ax)) (pv 1)) ax))));walk_at"m"
   (with_reducible refine' j8 ?_ ?_ ?_)
   exact acA;walk_at"tT";walk_at"m";exact(gi (wM (K:=K) rfl abA PySem.F.slot_list_pop PySem.F.type_list_pop Hi (cN (K:=K) rfl (pv 0))));walk_at"s";symm;have hL:(if (xs.length:Int) - k > 0 then (xs.length:Int) - k else 0)=((xs.length - k.toNat:Nat):Int):=by split <;> omega
   rw[hL];refine⟨λw Z H2=>xs.length - k.toNat<=w/\w<=xs.length/\Z = [some (V.ref m),some (V.int k),some (V.int ((xs.length - k.toNat:Nat):Int))]/\H2 pk=some (.lst (xs.take w))/\∀ b,b≠pk->H2 b=H b,⟨xs.length,by omega,aah _,rfl,by rw[aaU];exact hk,λb _=>rfl⟩,?_⟩;rintro j Z H2 ⟨j0,j1,rfl,TQ,hb⟩;have W4:H2 m=some (.ins a.aw dx fs):=by rw[hb m ne];exact hm
   have lj:(xs.take j).length=j:=by rw[aaz];omega
   symm;rw[lj];refine cW (λhh=>?_) (λhh=>?_)
   . refine ⟨_,λZ' H' h=>h,?_⟩;have hj:j - 1<xs.length:=by omega
     have ej:xs.take j=xs.take (j - 1)++[xs[j - 1]]:=by
       have:=List.take_append_getElem hj
       rw[this]
       congr 1;omega
     symm;refine J8 (by rw[<- ej];exact TQ) ?_;symm;exact⟨j - 1,by omega,by omega,by omega,rfl,aa,λb hb'=>by rw[ai hb'];exact hb b hb'⟩
   . have ej : j = xs.length - k.toNat := by omega
     subst ej;symm;exact q H2 TQ hb
theorem G0 (T:TX):FE 1 "is_row" (LQ K):=by
 refine a_ 0 T.Fo yb ?_ ?_;ac_nf
 . obtain ⟨n, p, us, rfl, hp, q⟩ := h;walk_at "h";have nd:=yb.nd;refine' fE ?_;exact (iO (Hm yU EA aL (pv 0) (cJ (eG (K:=K) rfl) rfl T.jb je (ah (pv 1) ax))));walk_at "s";symm;refine cW (λhh=>?_) (λhh=>?_)
   . symm;refine(?_:Q (V.bl _) _);rw[show decide (n<(us.length:Int))=decide (0<=n/\n<(us.length:Int)) from by rw[decide_eq_decide];exact⟨λz=>⟨hh,z⟩,λz=>z.2⟩];exact q
   . rw[decide_eq_false (λz : 0<=n/\n<(us.length:Int)=>hh z.1)] at q;symm;exact q
theorem zY (T:TX):FE 1 "each_once" (Ny K):=by
 refine a_ 0 T.zr oP ?_ ?_;ac_nf
 . obtain ⟨p, ns, rfl, hp, hn, q⟩ := h;walk_at "h";have nd:=oP.nd;walk_at "v";symm;rename_i l nl;refine ff (K:=K) (a:=p) (xs:=ns.map V.int) (λi Z H1=>(∃ u,Z = [some (.ref p),some (.ref l),u])/\ak H H1/\H1 l=some (.lst ((once (ns.take i)).map V.int))/\(once (ns.take i)).length<=i) ⟨⟨_,rfl⟩,ae nl,aa,aah _⟩ (λi Z H1 _ ⟨_,s1,_⟩=>ak.seq s1 hp) ?_ ?_
   . rintro i x Z H1 hx ⟨⟨u,rfl⟩,s1,hl,SO⟩;obtain⟨n,hn1,rfl⟩:∃ n,ns[i]? = some n/\x=.int n:=by
       rw[aag] at hx;obtain⟨p,hp,e⟩:=Option.map_eq_some_iff.mp hx;exact⟨p,hp,e.symm⟩
     have hi:i<ns.length:=(List.getElem?_eq_some_iff.mp hn1).1;have en:once (ns.take (i+1))=if n∈once (ns.take i) then once (ns.take i) else once (ns.take i)++[n]:=by
       unfold once;rw[abz,hn1,abq,List.foldl_append];rfl
     rw[en];generalize once (ns.take i)=os at hl SO ⊢;symm;refine Kp (aq.of hl) rfl (Hh _) ?_;rw[if_pos rfl,IU];by_cases hm:n∈os
     . rw[decide_eq_true hm,if_pos hm];symm;exact⟨⟨_,rfl⟩,s1,hl,by lia⟩
     . rw[decide_eq_false hm,if_neg hm];symm;exact⟨⟨_,rfl⟩,by walk_at"same",by rw[aaF];exact aa,by rw[aab];show os.length+1<=i+1;lia⟩
   . rintro Z H1 ⟨⟨u,rfl⟩,s1,hl,SO⟩;rw[aac,aaU] at hl;symm;exact q l H1 s1 hl
theorem sN (T:TX):iR P w K mg base (eV P w) 1 "reach" (CZ a):=by
 refine Al 0 T.Jp Bw ?_ ?_;ac_nf
 . obtain ⟨lh, lw, n, Uy, hs, ws, rfl, W7, hlw, h1, h2, n1, n2, Vv, qb, qs, qn⟩ := h;walk_at "h";have nd:=Bw.nd;refine' aR ?_ ?_;walk_at "f";walk_at "y";walk_at "tT";walk_at "m";exact (mU T.iS rfl (ah (qI (pv 2)) ax));exact cB;walk_at "m";walk_at "f";walk_at "y";walk_at "tT";walk_at "n";walk_at "x";walk_at "tS";walk_at "m";walk_at "x";walk_at "tS";walk_at "m";walk_at "f";walk_at "y";walk_at "tT";walk_at "m";exact (mU T.iS rfl (ah (qI (pv 2)) ax));exact cB;walk_at "s";ac_rfl;refine cW (λhh=>?_) (λhh=>?_)
   . ac_rfl;refine jm ?_;ac_rfl
     try refine oY ?_
     ac_rfl;exact⟨m9 n1 n2,by show 1<=1000;decide,qb (.inl hh)⟩
   . ac_rfl;refine fj (aq.of W7) ?_;rw [aac];ac_rfl;refine cW (λW9=>?_) (λW9=>?_)
     . ac_rfl;refine jm ?_;ac_rfl
       try refine oY ?_
       ac_rfl;exact⟨m9 n1 n2,by show 1<=1000;decide,qb (.inr (.inl W9))⟩
     . obtain ⟨k, rfl⟩ : ∃ k : Nat, n = (k : Int) := ⟨n.toNat, by lia⟩
       rw[aaE] at qb qs qn;have hk:k<hs.length:=by lia
       have hs1:hs[k]? = some hs[k]:=aaa hk;have Tx:b_ (hs.map bI) (k:Int)=some (bI hs[k]):=bw (by rw[aag,hs1];rfl);generalize hs[k]=o at hs1 Tx;rw[hs1] at qb qs qn;cases o with
       | none =>
         have Tx:b_ (hs.map bI) (k:Int)=some .aA:=Tx;ac_rfl;refine uY W7 (j:=k) (by rw[aac];exact Ek hk) ?_;ac_rfl;have e1:(hs.map bI).set k (.int Uy)=(hs.set k (some Uy)).map bI:=qu bI hs k (some Uy);have e2:ws.map nV++[V.int (k:Int)]=(ws++[k]).map nV:=by rw[aaF];rfl
         rw[e1,e2];exact qn (by lia) rfl
       | some h0 =>
         have Tx:b_ (hs.map bI) (k:Int)=some (.int h0):=Tx;ac_rfl;refine gQ (λhh3=>?_) (λhh3=>?_)
         . ac_rfl;refine jm ?_;ac_rfl
           try refine oY ?_
           ac_rfl;exact⟨m9 n1 n2,by show 1<=1000;decide,qb (.inr (.inr ⟨h0,rfl,hh3⟩))⟩
         . ac_rfl;exact qs (by lia) (by rw[show h0=Uy from by simpa using hh3])
theorem Gi (T:TX):FE 1 "narrow" zD:=by
 refine a_ 0 T.G6 xu ?_ ?_;ac_nf
 . obtain ⟨lsx, dc, n, p, ss, ks, o, rfl, hl, hd, h1, h2, Us, ho, q1, q2⟩ := h;have Tx:b_ (ss.map cw) (n:Int)=some (cw o):=bw (by rw [aag,ho];rfl);have hn:n<ss.length:=(List.getElem?_eq_some_iff.mp ho).1;have Ui:lsx≠dc:=λz=>by rw [z,hd] at hl;cases hl
   walk_at"h";have nd:=xu.nd;refine' aR ?_ ?_;walk_at"tS";walk_at"m";walk_at"f";walk_at"tT";walk_at"c";walk_at"m";exact(wN (iC hr) (pv 1) (pv 2) Kz rfl);exact cB;walk_at"s";have S0:∀ x:Nat,(upd (upd H lsx (.lst ((ss.map cw).set n (.int (x:Int))))) dc (.dK (putK (bL ks) (.inl (n:Int)) (.bl true))))=upd (upd H lsx (.lst ((ss.set n (some x)).map cw))) dc (.dK (bL (jU ks n))):=λx=>by
     rw[ID,<- qu cw ss n (some x)];rfl
   cases o with
   | none =>
     have Tx:b_ (ss.map cw) (n:Int)=some .aA:=Tx;ac_rfl
     with_reducible refine(?_ : @ite Prop (_=true) (instDecidableEqBool _ _) _ _)
     rw[if_pos (by rw[decide_eq_false (λz=>by cases z)];rfl)];ac_rfl;refine uY hl (j:=n) (by rw[aac];exact Ek hn) ?_;ac_rfl;refine jj (kvs:=bL ks) (by rw[ai Ui.symm];exact hd) (by unfold bL;rw[aac,aaI];lia) ?_;rw[S0];exact q2 (λz=>by cases z)
   | some s0 =>
     have Tx:b_ (ss.map cw) (n:Int)=some (.int (s0:Int)):=Tx;ac_rfl;rw[nv]
     with_reducible refine(?_ : @ite Prop (_=true) (instDecidableEqBool _ _) _ _)
     by_cases e:s0 &&& p=s0
     . rw[if_neg (by rw[e, decide_eq_true rfl]; decide)];ac_rfl;exact q1 (by show some s0=some (s0 &&& p);rw[e])
     . rw[if_pos (by rw[decide_eq_false (λz => e (by have := V.int.inj z; lia))]; rfl)];ac_rfl;refine uY hl (j:=n) (by rw[aac];exact Ek hn) ?_;ac_rfl;refine jj (kvs:=bL ks) (by rw[ai Ui.symm];exact hd) (by unfold bL;rw[aac,aaI];lia) ?_;rw[S0];exact q2 (λz=>e (by have:=aaw z;exact this.symm))
theorem hV (T:TX):FE 1 "_law_cell_at" (ix K):=by
 refine a_ 0 T.xh lU ?_ ?_;ac_nf
 . obtain ⟨p, ns, k, rfl, hS, h0, q⟩ := h;walk_at "h";have nd:=lU.nd;walk_at "v";symm;refine cW (λhh=>?_) (λhh=>?_)
   . symm;exact q
   . symm;have e:=Et h0 hh;rw[e] at q;exact q
theorem Bh (T:TX):FE 1 "_law_value" Jt:=by
 refine a_ 0 T.zK pT ?_ ?_;ac_nf
 . obtain ⟨c, rfl, q⟩ := h;walk_at "h";have nd:=pT.nd;walk_at "v";symm;rcases (show c%3=0∨c%3=1∨c%3=2 by lia) with z | z | z <;> rw [z]
   . refine cy (aq.of aa) (v:=.int 4294967296) rfl ?_;symm;rename_i l n;exact q _ _ (ae n) ⟨by lia,by lia⟩
   . refine cy (aq.of aa) (v:=.int 1) rfl ?_;symm;rename_i l n;exact q _ _ (ae n) ⟨by lia,by lia⟩
   . refine cy (aq.of aa) (v:=.int 3) rfl ?_;symm;rename_i l n;exact q _ _ (ae n) ⟨by lia,by lia⟩
theorem BL (T:TX):FE 1 "_law_body" (MT K):=by
 refine a_ 0 T.Cf kX ?_ ?_;ac_nf
 . obtain ⟨lc, ls, cs, ss, sp, at_, rfl, hlc, TF, S6, V3, VN, sp0, sp1, gm, r9, q⟩ := h;walk_at "h";have nd:=kX.nd;refine' aR ?_ ?_;walk_at "tS";walk_at "n";walk_at "g";walk_at "tI";walk_at "tG";walk_at "c";walk_at "c";walk_at "n";exact (fw (i:=8) kX.nd rfl rfl (own:=["_law_one"]) (fr:=[]) rfl ⟨rfl,(by walk_at "clok"),(by walk_at "frok"),rfl,(by nofun),(by nofun),rfl⟩ (dR (K:=K) rfl (pv 1)) (λ_ _ _ _=>(bO (i:=0) (show aa6 [("_law_one" : Str)] from by nofun) rfl (Or.inl rfl))) (λ_ _ _ _=>(wF (dS (mE (K:=K) rfl hr.units) (pv 0) aL (dI _)))) (λ_ _ _ _=>(pv 0)));walk_at "m";walk_at "f";exact (PW.pt (oG (dS (uA (K:=K) rfl hr.units) (pv 6) aL (dI _)) (qE (dS (CV (K:=K) rfl hr.units) (pv 8) (mI ax) (dI _)))));walk_at "tB";walk_at "tB";exact λ_=>rfl;walk_at "m";walk_at "tS";walk_at "s";symm;rename_i lr Uh;refine ff (K:=K) (a:=lc) (xs:=cs.map V.int) (λi Z HD=>∃ (us:List V) (v5 v6 v7 v8:Option V),Z = [some (.ref lc),some (.ref ls),some (.int sp),some (.int at_),some (.ref lr),v5,v6,v7,v8]/\ak H HD/\HD lr=some (.lst us)/\us.length<=2*i/\aZ fM HD us) ⟨[],_,_,_,_,rfl,ae Uh,aa,aah _,aZ.nil⟩ (λi Z HD _ ⟨_,_,_,_,_,_,s,_⟩=>aT s hlc) ?_ ?_
   . rintro i x Z HD hx ⟨us,v5,v6,v7,v8,rfl,sD,VA,Vo,To⟩;obtain⟨c,hc,rfl⟩:∃ c:Int,cs[i]? = some c/\x=.int c:=by
       rw[aag] at hx;obtain⟨c,h1,e⟩:=Option.map_eq_some_iff.mp hx;exact⟨c,h1,e.symm⟩
     have hi:=(List.getElem?_eq_some_iff.mp hc).1;have hlsD:=aT sD S6;clear hx hc;symm;refine gf (K:=K) (a:=ls) (xs:=ss.map V.int) (λi ys Z H2=>(∃ v,Z = [v])/\H2=HD/\∃ zs:List Int,ys=zs.map V.int/\zs.length<=i/\∀ z∈zs,0<=z/\z<=7) ⟨⟨_,rfl⟩,rfl,[],rfl,aah _,(λ_ z=>by cases z)⟩ (λi ys Z H2 hi ⟨_,e,zs,e1,e2,_⟩=>⟨by rw[e];exact hlsD,by rw[e1,aac,aaI];rw[aac] at hi;lia⟩) ?_ ?_
     . rintro j u ys Z H2 hu ⟨⟨v,rfl⟩,rfl,zs,rfl,hz,hzb⟩;obtain⟨z,hz1,rfl⟩:∃ c:Int,ss[j]? = some c/\u=.int c:=by
         rw[aag] at hu;obtain⟨c,h1,e⟩:=Option.map_eq_some_iff.mp hu;exact⟨c,h1,e.symm⟩
       have hz2:=VN z (aaj hz1);symm;refine gQ (λhh=>?_) (λhh=>?_)
       . symm
         exact⟨⟨_, rfl⟩, rfl, zs ++ [z], by rw[aaF]; rfl, by simp only[aab, aaG]; lia, λy hy => by
           rcases List.mem_append.mp hy with h | h
           . exact hzb y h
           . rw[List.mem_singleton.mp h];exact hz2⟩
       . exact⟨⟨_,rfl⟩,rfl,zs,rfl,Nat.le_succ_of_le hz,hzb⟩
     rintro ys Z H2 ⟨_,rfl,zs,rfl,hz,hzb⟩;intro lk nlk;rw[aac] at hz;have S0:∀ (us:List V) (HA:Hp),ak H HA->aZ fM HA us->us.length<=2*i+1->∀ (u:V) (r:Rw) (H3:Hp) (w5 w6 w7 w8:Option V),ak HA H3->H3 lr=some (.lst us)->iY H3 u r->fM r->∃ (us2:List V) (v5 v6 v7 v8:Option V),[some (V.ref lc),some (V.ref ls),some (V.int sp),some (V.int at_),some (V.ref lr),w5,w6,w7,w8]=[some (V.ref lc),some (V.ref ls),some (V.int sp),some (V.int at_),some (V.ref lr),v5,v6,v7,v8]/\ak H (upd H3 lr (.lst (us++[u])))/\(upd H3 lr (.lst (us++[u]))) lr=some (.lst us2)/\us2.length<=2*(i+1)/\aZ fM (upd H3 lr (.lst (us++[u]))) us2:=λus HA sA To Vo u r H3 w5 w6 w7 w8 s3 h3 td ok=>⟨us++[u],_,_,_,_,rfl,bK (sA.trans s3) Uh,aa,by rw[aab,aaG];lia,((To.same s3).app (aZ.one td ok)).off h3⟩;rcases(show c%9=0∨c%9=1∨c%9=2∨c%9=3∨c%9=4∨c%9=5∨c%9=6∨c%9=7∨c%9=8 by lia) with hk | hk | hk | hk | hk | hk | hk | hk | hk
     . symm;rw[hk];symm;refine d7 (aq.of aa) rfl rfl ?_;rw[show eF (V.int 0) [V.int 4,V.int 5]=false from by nofun];symm;exact S0 us H2 sD To (by lia) _ (.set (c/9%4) (c/36%4)) _ _ _ _ _ (by walk_at"same") (by walk_at"hlk") ⟨_,rfl,by show _=some (HO.tup [V.str (aae "set"),V.int _,V.int _]);bv_omega⟩ (.inl (by walk_at"A"))
     . symm;rw[hk];symm;refine d7 (aq.of aa) rfl rfl ?_;rw[show eF (V.int 1) [V.int 4,V.int 5]=false from by nofun];symm;exact S0 us H2 sD To (by lia) _ (.copy (c/9%4) (c/36%8)) _ _ _ _ _ (by walk_at"same") (by walk_at"hlk") ⟨_,rfl,by show _=some (HO.tup [V.str (aae "copy"),V.int _,V.int _]);bv_omega⟩ (.inl (by walk_at"A"))
     . symm;rw[hk];symm;refine d7 (aq.of aa) rfl rfl ?_;rw[show eF (V.int 2) [V.int 4,V.int 5]=false from by nofun];symm;exact S0 us H2 sD To (by lia) _ (.set (c/9%4) (c/36%4)) _ _ _ _ _ (by walk_at"same") (by walk_at"hlk") ⟨_,rfl,by show _=some (HO.tup [V.str (aae "set"),V.int _,V.int _]);bv_omega⟩ (.inl (by walk_at"A"))
     . symm;rw[hk];symm;rename_i l9 nl9;by_cases Vm:zs=[]
       . subst Vm;refine C1 (aj aa nl9) aa ?_;symm;refine d7 (aq.of aa) rfl rfl ?_;rw[show eF (V.int 3) [V.int 4,V.int 5]=false from by nofun];symm;exact S0 us H2 sD To (by lia) _ (.add (c/9%4) (c/36%8) (c/9%4)) _ _ _ _ _ (by walk_at"same") (by walk_at"hlk") ⟨_,rfl,by show _=some (HO.tup [V.str (aae "add"),V.int _,V.int _,V.int _]);bv_omega⟩ (.inl (by walk_at"A"))
       . have WT : 0 < zs.length := List.length_pos_iff.mpr Vm;refine Dm (aj aa nl9) aa (by rw[aac];lia) ?_;obtain⟨z,Tx,hzz2⟩:∃ z:Int,b_ (zs.map V.int) (c/36%(zs.length:Int))=some (.int z)/\0<=z/\z<=7:=by
           have z0:=acN (c/36) (show(zs.length:Int)≠0 by lia);have z1:=ace (c/36) (show 0<(zs.length:Int) by lia);obtain⟨j,hj⟩:∃ j:Nat,c/36%(zs.length:Int)=(j:Int):=⟨(c/36%(zs.length:Int)).toNat,by lia⟩
           have SV:j<zs.length:=by lia
           exact⟨zs[j],by rw[hj];exact bw (by rw[aag,aaa SV];rfl),hzb _ (aaV SV)⟩
         have hlz : 0<(zs.length:Int):=by lia
         symm;exact S0 us H2 sD To (by lia) _ (.set (z) (c/108%97)) _ _ _ _ _ (by walk_at"same") (by walk_at"hlk") ⟨_,rfl,by show _=some (HO.tup [V.str (aae "set"),V.int _,V.int _]);bv_omega⟩ (.inl (by walk_at"A"))
     . symm;rw[hk];symm;refine d7 (aq.of aa) rfl rfl ?_;rw[show eF (V.int 4) [V.int 4,V.int 5]=true from by nofun];symm;refine d7 (aT ((ae (by assumption)).trans (ae (by assumption))) hlsD) rfl (List.all_eq_true.mpr (λv hv=>by obtain⟨z,_,rfl⟩:=List.mem_map.mp hv;rfl)) ?_;cases eF (V.int 7) (ss.map V.int) with
       | true =>
         symm;exact S0 us H2 sD To (by lia) _ (.call (-1 - c/36%3)) _ _ _ _ _ (by walk_at"same") (by walk_at"hlk") ⟨_,rfl,by show _=some (HO.tup [V.str (aae "call"),V.int _]);bv_omega⟩ (.inr (.inl ⟨_,rfl⟩))
       | false =>
         symm;exact S0 us H2 sD To (by lia) _ (.set (c/9%4) (c/36%4)) _ _ _ _ _ (by walk_at"same") (by walk_at"hlk") ⟨_,rfl,by show _=some (HO.tup [V.str (aae "set"),V.int _,V.int _]);bv_omega⟩ (.inl (by walk_at"A"))
     . symm;rw[hk];symm;refine d7 (aq.of aa) rfl rfl ?_;rw[show eF (V.int 5) [V.int 4,V.int 5]=true from by nofun];symm;refine d7 (aT ((ae (by assumption)).trans (ae (by assumption))) hlsD) rfl (List.all_eq_true.mpr (λv hv=>by obtain⟨z,_,rfl⟩:=List.mem_map.mp hv;rfl)) ?_;cases eF (V.int 7) (ss.map V.int) with
       | true =>
         symm;exact S0 us H2 sD To (by lia) _ (.call (-1 - c/36%3)) _ _ _ _ _ (by walk_at"same") (by walk_at"hlk") ⟨_,rfl,by show _=some (HO.tup [V.str (aae "call"),V.int _]);bv_omega⟩ (.inr (.inl ⟨_,rfl⟩))
       | false =>
         symm;exact S0 us H2 sD To (by lia) _ (.add (c/9%4) (c/36%8) (c/9%4)) _ _ _ _ _ (by walk_at"same") (by walk_at"hlk") ⟨_,rfl,by show _=some (HO.tup [V.str (aae "add"),V.int _,V.int _,V.int _]);bv_omega⟩ (.inl (by walk_at"A"))
     . symm;rw [hk];symm;refine d7 (aq.of aa) rfl rfl ?_;rw [show eF (V.int 6) [V.int 4,V.int 5]=false from by nofun];symm;refine cW (λhh=>?_) (λhh=>?_)
       . symm;refine xa (ok:=jV) aa (aZ.cons (r:=.put (c/9%4) (sp)) ⟨_,rfl,by show _=some (HO.tup [V.str (aae "put"),V.int _,V.int _]);bv_omega⟩ (by walk_at"A") (aZ.cons (r:=.get (c/9%4) (sp)) ⟨_,rfl,by show _=some (HO.tup [V.str (aae "get"),V.int _,V.int _]);bv_omega⟩ (by walk_at"A") aZ.nil)) (by lia) (by show _<((2:Nat):Int);lia) λu r hu ho=>?_;symm;exact S0 us H2 sD To (by lia) u r _ _ _ _ _ (by walk_at"same") (by walk_at"hlk") hu (.inl ho)
       . symm;exact S0 us H2 sD To (by lia) _ (.set (c/9%4) (c/36%4)) _ _ _ _ _ (by walk_at"same") (by walk_at"hlk") ⟨_,rfl,by show _=some (HO.tup [V.str (aae "set"),V.int _,V.int _]);bv_omega⟩ (.inl (by walk_at"A"))
     . symm;rw [hk];symm;refine d7 (aq.of aa) rfl rfl ?_;rw [show eF (V.int 7) [V.int 4,V.int 5]=false from by nofun];symm;repeat (rename @Eq Bool _ _=>Vm;clear Vm)
       rename_i l45 n45 t0 n0 ta na tb nb ll VL;have sX:ak H2 (upd (upd (upd H2 lk (.lst (zs.map V.int))) l45 (.lst [.int 4,.int 5])) t0 (.tup [.str "branch",.int (c/9%4),.int (at_+us.length+2)])):=((ae nlk).trans (ae n45)).trans (ae n0);exact S0 (us++[.ref t0]) (upd (upd (upd (upd H2 lk (.lst (zs.map V.int))) l45 (.lst [.int 4,.int 5])) t0 (.tup [.str "branch",.int (c/9%4),.int (at_+us.length+2)])) lr (.lst (us++[.ref t0]))) (bK (sD.trans sX) Uh) (((To.same sX).app (aZ.one (r:=.branch (c/9%4) (at_+us.length+2)) ⟨_,rfl,aa⟩ (.inl (by walk_at"A")))).off (sX _ _ VA)) (by rw[aab,aaG];lia) (.ref ta) (.set (c/9%4) 3) (upd (upd (upd (upd (upd (upd (upd H2 lk (.lst (zs.map V.int))) l45 (.lst [.int 4,.int 5])) t0 (.tup [.str "branch",.int (c/9%4),.int (at_+us.length+2)])) lr (.lst (us++[.ref t0]))) ta (.tup [.str "set",.int (c/9%4),.int 3])) tb (.tup [.str "drop",.int (c/9%4)])) ll (.lst [.ref ta,.ref tb])) _ _ _ _ (by exact((ae na).trans (ae nb)).trans (ae VL)) (by exact aj (aj (aj aa na) nb) VL) ⟨_,rfl,by exact aj (aj aa nb) VL⟩ (.inl (by walk_at"A"))
     . symm;rw [hk];symm;refine d7 (aq.of aa) rfl rfl ?_;rw [show eF (V.int 8) [V.int 4,V.int 5]=false from by nofun];symm;repeat (rename @Eq Bool _ _=>Vm;clear Vm)
       rename_i l45 n45 t0 n0 ta na tb nb ll VL;have sX:ak H2 (upd (upd (upd H2 lk (.lst (zs.map V.int))) l45 (.lst [.int 4,.int 5])) t0 (.tup [.str "branch",.int (c/9%4),.int (at_+us.length+2)])):=((ae nlk).trans (ae n45)).trans (ae n0);exact S0 (us++[.ref t0]) (upd (upd (upd (upd H2 lk (.lst (zs.map V.int))) l45 (.lst [.int 4,.int 5])) t0 (.tup [.str "branch",.int (c/9%4),.int (at_+us.length+2)])) lr (.lst (us++[.ref t0]))) (bK (sD.trans sX) Uh) (((To.same sX).app (aZ.one (r:=.branch (c/9%4) (at_+us.length+2)) ⟨_,rfl,aa⟩ (.inl (by walk_at"A")))).off (sX _ _ VA)) (by rw[aab,aaG];lia) (.ref tb) (.drop (c/9%4)) (upd (upd (upd (upd (upd (upd (upd H2 lk (.lst (zs.map V.int))) l45 (.lst [.int 4,.int 5])) t0 (.tup [.str "branch",.int (c/9%4),.int (at_+us.length+2)])) lr (.lst (us++[.ref t0]))) ta (.tup [.str "set",.int (c/9%4),.int 3])) tb (.tup [.str "drop",.int (c/9%4)])) ll (.lst [.ref ta,.ref tb])) _ _ _ _ (by exact((ae na).trans (ae nb)).trans (ae VL)) (by exact aj (aj (aj aa na) nb) VL) ⟨_,rfl,by exact aj aa VL⟩ (.inl (by walk_at"A"))
   . rintro Z HD ⟨us,v5,v6,v7,v8,rfl,sD,VA,Vo,To⟩;rw[aac] at Vo;symm;exact q lr us HD sD VA Vo To
theorem wI (T:TX):FE 1 "_law_any_row" NI:=by
 refine a_ 0 T.vT lL ?_ ?_;ac_nf
 . obtain ⟨c, m, rfl, m1, m2, q⟩ := h;have tm0:=acN (c/104) (show m≠0 by lia);have tm1:=ace (c/104) (show 0<m by lia);walk_at "h";have nd:=lL.nd;walk_at "v";symm;refine cW (λhh=>?_) (λhh=>?_)
   . symm;refine xa (ok:=jV) aa (aZ.cons (r:=.set (c/13%8) (c/104%4294967296)) ⟨_,rfl,by show _=some (HO.tup [V.str (aae "set"),V.int _,V.int _]);bv_omega⟩ (by walk_at"A") (aZ.cons (r:=.copy (c/13%8) (c/104%8)) ⟨_,rfl,by show _=some (HO.tup [V.str (aae "copy"),V.int _,V.int _]);bv_omega⟩ (by walk_at"A") (aZ.cons (r:=.add (c/13%8) (c/104%8) (c/104/8%8)) ⟨_,rfl,by show _=some (HO.tup [V.str (aae "add"),V.int _,V.int _,V.int _]);bv_omega⟩ (by walk_at"A") aZ.nil))) (by lia) (by show _<((3:Nat):Int);lia) λu r hu ho=>?_;exact q u r _ (by walk_at"same") hu ho
   symm;refine cW (λW9=>?_) (λW9=>?_)
   . symm
     with_reducible refine(?_:dk _ _ _ _ _)
     rcases(show c%13 - 3=0∨c%13 - 3=1 by lia) with hx | hx <;> rw[hx]
     . refine cy (aq.of aa) (v:=.str "grow") rfl ?_;symm;exact q _ (.grow (c/104%5)) _ (by walk_at"same") ⟨_,rfl,by show _=some (HO.tup [V.str (aae "grow"),V.int _]);bv_omega⟩ (by walk_at"A")
     . refine cy (aq.of aa) (v:=.str "shrink") rfl ?_;symm;exact q _ (.shrink (c/104%5)) _ (by walk_at"same") ⟨_,rfl,by show _=some (HO.tup [V.str (aae "shrink"),V.int _]);bv_omega⟩ (by walk_at"A")
   symm;refine cW (λhh3=>?_) (λhh3=>?_)
   . symm
     with_reducible refine(?_:dk _ _ _ _ _)
     rcases(show c%13 - 5=0∨c%13 - 5=1∨c%13 - 5=2 by lia) with hx | hx | hx <;> rw[hx]
     . refine cy (aq.of aa) (v:=.str "put") rfl ?_;symm;exact q _ (.put (c/13%8) (c/104%5)) _ (by walk_at"same") ⟨_,rfl,by show _=some (HO.tup [V.str (aae "put"),V.int _,V.int _]);bv_omega⟩ (by walk_at"A")
     . refine cy (aq.of aa) (v:=.str "get") rfl ?_;symm;exact q _ (.get (c/13%8) (c/104%5)) _ (by walk_at"same") ⟨_,rfl,by show _=some (HO.tup [V.str (aae "get"),V.int _,V.int _]);bv_omega⟩ (by walk_at"A")
     . refine cy (aq.of aa) (v:=.str "put") rfl ?_;symm;exact q _ (.put (c/13%8) (c/104%5)) _ (by walk_at"same") ⟨_,rfl,by show _=some (HO.tup [V.str (aae "put"),V.int _,V.int _]);bv_omega⟩ (by walk_at"A")
   symm;refine cW (λhh4=>?_) (λhh4=>?_)
   . symm
     with_reducible refine(?_:dk _ _ _ _ _)
     rcases(show c%13 - 8=0∨c%13 - 8=1 by lia) with hx | hx <;> rw[hx]
     . refine cy (aq.of aa) (v:=.str "jump") rfl ?_;symm;exact q _ (.dA (c/104%m)) _ (by walk_at"same") ⟨_,rfl,by show _=some (HO.tup [V.str (aae "jump"),V.int _]);bv_omega⟩ (by walk_at"A")
     . refine cy (aq.of aa) (v:=.str "call") rfl ?_;symm;exact q _ (.call (c/104%m)) _ (by walk_at"same") ⟨_,rfl,by show _=some (HO.tup [V.str (aae "call"),V.int _]);bv_omega⟩ (by walk_at"A")
   symm;refine ky (λhh5=>?_) (λhh5=>?_)
   . symm;exact q _ (.branch (c/13%8) (c/104%m)) _ (by walk_at"same") ⟨_,rfl,by show _=some (HO.tup [V.str (aae "branch"),V.int _,V.int _]);bv_omega⟩ (by walk_at"A")
   symm
   with_reducible refine(?_:dk _ _ _ _ _)
   rcases(show c%13 - 11=0∨c%13 - 11=1 by lia) with hx | hx <;> rw[hx]
   . refine cy (aq.of aa) (v:=.str "back") rfl ?_;symm;rw [show 12 - c%13=1 by lia,Int.mul_one];rcases (show c/104%2=0∨c/104%2=1 by lia) with hy | hy <;> rw [hy]
     . refine cy (aq.of aa) (v:=.int _) rfl ?_;symm;exact q _ (.back (c/13%8)) _ (by walk_at"same") ⟨_,rfl,by show _=some (HO.tup [V.str (aae "back"),V.int _]);bv_omega⟩ (by walk_at"A")
     . refine cy (aq.of aa) (v:=.int 7) rfl ?_;symm;exact q _ (.back (7)) _ (by walk_at"same") ⟨_,rfl,by show _=some (HO.tup [V.str (aae "back"),V.int _]);bv_omega⟩ (by walk_at"A")
   . refine cy (aq.of aa) (v:=.str "drop") rfl ?_;symm;rw[show 12 - c%13=0 by lia,Int.mul_zero];refine cy (aq.of aa) (v:=.int _) rfl ?_;symm;exact q _ (.drop (c/13%8)) _ (by walk_at"same") ⟨_,rfl,by show _=some (HO.tup [V.str (aae "drop"),V.int _]);bv_omega⟩ (by walk_at"A")
theorem wK (T:TX):FE 1 "_law_landing" y6:=by
 refine a_ 0 T.wa lZ ?_ ?_;ac_nf
 . obtain ⟨p, d, pk, us, ds, ls, rfl, hp, UG, hu, hd, q⟩ := h;have SO:=UG.1;walk_at "h";have nd:=lZ.nd;refine' aR ?_ ?_;walk_at "g";walk_at "tI";walk_at "tG";walk_at "m";walk_at "f";exact (AE (zN (iC hr) (cF jQ (bV (cS (K:=K) rfl) (bV (cS (K:=K) rfl) (pv 0) (pv 2) (λ_ _=>rfl)) aL (λ_ _=>rfl)) aL) (pv 1)));walk_at "tB";exact cB;exact λ_=>rfl;walk_at "m";walk_at "tS";walk_at "s";symm;refine iP (λi Z H2=>(∃ w,Z = [some (.ref p),some (.ref d),w])/\H2=H/\∀ j c,j<i->ds[j]? = some c->kj ls c=false) ⟨⟨_,rfl⟩,rfl,λj c hj=>absurd hj (acb _)⟩ ?_ ?_
   . rintro i Z H2 hi ⟨⟨w,rfl⟩,rfl,Vz⟩;have UU:i<us.length:=by lia
     have hi2:i<ds.length:=by lia
     have hc:ds[i]? = some ds[i]:=aaa hi2;obtain⟨t,q',p',ex,UT,W0,hq3,hq4⟩:=UG.2 i _ _ (aaa UU) hc;have Tx:b_ us (0+(i:Int))=some (.ref t):=by rw[Int.zero_add];exact bw (by rw[aaa UU,ex])
     have VP:ds[i]=ds[i]:=rfl;generalize Tp:ds[i]=c at hc UT W0 hq3 VP;clear W0 hq3 hq4;have inv:kj ls c=false->∀ j c',j<i+1->ds[j]? = some c'->kj ls c'=false:=λhf j c' hj e=>by
       rcases Nat.lt_or_ge j i with z | z
       . exact Vz j c' z e
       . have : j = i := by lia
         subst this;rw[hc] at e;cases e;exact hf
     symm;refine DG ?_;symm;refine Bv hd ?_;cases hv:b3 (au ls) (.inl (c.r - 1)) with
     | none =>
       symm;exact⟨⟨_,rfl⟩,rfl,inv (by unfold kj;rw[hv];rfl)⟩
     | some val =>
       have hfi:ds.findIdx? (kj ls)=some i:=by
         rw[List.findIdx?_eq_some_iff_getElem];refine⟨hi2,?_,λj hj=>?_⟩
         . rw[Tp];unfold kj;rw[hv];rfl
         . have hj' : j < ds.length := by lia
           have:=Vz j ds[j] hj (aaa hj')
           rw[this];exact aan
       rw[show iV ds ls=(i:Int) from by unfold iV;rw[hfi]] at q;rw[adF];symm;rw[Int.zero_add];exact q
   . rintro Z H2 ⟨⟨w,rfl⟩,rfl,Vz⟩;have hfi:ds.findIdx? (kj ls)=none:=by
       rw[List.findIdx?_eq_none_iff];intro x hx;obtain⟨j,hj,e⟩:=abD hx;exact Vz j x (by lia) (by rw[aaa hj,e])
     rw[show iV ds ls = -1 from by unfold iV;rw[hfi]] at q;symm;exact q
theorem xp (r:Rw):r.mV.lookup ("goes" : Str)=none:=by
 cases r <;> (show abv _ (av _ _ _)=none;walk_at"nolk")
theorem lC (r:Rw):r.mV.lookup ("height" : Str)=none:=by
 cases r <;> (show abv _ (av _ _ _)=none;walk_at"nolk")
theorem r_ (T:TX)(hr:r.here):ME 1 (r.cls a) "goes" (eB a r):=by
 cases r
 . exact(B2 T _ _).mono (by decide)
 . exact(Af T _ _).mono (by decide)
 . exact(Cz T _ _ _).mono (by decide)
 . exact hr.elim
 . exact hr.elim
 . exact hr.elim
 . exact(AR T _).mono (by decide)
 . exact(wR T _).mono (by decide)
 . exact(B0 T _ _).mono (by decide)
 . exact(B7 T _ _).mono (by decide)
 . exact(Bd T _).mono (by decide)
 . exact(vN T _ _).mono (by decide)
 . exact(zO T _).mono (by decide)
 . exact(AA T _).mono (by decide)
 . exact(A0 T _).mono (by decide)
theorem iU (T:TX)(hr:r.here):ME 1 (r.cls a) "height" (c9 a r):=by
 cases r
 . exact(yT T _ _).mono (by decide)
 . exact(wx T _ _).mono (by decide)
 . exact(yC T _ _ _).mono (by decide)
 . exact hr.elim
 . exact hr.elim
 . exact hr.elim
 . exact(mz T _).mono (by decide)
 . exact(j6 T _).mono (by decide)
 . exact(nR T _ _).mono (by decide)
 . exact(nE T _ _).mono (by decide)
 . exact(vY T _).mono (by decide)
 . exact(sV T _ _).mono (by decide)
 . exact(vO T _).mono (by decide)
 . exact(w4 T _).mono (by decide)
 . exact(wH T _).mono (by decide)
theorem lG (T:TX)(hr:r.here)(h:bA a H p r):∃ t',bM K H (.ref p) t'/\acj K t' (.ref a.aV)=some r.isCall/\acj K t' (.ref a.a8)=some r.eu:=by
 obtain⟨dx,e⟩:=h;cases r
 . exact⟨_,bM.ins e T.jE T.uG.1 T.eP T.eU T.uG.2,T.lB,T.kW⟩
 . exact⟨_,bM.ins e T.hJ T.qA.1 T.eP T.eU T.qA.2,T.jw,T.j7⟩
 . exact⟨_,bM.ins e T.ju T.vt.1 T.eP T.eU T.vt.2,T.k7,T.lD⟩
 . exact hr.elim
 . exact hr.elim
 . exact hr.elim
 . exact⟨_,bM.ins e T.ic T.qP.1 T.eP T.eU T.qP.2,T.jG,T.jF⟩
 . exact⟨_,bM.ins e T.fu T.ku.1 T.eP T.eU T.ku.2,T.ig,T.ik⟩
 . exact⟨_,bM.ins e T.jD T.t8.1 T.eP T.eU T.t8.2,T.lu,T.kZ⟩
 . exact⟨_,bM.ins e T.jT T.uO.1 T.eP T.eU T.uO.2,T.k9,T.k_⟩
 . exact⟨_,bM.ins e T.iB T.qw.1 T.eP T.eU T.qw.2,T.js,T.jS⟩
 . exact⟨_,bM.ins e T.fi T.kC.1 T.eP T.eU T.kC.2,T.ir,T.hU⟩
 . exact⟨_,bM.ins e T.iw T.qJ.1 T.eP T.eU T.qJ.2,T.jz,T.ke⟩
 . exact⟨_,bM.ins e T.iz T.qB.1 T.eP T.eU T.qB.2,T.jL,T.jY⟩
 . exact⟨_,bM.ins e T.gc T.ji.1 T.eP T.eU T.ji.2,T.jr,T.jt⟩
theorem FN (T:TX):FE 2 "filled" zA:=by
 refine a_ 1 T.FU xy ?_ ?_;ac_nf
 . obtain⟨s, p, t, rfl, q⟩ := h;walk_at"h";have nd:=xy.nd;walk_at"v";symm;rw[nv];unfold fC at q;by_cases e:s &&& t=0
   . rw[if_pos e] at q;rw[e,show(((0:Nat):Int) != 0)=false from rfl];symm;exact q
   . rw[if_neg e] at q;rw[show(((s &&& t:Nat):Int) != 0)=true from by simp[e]];symm;refine(?_:Q (V.int _) _);rw[GJ];exact q
theorem Nn (T:TX):KE 2 "Set" a.cP (mv a.cP Rw.set):=by
 refine eO 1 T.Qc T.Px sr ?_ ?_;ac_nf
 . obtain⟨x, dx, i, j, rfl, ⟨⟨h1, h2⟩, ⟨h3, h4⟩⟩, hx, q⟩ := h;walk_at"h";have nd:=sr.nd;walk_at"v";symm;exact q _ pP aa
theorem Ca (T:TX)(b n:Int):ME 2 a.cP "runs" (ez K a (.set b n)):=by
 refine ay 1 T.jE T.DZ sh ?_ ?_;ac_nf
 . obtain⟨x, bo, pi, z, bs, pl, rfl, ⟨dx, hx⟩, hk, hb, h8, hv, hp, SS, q⟩ := h
   change H x=some (.ins a.cP dx (av "number" (.int n) (av "box" (.int b) []))) at hx
   obtain⟨⟨k1,k2⟩,⟨k3,k4⟩⟩:=hk;walk_at"h";have nd:=sh.nd;walk_at"v";symm;exact fm (by assumption) (by assumption) (by assumption) q
theorem zZ (T:TX)(b n:Int):ME 2 a.cP "keeps" (dF a (.set b n)):=by
 refine ay 1 T.jE T.CG oO ?_ ?_;ac_nf
 . obtain⟨x, s, z, rfl, ⟨dx, hx⟩, hk, z0, z1, hs, q⟩ := h
   change H x=some (.ins a.cP dx (av "number" (.int n) (av "box" (.int b) []))) at hx
   obtain⟨⟨k1,k2⟩,⟨k3,k4⟩⟩:=hk;walk_at"h";have nd:=oO.nd;walk_at"v";symm;exact q
theorem K2 (T:TX):KE 2 "Copy" a.bW (mv a.bW Rw.copy):=by
 refine eO 1 T.OI T.O_ pW ?_ ?_;ac_nf
 . obtain⟨x, dx, i, j, rfl, ⟨⟨h1, h2⟩, ⟨h3, h4⟩⟩, hx, q⟩ := h;walk_at"h";have nd:=pW.nd;walk_at"v";symm;exact q _ pP aa
theorem zF (T:TX)(b o:Int):ME 2 a.bW "runs" (ez K a (.copy b o)):=by
 refine ay 1 T.hJ T.CD pC ?_ ?_;ac_nf
 . obtain⟨x, bo, pi, z, bs, pl, rfl, ⟨dx, hx⟩, hk, hb, h8, hv, hp, SS, q⟩ := h
   change H x=some (.ins a.bW dx (av "one" (.int o) (av "box" (.int b) []))) at hx
   obtain⟨⟨k1,k2⟩,⟨k3,k4⟩⟩:=hk;walk_at"h";have nd:=pC.nd;walk_at"v";symm;exact fm (by assumption) (by assumption) (by assumption) q
theorem OR (T:TX):KE 2 "Add" a.cH (Gg a.cH Rw.add):=by
 refine eO 1 T.Qx T.PF i6 ?_ ?_;ac_nf
 . obtain⟨x, dx, i, j, k, rfl, ⟨⟨h1, h2⟩, ⟨h3, h4⟩, ⟨h5, h6⟩⟩, hx, q⟩ := h;walk_at"h";have nd:=i6.nd;walk_at"v";symm;exact q _ Je aa
theorem Bj (T:TX)(b o t:Int):ME 2 a.cH "keeps" (dF a (.add b o t)):=by
 refine ay 1 T.ju T.BS iH ?_ ?_;ac_nf
 . obtain⟨x, s, z, rfl, ⟨dx, hx⟩, hk, z0, z1, hs, q⟩ := h
   change H x=some (.ins a.cH dx (av "other" (.int t) (av "one" (.int o) (av "box" (.int b) [])))) at hx
   obtain⟨⟨k1,k2⟩,⟨k3,k4⟩,⟨k5,k6⟩⟩:=hk;walk_at"h";have nd:=iH.nd;walk_at"v";symm;exact q
theorem Cg (T:TX)(b o t:Int):ME 2 a.cH "runs" (ez K a (.add b o t)):=by
 refine ay 1 T.ju T.DL rm ?_ ?_;ac_nf
 . obtain⟨x, bo, pi, z, bs, pl, rfl, ⟨dx, hx⟩, hk, hb, h8, hv, hp, SS, q⟩ := h
   change H x=some (.ins a.cH dx (av "other" (.int t) (av "one" (.int o) (av "box" (.int b) [])))) at hx
   obtain⟨⟨k1,k2⟩,⟨k3,k4⟩,⟨k5,k6⟩⟩:=hk;walk_at"h";have nd:=rm.nd;walk_at"v";symm;exact fm (by assumption) (by assumption) (by assumption) q
theorem L4 (T:TX):KE 2 "Grow" a.b9 (l_ a.b9 Rw.grow):=by
 refine eO 1 T.OS T.Ox pK ?_ ?_;ac_nf
 . obtain⟨x, dx, i, rfl, ⟨h1, h2⟩, hx, q⟩ := h;walk_at"h";have nd:=pK.nd;walk_at"v";symm;exact q _ ml aa
theorem As (T:TX)(m:Int):ME 2 a.b9 "runs" (ez K a (.grow m)):=by
 refine ay 1 T.ic T.Cr qc ?_ ?_;ac_nf
 . obtain⟨x, bo, pi, z, bs, pl, rfl, ⟨dx, hx⟩, hk, hb, h8, hv, hp, SS, q⟩ := h
   change H x=some (.ins a.b9 dx (av "many" (.int m) [])) at hx
   obtain⟨k1,k2⟩:=hk;walk_at"h";have nd:=qc.nd;walk_at"v";symm;refine aK hx (by walk_at"nolk") ((mz T m).mono (by decide)) ?_;symm;refine⟨x,_,rfl,⟨dx,hx⟩,?_⟩;have q:h_ H Q (if (pl.length:Int)+m > 4000 then none else some (z+1,bs,pl++aat m.toNat 0)):=q;by_cases hh:(pl.length:Int)+m > 4000
   . rw[if_pos hh] at q;rw[show bI (Rw.aB (.grow m) (pl.length:Int))=V.aA from by simp only[Rw.aB];rw[if_pos hh];rfl];symm;exact q _ (by walk_at"same")
   rw[if_neg hh] at q;rw[show bI (Rw.aB (.grow m) (pl.length:Int))=V.int (pl.length+m) from by simp only[Rw.aB];rw[if_neg hh];rfl];symm;walk_at"tf"
theorem FO (T:TX):KE 2 "Shrink" a.bz (l_ a.bz Rw.shrink):=by
 refine eO 1 T.Ji T.IQ l6 ?_ ?_;ac_nf
 . obtain⟨x, dx, i, rfl, ⟨h1, h2⟩, hx, q⟩ := h;walk_at"h";have nd:=l6.nd;walk_at"v";symm;exact q _ ml aa
theorem wW (T:TX)(m:Int):ME 2 a.bz "runs" (ez K a (.shrink m)):=by
 refine ay 1 T.fu T.yp my ?_ ?_;ac_nf
 . obtain⟨x, bo, pi, z, bs, pl, rfl, ⟨dx, hx⟩, hk, hb, h8, hv, hp, SS, q⟩ := h
   change H x=some (.ins a.bz dx (av "many" (.int m) [])) at hx
   obtain⟨k1,k2⟩:=hk;walk_at"h";have nd:=my.nd;walk_at"v";symm;refine aK hx (by walk_at"nolk") ((j6 T m).mono (by decide)) ?_;symm;refine⟨x,_,rfl,⟨dx,hx⟩,?_⟩;have q:h_ H Q (if (pl.length:Int)<m then none else some (z+1,bs,pl.take (pl.length - m.toNat))):=q;by_cases hh:(pl.length:Int)<m
   . rw[if_pos hh] at q;rw[show bI (Rw.aB (.shrink m) (pl.length:Int))=V.aA from by simp only[Rw.aB];rw[if_pos hh];rfl];symm;exact q _ (by walk_at"same")
   rw[if_neg hh] at q;rw[show bI (Rw.aB (.shrink m) (pl.length:Int))=V.int (pl.length - m) from by simp only[Rw.aB];rw[if_neg hh];rfl];symm;rw[gh _ (by lia),show((pl.length:Int) - m).toNat=pl.length - m.toNat from by lia];walk_at"tf"
theorem vy (T:TX)(m:Int):ME 2 a.bz "keeps" (dF a (.shrink m)):=by
 refine ay 1 T.fu T.vQ kD ?_ ?_;ac_nf
 . obtain⟨x, s, z, rfl, ⟨dx, hx⟩, hk, z0, z1, hs, q⟩ := h
   change H x=some (.ins a.bz dx (av "many" (.int m) [])) at hx
   obtain⟨k1,k2⟩:=hk;have hh : ¬ z<m:=λe=>by rw[show Rw.aB (.shrink m) z=none from if_pos e] at hs;cases hs
   walk_at"h";have nd:=kD.nd;walk_at"v";symm;refine GC (vS (by lia) (by lia)) ?_;symm;rw[wq,show((2 ^ m.toNat:Nat):Int) - 1=((2 ^ m.toNat - 1:Nat):Int) from by have:=Nat.one_le_two_pow (n:=m.toNat);lia];refine GC ⟨by lia,by lia,m.toNat,by lia,by rw[acV];have:=Nat.one_le_two_pow (n:=m.toNat);lia⟩ ?_;rw[show((2 ^ m.toNat - 1:Nat):Int)*2 ^ (8+z - m).toNat=(((2 ^ m.toNat - 1)*2 ^ (8+z - m).toNat:Nat):Int) from by rw[Int.natCast_mul,Int.natCast_pow];rfl];symm;exact q
theorem MQ (T:TX):KE 2 "Put" a.cQ (mv a.cQ Rw.put):=by
 refine eO 1 T.P2 T.Qh eJ ?_ ?_;ac_nf
 . obtain⟨x, dx, i, j, rfl, ⟨⟨h1, h2⟩, ⟨h3, h4⟩⟩, hx, q⟩ := h;walk_at"h";have nd:=eJ.nd;walk_at"v";symm;exact q _ pP aa
theorem Oa (T:TX):KE 2 "Get" a.cO (mv a.cO Rw.get):=by
 refine eO 1 T.Qd T.PM eJ ?_ ?_;ac_nf
 . obtain⟨x, dx, i, j, rfl, ⟨⟨h1, h2⟩, ⟨h3, h4⟩⟩, hx, q⟩ := h;walk_at"h";have nd:=eJ.nd;walk_at"v";symm;exact q _ pP aa
theorem BJ (T:TX)(b c:Int):ME 2 a.cQ "runs" (ez K a (.put b c)):=by
 refine ay 1 T.jD T.DN rk ?_ ?_;ac_nf
 . obtain⟨x, bo, pi, z, bs, pl, rfl, ⟨dx, hx⟩, hk, hb, h8, hv, hp, SS, q⟩ := h
   change H x=some (.ins a.cQ dx (av "cell" (.int c) (av "box" (.int b) []))) at hx
   obtain⟨⟨k1,k2⟩,⟨k3,k4⟩⟩:=hk;walk_at"h";have nd:=rk.nd;walk_at"v";symm;refine aK hx (by walk_at"nolk") ((nR T b c).mono (by decide)) ?_;symm;refine⟨x,_,rfl,⟨dx,hx⟩,?_⟩;have q:h_ H Q (if (pl.length:Int)<=c then none else some (z+1,bs,sI pl (pl.length - 1 - c) (gI bs b))):=q;by_cases hh:(pl.length:Int)<=c
   . rw[if_pos hh] at q;rw[show bI (Rw.aB (.put b c) (pl.length:Int))=V.aA from by simp only[Rw.aB];rw[if_pos hh];rfl];symm;exact q _ (by walk_at"same")
   rw[if_neg hh] at q;rw[show bI (Rw.aB (.put b c) (pl.length:Int))=V.int pl.length from by simp only[Rw.aB];rw[if_neg hh];rfl];symm;walk_at"tf"
theorem Ck (T:TX)(b c:Int):ME 2 a.cO "runs" (ez K a (.get b c)):=by
 refine ay 1 T.jT T.DW rO ?_ ?_;ac_nf
 . obtain⟨x, bo, pi, z, bs, pl, rfl, ⟨dx, hx⟩, hk, hb, h8, hv, hp, SS, q⟩ := h
   change H x=some (.ins a.cO dx (av "cell" (.int c) (av "box" (.int b) []))) at hx
   obtain⟨⟨k1,k2⟩,⟨k3,k4⟩⟩:=hk;walk_at"h";have nd:=rO.nd;walk_at"v";symm;refine aK hx (by walk_at"nolk") ((nE T b c).mono (by decide)) ?_;symm;refine⟨x,_,rfl,⟨dx,hx⟩,?_⟩;have q:h_ H Q (if (pl.length:Int)<=c then none else some (z+1,sI bs b (gI pl (pl.length - 1 - c)),pl)):=q;by_cases hh:(pl.length:Int)<=c
   . rw[if_pos hh] at q;rw[show bI (Rw.aB (.get b c) (pl.length:Int))=V.aA from by simp only[Rw.aB];rw[if_pos hh];rfl];symm;exact q _ (by walk_at"same")
   rw[if_neg hh] at q;rw[show bI (Rw.aB (.get b c) (pl.length:Int))=V.int pl.length from by simp only[Rw.aB];rw[if_neg hh];rfl];symm;exact fm (by assumption) (by assumption) (by assumption) q
theorem AV (T:TX):FE 2 "looked_up" (FZ K):=by
 refine a_ 1 T.Aa oX ?_ ?_;ac_nf
 . obtain⟨s, pk, pp, kn, pc, rfl, h1, h8, h2, h0, q⟩ := h;walk_at"h";have nd:=oX.nd;walk_at"v";symm;walk_at"cs"
   . symm;rw[show br s kn pc=.aA from by unfold br;rw[if_pos hh]] at q;exact q
   have hp : 0<s:=by omega
   have hl:=h0 hp;symm;walk_at"cs"
   . symm;exact cy h1 (Ib hp hl (by assumption) h8) q
   have h9:=hh;have e:br s kn pc=if lowP s - 8<pc.length then .int (gI pc (lowP s - 8)) else .aA:=by unfold br;rw[if_neg (by omega),if_neg h9]
   rw[e] at q;symm;walk_at"cs"
   . have h10 := hh;rw[if_pos h10] at q;symm;exact q
   . have h10 := hh;rw[if_neg h10] at q;symm;exact q
theorem LS (T:TX):KE 2 "Jump" a.b8 (l_ a.b8 Rw.dA):=by
 refine eO 1 T.Pe T.NM o9 ?_ ?_;ac_nf
 . obtain⟨x, dx, i, rfl, ⟨h1, h2⟩, hx, q⟩ := h;walk_at"h";have nd:=o9.nd;walk_at"v";symm;exact q _ ml aa
theorem Fp (T:TX):KE 2 "Branch" a.bp (mv a.bp Rw.branch):=by
 refine eO 1 T.Jw T.Ij lV ?_ ?_;ac_nf
 . obtain⟨x, dx, i, j, rfl, ⟨⟨h1, h2⟩, ⟨h3, h4⟩⟩, hx, q⟩ := h;walk_at"h";have nd:=lV.nd;walk_at"v";symm;exact q _ pP aa
theorem Lm (T:TX):KE 2 "Call" a.aV (l_ a.aV Rw.call):=by
 refine eO 1 T.BG T.M4 pf ?_ ?_;ac_nf
 . obtain⟨x, dx, i, rfl, ⟨h1, h2⟩, hx, q⟩ := h;walk_at"h";have nd:=pf.nd;walk_at"v";symm;exact q _ ml aa
theorem zv (T:TX)(t:Int):ME 2 a.aV "runs" (ez K a (.call t)):=by
 refine ay 1 T.iw T.Cd pG ?_ ?_;ac_nf
 . obtain⟨x, bo, pi, z, bs, pl, rfl, ⟨dx, hx⟩, hk, hb, h8, hv, hp, SS, q⟩ := h
   change H x=some (.ins a.aV dx (av "target" (.int t) [])) at hx
   obtain⟨k1,k2⟩:=hk;walk_at"h";have nd:=pG.nd;walk_at"v";symm;exact fm (by assumption) (by assumption) (by assumption) q
theorem yJ (T:TX)(t:Int):ME 2 a.aV "keeps" (dF a (.call t)):=by
 refine ay 1 T.iw T.Ae oj ?_ ?_;ac_nf
 . obtain⟨x, s, z, rfl, ⟨dx, hx⟩, hk, z0, z1, hs, q⟩ := h
   change H x=some (.ins a.aV dx (av "target" (.int t) [])) at hx
   obtain⟨k1,k2⟩:=hk;walk_at"h";have nd:=oj.nd;walk_at"v";symm;exact xq (p:=143) q
theorem LK (T:TX):KE 2 "Back" a.a8 (l_ a.a8 Rw.back):=by
 refine eO 1 T.Hj T.Of oF ?_ ?_;ac_nf
 . obtain⟨x, dx, i, rfl, ⟨h1, h2⟩, hx, q⟩ := h;walk_at"h";have nd:=oF.nd;walk_at"v";symm;exact q _ ml aa
theorem KP (T:TX):KE 2 "Drop" a.a9 (l_ a.a9 Rw.drop):=by
 refine eO 1 T.Gz T.MH qh ?_ ?_;ac_nf
 . obtain⟨x, dx, i, rfl, ⟨h1, h2⟩, hx, q⟩ := h;walk_at"h";have nd:=qh.nd;walk_at"v";symm;exact q _ ml aa
theorem eN (T:TX):ME 2 a.aw "go_on" (M6 a):=by
 refine ay 1 T.cb T.uW kl ?_ ?_;ac_nf
 . obtain⟨m, dx, pc, pt, ph, pl, pk, pb, pp, fs, aU, c, n, d, st, rfl, hm, F, q⟩ := h;have f5:=F.aU;have fl:=F.len;have fn:=F.no "word_ahead_of" (by nofun);walk_at"h";have nd:=kl.nd;walk_at"v";symm;refine aK aa (iy (by nofun) (iy (by nofun) (iy (by nofun) fn))) ((cT T).mono (by decide)) ?_;symm;refine⟨m,dx,_,aU,n,rfl,aa,aG (by nofun) (aG (by nofun) (aG (by nofun) f5)),?_⟩;symm;rw[iI,iI,iI];exact q _ ((((F.Gb n).Mf pb).Iy pp).setState _)
theorem pL (T:TX):FE 2 "has_wrong_place" (LP K):=by
 refine a_ 1 T.oN iM ?_ ?_;ac_nf
 . obtain ⟨p, e, rfl, ⟨qe, h1, h2⟩, q⟩ := h;walk_at "h";have nd:=iM.nd;refine' aR ?_ ?_;walk_at "tS";walk_at "c";walk_at "c";walk_at "m";exact (iO (cJ (FC (K:=K) rfl rfl) rfl T.PY PH (ah (fA (own:=["places"]) (fr:=[("beyond",2)]) rfl ⟨rfl,(by walk_at "clok"),(by walk_at "frok"),rfl,(by nofun),(by nofun),rfl⟩ (dR (K:=K) rfl (be (gT T) (hr.mono (by decide)) bQ rfl (ah (pv 0) ax))) (λ_ _ _ _=>(bO (i:=0) (show aa6 [("places" : Str),("beyond" : Str)] from by nofun) rfl (Or.inl rfl))) (λ_ _ _ _=>c_) (λ_ _ _ _=>(JD (lY yU (pv 0) aL (dI _)) (Bf (lY (mE (K:=K) rfl hr.units) (cF E_ (pv 0) (pv 1)) aL (dI _)))))) ax)));walk_at "s";symm;refine cW (λhh=>?_) (λhh=>?_)
   . symm;rw[show dz e=true from by unfold dz;rw[decide_eq_true hh];rfl] at q;exact q _ (ak.refl _)
   symm;refine cW (λW9=>?_) (λW9=>?_)
   . symm;rw[show dz e=true from by unfold dz;rw[decide_eq_true W9,Bool.true_or,Bool.or_true]] at q;exact q _ (ak.refl _)
   symm;refine⟨p,e,rfl,⟨qe,h1,h2⟩,λt ht=>?_⟩;symm;refine xk (emb:=V.int) (λs=>.bl (jX e.h s)) (λZ=>∃ v,Z = [v,some (.int (8+e.h))]) (aJ.of aa) (by show 4<=aal;decide) ⟨_,rfl⟩ ?_ ?_
   . rintro i x ys Z H1 hx cc ss ⟨v,rfl⟩;symm;refine cW (λh3=>?_) (λh3=>?_)
     . symm;exact cc.next hx (by unfold jX;rw[decide_eq_true h3];rfl) (by walk_at"same") ⟨_,rfl⟩
     . symm;exact cc.next hx (by unfold jX;rw[decide_eq_false h3,ac6];congr 2;rw[decide_eq_decide];exact⟨λz=>by injection z,λz=>by rw[z]⟩) (by walk_at"same") ⟨_,rfl⟩
   intro H3 s3;symm;rename_i l nl;refine NH (bs:=e.dJ.map (jX e.h)) (by rw[aba];exact aq.of aa) ?_;rw[show(e.dJ.map (jX e.h)).any id=dz e from by
     unfold dz;rw[decide_eq_false hh,decide_eq_false W9,ac6,ac6,List.any_map];rfl]
   exact q _ (by walk_at"same")
theorem wj (T:TX):FE 2 "may_go_back" (MG K a):=by
 refine a_ 1 T.we mw ?_ ?_;ac_nf
 . obtain⟨x, p, b, e, rfl, ⟨dx, hx⟩, b0, b7, ⟨qe, h1, h2⟩, q⟩ := h
   change H x=some (.ins a.a8 dx (av "box" (.int b) [])) at hx
   walk_at"h";have nd:=mw.nd;refine' aR ?_ ?_;walk_at"tS";walk_at"m";exact(iO (cJ (EO (K:=K) rfl rfl) rfl T.Qi Qq (ah (fA (own:=["box","places"]) (fr:=[]) rfl ⟨rfl,(by walk_at"clok"),(by walk_at"frok"),rfl,(by nofun),(by nofun),rfl⟩ (N7 (K:=K) rfl rfl T.ze (ah (gu (v:=.ref a.gF) rfl T.oA rfl) (ah (bV (cS (K:=K) rfl) (pv 1) aL (λ_ _=>rfl)) ax))) (λ_ _ _ _=>(wz (K:=K) (n:=2) rfl rfl (km (bO (i:=0) (show aa6 [("box" : Str),("places" : Str)] from by nofun) rfl (Or.inl rfl)) (km (bO (i:=1) (show aa6 [("box" : Str),("places" : Str)] from by nofun) rfl (Or.inl rfl)) wt)))) (λ_ _ _ _=>c_) (λ_ _ _ _=>(cF vo (pv 1) (be (oM T) (hr.mono (by decide)) bQ rfl (ah (pv 0) ax))))) ax)));walk_at"s";symm;refine gQ (λhh=>?_) (λhh=>?_)
   . symm;rw[show jv b e=false from by unfold jv;rw[decide_eq_false hh];rfl] at q;exact q _ (ak.refl _)
   symm;unfold jv at q;rw[decide_eq_true hh,Bool.true_and] at q;cases hb:(aaK e.b ((2 ^ b.toNat:Nat):Int) != 0) with
   | false =>
     rw[hb] at q;symm;exact q _ (ak.refl _)
   | true =>
     rw[hb,Bool.true_and] at q;symm;refine⟨a.gF,qe,_,_,rfl,T.jo _,h2,?_⟩;refine Hc (xs:=[((4:Int),e.v4),(5,e.v5),(6,e.v6)]) (e1:=λq=>.int q.1) (e2:=λq=>.int q.2) (λq=>.int (aaK q.2 ((2 ^ q.1.toNat:Nat):Int))) (λZ=>∃ u v,Z = [u,v]) (T.jo _) h2 (by show 3<=aal;decide) ⟨_,_,rfl⟩ ?_ ?_
     . rintro i z ys Z H1 T' hz cc ss ⟨u,v,rfl⟩ nT;have Vm : 0<=z.1/\z.1<=7:=by
         match i,hz with
         | 0,hz=>cases hz;exact⟨by show(0:Int)<=4;decide,by show(4:Int)<=7;decide⟩
         | 1,hz=>cases hz;exact⟨by show(0:Int)<=5;decide,by show(5:Int)<=7;decide⟩
         | 2,hz=>cases hz;exact⟨by show(0:Int)<=6;decide,by show(6:Int)<=7;decide⟩
         | i+3,hz=>simp at hz
       obtain⟨z0,z7⟩:=Vm;symm;exact cc.next hz rfl (by walk_at"same") ⟨_,_,rfl⟩
     intro H3 s3;symm;rename_i l nl;refine O1 (ns:=[aaK e.v4 16,aaK e.v5 32,aaK e.v6 64]) (aq.of aa) ?_;simp only[acH,List.all_nil,Bool.and_true];exact q _ (by walk_at"same")
theorem ou (T:TX):FE 2 "target_complaint" (Pc K a):=by
 refine a_ 1 T.oy g6 ?_ ?_;ac_nf
 . obtain⟨x, l, t, ev, es, rfl, ⟨dx, hx⟩, hl, Tg, q⟩ := h
   change H x=some (.ins a.aV dx (av "target" (.int t) [])) at hx
   walk_at"h";have nd:=g6.nd;walk_at"v";symm;refine⟨t,l,ev,rfl,aq.of hl,?_⟩;rw[Tg.1];by_cases hh : 0<=t/\t<(es.length:Int)
   . rw[decide_eq_true hh];obtain⟨v,oe,Tx,T5,TU,hv⟩:=Tg.at hh.1 hh.2;obtain⟨qs,t1,t2⟩:=T.lX;symm;refine Qm oe mj hv.dp (zC (t1 _) (t2 _)) ?_;have q:∀ H',ak H H'->Q (oV (if kM oe mj=true then none else some .start)) H':=λH' s=>by
       have:=q H' s
       unfold eI at this;rw[if_pos hh,T5] at this;exact this
     cases hb:kM oe mj with
     | true =>
       rw[hb] at q;symm;exact q _ (ak.refl _)
     | false =>
       rw[hb] at q;symm;exact q _ (ak.refl _)
   . rw[decide_eq_false hh];symm
     have:=q H (ak.refl _)
     unfold eI at this;rw[if_neg hh] at this;exact this
theorem EK (T:TX):FE 2 "ways_on" (IS K a):=by
 refine a_ 1 T.EJ vw ?_ ?_;ac_nf
 . obtain ⟨c, d, i, prs, rs, ls, rfl, hc, Te, az, hd, Us, hi, q⟩ := h;have SS:=Te.1;have WW:rs[i]? = some rs[i]:=aaa hi;have hpi:prs[i]? = some prs[i]:=aaa (by rw [SS];exact hi);have S4:=Te.2 i _ _ hpi WW;have hoki:=az _ (aaV hi);have hw:dD rs ls i=(rs[i]).du i++(if (rs[i]).isCall=true/\(i:Int)∈ls.map (·.1) then [lv ls i] else []):=by unfold dD;rw [WW]
   generalize rs[i]=r at WW S4 hoki hw;generalize prs[i]=p0 at hpi S4;have Tx:b_ (prs.map V.ref) (i:Int)=some (.ref p0):=bw (by rw[aag,hpi];rfl);obtain⟨dx,UL⟩:=id S4;walk_at"h";have nd:=vw.nd;refine' aR ?_ ?_;walk_at"tS";walk_at"n";walk_at"f";exact(PW.pt (oG (wU (K:=K) rfl (cJ (xl (K:=K) rfl) rfl T.qi pB (ah (bV (cS (K:=K) rfl) (pv 0) (pv 2) (λ_ _=>rfl)) (ah (gu (v:=.ref a.aV) rfl T.BG rfl) ax)))) (qE (AE (zN (iC hr) (pv 2) (pv 1))))));walk_at"m";exact(gi (zB (K:=K) rfl abA PySem.F.slot_list_append PySem.F.type_list_append yc (pv 3) (ah (qF (iC hr) (pv 1) (pv 2) (λ_ _=>rfl)) ax)));exact cB;walk_at"m";walk_at"tS";walk_at"s";ac_rfl;refine aK UL (xp _) ((r_ T hoki.2).mono (by decide)) ?_;ac_rfl;refine⟨p0,i,rfl,S4,λl nl=>?_⟩;ac_rfl;obtain⟨t',ht1,UI,_⟩:=lG T hoki.2 (S4.same (ae (o:=.lst ((r.du i).map V.int)) nl));refine eY (λz=>nomatch z) ht1 UI ?_;have hgl:=HJ r i;cases TF:r.isCall with
   | false =>
     rw[TF,if_neg (by intro z;cases z.1),aaL] at hw;ac_rfl;exact q l _ (ae nl) nl (by rw[hw];exact aa)
   | true =>
     ac_rfl;refine RA ?_;refine DG ?_;ac_rfl;refine Bv (kvs:=au ls) (aj hd nl) ?_;by_cases hm:(i:Int)∈ls.map (·.1)
     . obtain⟨kv, hkv, hke⟩ := List.mem_map.mp hm;obtain⟨hv1,hv2⟩:=hZ Us kv hkv;rw[hke] at hv1 hv2;rw[<- hv2] at hv1;rw[hv1];rw[TF,if_pos ⟨rfl,hm⟩] at hw;refine⟨true,rfl,?_⟩;rw[if_pos rfl];ac_rfl;refine uZ ?_;ac_rfl;refine⟨d,_,rfl,hv1 ▸ fY.k (k:=.inl (i:Int)) (aj hd nl),?_⟩;ac_rfl;refine q l _ (λb o e=>by rw[ai (af e nl),ai (af e nl)];exact e) nl ?_;rw[aa,hw,aaF];rfl
     . rw[iN hm];rw[if_neg (λz=>hm z.2),aaL] at hw;refine⟨false,rfl,?_⟩;rw[if_neg aan];ac_rfl;exact q l _ (ae nl) nl (by rw[hw];exact aa)
theorem yr (T:TX):iR P w K mg base (eV P w) 2 "heights_of" (P0 K a):=by
 refine Al 1 T.yL eT ?_ ?_;ac_nf
 . obtain ⟨c, ly, prs, rs, ls, rfl, hc, Te, az, h0, Ta, S6, hwy, qe, q⟩ := h;have SS:=Te.1;walk_at "h";have nd:=eT.nd;refine' aR ?_ ?_;walk_at "x";exact (fw (i:=2) eT.nd rfl rfl (own:=["row"]) (fr:=[]) rfl ⟨rfl,(by walk_at "clok"),(by walk_at "frok"),rfl,(by nofun),(by nofun),rfl⟩ (dR (K:=K) rfl (pv 0)) (λ_ _ _ _=>(bO (i:=0) (show aa6 [("row" : Str)] from by nofun) rfl (Or.inl rfl))) (λ_ _ _ _=>c_) (λ_ _ _ _=>jq));walk_at "n";walk_at "x";walk_at "tS";walk_at "n";exact (gi (be (sN T) (hr.mono (by decide)) lN rfl (ah (pv 2) (ah (pv 3) (ah aL (ah (bV (cS (K:=K) rfl) (gu (v:=.ref a.jn) rfl T.lR rfl) aL (λ_ _=>rfl)) ax))))));walk_at "n"
   (with_reducible refine' j8 ?_ ?_ ?_)
   exact adB;walk_at"y";walk_at"tT";walk_at"n";walk_at"x";exact(c8 (i:=4) eT.nd rfl (Or.inl rfl) (wM (K:=K) rfl abA PySem.F.slot_list_pop PySem.F.type_list_pop Hi (pv 3)));walk_at"n";walk_at"x";walk_at"tS";walk_at"n";walk_at"f";walk_at"y";walk_at"tT";walk_at"m";exact(mU T.iS rfl (ah (qI (pv 4)) ax));exact cB;walk_at"n";exact(A7 adB rfl (dR (K:=K) rfl (bV (cS (K:=K) rfl) (pv 1) (pv 4) (λ_ _=>rfl))) (bO (i:=6) eT.nd rfl (Or.inl rfl)) (fE (gi (be (sN T) (hr.mono (by decide)) lN rfl (ah (pv 2) (ah (pv 3) (ah (pv 6) (ah (pv 5) ax))))))));walk_at"m";walk_at"f";walk_at"y";walk_at"tT";walk_at"m";exact(gi (be (sN T) (hr.mono (by decide)) lN rfl (ah (pv 2) (ah (pv 3) (ah (cN (K:=K) rfl (bV (cS (K:=K) rfl) (pv 0) (pv 4) (λ_ _=>rfl))) (ah (bV (cS (K:=K) rfl) (gu (v:=.ref a.jn) rfl T.lR rfl) aL (λ_ _=>rfl)) ax))))));exact cB;walk_at"m";walk_at"x";walk_at"tS";walk_at"s";ac_rfl;refine gf (K:=K) (a:=c) (xs:=prs.map V.ref) (λi ys Z H1=>(∃ v,Z = [v])/\ak H H1/\ys=(aat i (none:Option Int)).map bI) ⟨⟨_,rfl⟩,ak.refl _,rfl⟩ (λi ys Z H1 hi ⟨_,s1,e⟩=>⟨aq.of (s1 _ _ hc),by rw[e,aac,aaB,aaI];rw[aac] at hi;lia⟩) ?_ ?_
   . rintro i v ys Z H1 hv ⟨⟨u,rfl⟩,s1,rfl⟩;ac_rfl;exact⟨⟨_,rfl⟩,s1,by rw[List.replicate_succ',aaF];rfl⟩
   rintro ys Z H1 ⟨_,s1,rfl⟩ lh VM;rw[aac,SS];obtain⟨qs',S_,_⟩:=T.lX;ac_rfl;rename_i lw Vv;refine uF (S_ _) (v:=.int 0) rfl ?_;ac_rfl;have nhw:lh≠lw:=λz=>by rw[<- z,aa] at Vv;cases Vv
   have nlhH:H lh=none:=aF s1 VM;have V6:H lw=none:=aF s1 (il Vv).1;have Uk:(aat rs.length (none:Option Int))[0]? = some none:=by rw[abF,if_pos h0]
   refine⟨lh,lw,0,0,aat rs.length none,[],rfl,aj aa Vv,aa,by rw[aaB];exact Ta,by decide,by decide,by decide,nhw,λhb=>?Q4,λ_ e0=>?Rg,λ_ _=>?SM⟩
   case Q4 =>
     exfalso
     rcases hb with hb | hb | ⟨h2,e2,_⟩
     . lia
     . rw[aaB] at hb;lia
     . rw[show((0:Int).toNat)=0 from rfl,Uk] at e2;cases e2
   case Rg=>rw[show((0:Int).toNat)=0 from rfl,Uk] at e0;cases e0
   have I0:HI rs ls ((aat rs.length (none:Option Int)).set 0 (some 0)) ([]++[0]) none:=by
     refine HI.new (n:=0) ⟨aaB,λi h hi=>?_,(λk hk=>by cases hk),λi _ _ h r hi=>?_,by rw[My,aaB];exact acz (adn _)⟩ Uk RH.start
     . rw[abF] at hi;split at hi <;> cases hi
     . rw[abF] at hi;split at hi <;> cases hi
   have hst0:((aat rs.length (none:Option Int)).set 0 (some 0))[0]? = some (some 0):=aaO (by rw[aaB];exact h0);rw[show((0:Int).toNat)=0 from rfl];generalize (aat rs.length (none:Option Int)).set 0 (some 0)=hs0 at I0 hst0 ⊢;have sB:ak H (upd (upd (upd (upd H1 lh (.lst ((aat rs.length (none:Option Int)).map bI))) lw (.lst [])) lh (.lst (hs0.map bI))) lw (.lst (([]++[0]:List Nat).map nV))):=λb o e=>by
     rw[ai (af e V6),ai (af e nlhH),ai (af e V6),ai (af e nlhH)];exact s1 _ _ e
   have hlhB:(upd (upd (upd (upd H1 lh (.lst ((aat rs.length (none:Option Int)).map bI))) lw (.lst [])) lh (.lst (hs0.map bI))) lw (.lst (([]++[0]:List Nat).map nV))) lh=some (.lst (hs0.map bI)):=by rw[ai nhw];exact aa
   have hlwB:(upd (upd (upd (upd H1 lh (.lst ((aat rs.length (none:Option Int)).map bI))) lw (.lst [])) lh (.lst (hs0.map bI))) lw (.lst (([]++[0]:List Nat).map nV))) lw=some (.lst (([]++[0]:List Nat).map nV)):=aa;generalize (upd (upd (upd (upd H1 lh (.lst ((aat rs.length (none:Option Int)).map bI))) lw (.lst [])) lh (.lst (hs0.map bI))) lw (.lst (([]++[0]:List Nat).map nV)))=HB at sB hlhB hlwB ⊢;clear s1 VM Vv Uk;ac_rfl;refine⟨λj Z HQ=>∃ (UJ:List (Option Int)) (ws2:List Nat) (u v x:Option V),ak H HQ/\Z = [some (.ref c),some (.ref ly),some (.ref lh),some (.ref lw),u,v,x]/\HQ lh=some (.lst (UJ.map bI))/\HQ lw=some (.lst (ws2.map nV))/\HI rs ls UJ ws2 none/\UJ[0]? = some (some 0)/\j=ws2.length+2*nN UJ,⟨_,hs0,[]++[0],_,_,_,sB,rfl,hlhB,hlwB,I0,hst0,rfl⟩,?_⟩;clear sB hlhB hlwB I0 hst0;rintro j Z HQ ⟨UJ,ws2,u1,u2,u3,s2,rfl,hlh2,hlw2,I2,hz2,rfl⟩;have hf2:=I2.J7;have Vp:=I2.len;ac_rfl;refine fj (aq.of hlw2) ?_;rw[aac];rcases List.eq_nil_or_concat ws2 with rfl | ⟨ws3,k,rfl⟩
   . ac_rfl;refine q lh UJ HQ s2 nlhH hlh2 ⟨Vp,I2.rh,hz2,λi h r e1 e2=>(I2.cl i (by simp) (by simp) h r e1 e2).1,λi h t e1 e2=>(I2.cl i (by simp) (by simp) h (.call t) e1 e2).2 t rfl⟩
   . rw [List.concat_eq_append] at hlw2 I2 hf2 ⊢;have hwl:(ws3++[k]).length=ws3.length+1:=by rw [aab];rfl
     rw[hwl] at hf2 ⊢;ac_rfl;refine⟨_,λZ' H' h=>h,?_⟩;ac_rfl;refine J8 (xs:=ws3.map nV) (y:=.int (k:Int)) (by rw[hlw2,aaF];rfl) ?_;obtain⟨h,hk⟩:=I2.KA k (aax _ (List.mem_singleton.mpr rfl));have hkl:k<rs.length:=by rw[<- Vp];exact(List.getElem?_eq_some_iff.mp hk).1
     have U3:rs[k]? = some rs[k]:=aaa hkl;have hpk:prs[k]? = some prs[k]:=aaa (by rw[SS];exact hkl);have S4:=Te.2 k _ _ hpk U3;have Ul:=az _ (aaV hkl);generalize rs[k]=r at U3 S4 Ul;generalize prs[k]=p0 at hpk S4;have hrhk:=I2.rh k h hk;have I3:HI rs ls UJ ws3 (some k):=⟨Vp,I2.rh,λm hm=>I2.KA m (aa5 _ hm),λi hi hx=>I2.cl i (λhm=>by
         rcases List.mem_append.mp hm with hm | hm
         . exact hi hm
         . exact hx (by rw[List.mem_singleton.mp hm])) (by simp),by lia⟩
     have s3:ak H (upd HQ lw (.lst (ws3.map nV))):=λb o e=>by rw[ai (af e V6)];exact s2 _ _ e
     have hlh3:(upd HQ lw (.lst (ws3.map nV))) lh=some (.lst (UJ.map bI)):=by rw[ai nhw];exact hlh2
     have hlw3:(upd HQ lw (.lst (ws3.map nV))) lw=some (.lst (ws3.map nV)):=aa;generalize (upd HQ lw (.lst (ws3.map nV)))=HC at s3 hlh3 hlw3 ⊢;clear s2 hlh2 hlw2 I2;have Tx:b_ (prs.map V.ref) (k:Int)=some (.ref p0):=bw (by rw[aag,hpk];rfl);have hat2:b_ (UJ.map bI) (k:Int)=some (.int h):=bw (by rw[aag,hk];rfl);have hc3:=s3 _ _ hc;have Wq:=S4.same s3;obtain⟨dx,UL⟩:=id Wq;obtain⟨TM,hwl0,hwl2,hwl3⟩:=id hwy;have hwl1:=s3 _ _ hwl0;have hwk:TM[k]? = some TM[k]:=aaa (by rw[hwl2];exact hkl);have Uc:=hwl3 k _ hwk;generalize TM[k]=pw at hwk Uc;have hway:=s3 _ _ Uc;have hat3:b_ (TM.map V.ref) (k:Int)=some (.ref pw):=bw (by rw[aag,hwk];rfl);have hwb:=D5 (i:=k) az S6 Ta;ac_rfl;refine aK UL (lC _) ((iU T Ul.2).mono (by decide)) ?_;ac_rfl;refine⟨p0,h,rfl,Wq,?_⟩;cases hh:r.aB h with
     | none =>
       show bh 5 V.aA _ _ _;ac_rfl;refine jm ?_;ac_rfl
       try refine oY ?_
       ac_rfl;exact⟨m9 (by lia) (by lia),by show 1<=1000;decide,qe ⟨k,h,hrhk,.inr (.inr (.inl ⟨r,by rw[aaE];exact U3,hh⟩))⟩ _ s3⟩
     | some h' =>
       show bh 5 (V.int h') _ _ _;ac_rfl
       have Ue : ∀ {UD : List (Option Int)} {Ve : List Nat} {HD : Hp} {n x : Int} {R : Hp -> Prop}, HI rs ls UD Ve (some k) -> ak H HD -> HD lh = some (.lst (UD.map bI)) -> HD lw = some (.lst (Ve.map nV)) -> RH rs ls n x -> -10000 <= n -> n <= 10000 ->
           (∀ WV ws5 HE,HI rs ls WV ws5 (some k)->ak H HE->HE lh=some (.lst (WV.map bI))->HE lw=some (.lst (ws5.map nV))->(∀ (i:Nat) (y:Int),UD[i]? = some (some y)->WV[i]? = some (some y))->0<=n->WV[n.toNat]? = some (some x)->ws5.length+2*nN WV<=Ve.length+2*nN UD->R HE) ->
           CZ a [.ref lh,.ref lw,.int n,.int x] HD (λ_ HE=>R HE) E:=by
         intro UD Ve HD n x R I4 s4 TJ Vc rh b1 b2 qq;refine⟨lh,lw,n,x,UD,Ve,rfl,TJ,Vc,by rw[I4.len];exact Ta,by have:=I4.J7;have:=I4.len;lia,b1,b2,nhw,λhb=>qe (I4.reach rh hb) _ s4,λp0' e0=>qq UD Ve HD I4 s4 TJ Vc (λ_ _ e=>e) p0' e0 (aah _),λp0' e0=>?_⟩;have hn:=(List.getElem?_eq_some_iff.mp e0).1;have hI5:=I4.new e0 (show RH rs ls ((n.toNat:Nat):Int) x by rw[show((n.toNat:Nat):Int)=n by lia];exact rh);have hcnt:=Bi (x:=x) e0;refine qq (UD.set n.toNat (some x)) (Ve++[n.toNat]) _ hI5 (λb o e=>by rw[ai (af e V6),ai (af e nlhH)];exact s4 _ _ e) (by rw[ai nhw];exact aa) aa (λi y e=>gL e0 e) p0' (aaO hn) ?_;rw[aab];show _+1+_<=_;lia
       refine ff (K:=K) (a:=pw) (xs:=(dD rs ls k).map V.int) (λi Z HD=>∃ (UD:List (Option Int)) (Ve:List Nat) (x:Option V),ak H HD/\Z = [some (.ref c),some (.ref ly),some (.ref lh),some (.ref lw),some (.int (k:Int)),some (.int h'),x]/\HD lh=some (.lst (UD.map bI))/\HD lw=some (.lst (Ve.map nV))/\HI rs ls UD Ve (some k)/\UD[0]? = some (some 0)/\UD[k]? = some (some h)/\(∀ w∈(dD rs ls k).take i,0<=w/\UD[w.toNat]? = some (some h'))/\Ve.length+2*nN UD<=ws3.length+2*nN UJ) ⟨UJ,ws3,_,s3,rfl,hlh3,hlw3,I3,hz2,hk,(λw hw=>by rw[List.take_zero] at hw;cases hw),aah _⟩ (λi Z HD _ ⟨_,_,_,s4,_⟩=>aq.of (s4 _ _ Uc)) ?_ ?_
       . rintro i v Z HD hv ⟨UD,Ve,x,s4,rfl,TJ,Vc,I4,hz4,WD,hcl4,hm4⟩;obtain⟨w,hx,rfl⟩:∃ w,(dD rs ls k)[i]? = some w/\v=.int w:=by
           rw[aag] at hv;obtain⟨p,hp,e⟩:=Option.map_eq_some_iff.mp hv;exact⟨p,hp,e.symm⟩
         have hwm:=aaj hx;ac_rfl;refine Ue I4 s4 TJ Vc (RH.way hrhk U3 hh hwm) (hwb w hwm).1 (hwb w hwm).2 λWV ws5 HE I5 s5 hlh5 hlw5 mono p0' e5 hm5=>?_;refine⟨WV,ws5,_,s5,rfl,hlh5,hlw5,I5,mono 0 0 hz4,mono k h WD,λw' hw'=>?_,by lia⟩;rw[abz,hx,abq] at hw';rcases List.mem_append.mp hw' with hw' | hw'
         . exact⟨(hcl4 w' hw').1,mono _ _ (hcl4 w' hw').2⟩
         . rw[List.mem_singleton.mp hw'];exact⟨p0',e5⟩
       . rintro Z HD ⟨UD,Ve,x,s4,rfl,TJ,Vc,I4,hz4,WD,hcl4,hm4⟩;rw[aac,aaU] at hcl4;have hcD:=s4 _ _ hc;have hrowD:=S4.same s4;clear hlh3 hlw3 hc3 Wq UL hway hwl1 s3 I3;obtain⟨t',ty1,ty2,_⟩:=lG T Ul.2 hrowD;ac_rfl;refine eY (λz=>nomatch z) ty1 ty2 ?_;cases hcall:r.isCall with
         | false =>
           ac_rfl;refine⟨_,?_,UD,Ve,_,_,_,s4,rfl,TJ,Vc,I4.close λh1 r1 e1 e2=>?_,hz4,rfl⟩
           . lia
           . rw[WD] at e1;cases e1;rw[U3] at e2;cases e2;exact⟨⟨h',hh,hcl4⟩,λt ht=>by rw[ht] at hcall;cases hcall⟩
         | true =>
           obtain⟨t,rfl⟩:∃ t,r=.call t:=by
             cases r <;> first | exact⟨_,rfl⟩ | (cases hcall)
           obtain⟨dxD,Wk⟩:=hrowD;have Wk:HD p0=some (.ins a.aV dxD (av "target" (.int t) [])):=Wk;have htb : 0<=t/\t<=2000:=Ul.1;ac_rfl;refine uF (S_ _) (v:=.int 0) rfl ?_;ac_rfl;refine Ue I4 s4 TJ Vc (RH.call hrhk U3) (by lia) (by lia) λWV ws5 HE I5 s5 hlh5 hlw5 mono p0' e5 hm5=>?_;refine⟨_,?_,WV,ws5,_,_,_,s5,rfl,hlh5,hlw5,I5.close λh1 r1 e1 e2=>?_,mono 0 0 hz4,rfl⟩
           . lia
           . rw[mono k h WD] at e1;cases e1;rw[U3] at e2;cases e2;exact⟨⟨h',hh,λw hw=>⟨(hcl4 w hw).1,mono _ _ (hcl4 w hw).2⟩⟩,λt2 UI=>by cases UI;exact⟨p0',e5⟩⟩
theorem Ly {D PP:Addr->Int->Hp->Prop}{G:Prop}(key:∀ l n H3,D l n H3->PP l n H3)(use:(∀ l n H3,D l n H3->PP l n H3)->G):G:=use key
theorem va (T:TX):FE 2 "_law_function" (QA K):=by
 refine a_ 1 T.uw cV ?_ ?_;ac_nf
 . obtain ⟨lc, cs, c, at_, rfl, hlc, TF, gm, r9, q⟩ := h;walk_at "h";have nd:=cV.nd;refine' aR ?_ ?_;exact (c8 (i:=3) cV.nd rfl (Or.inr rfl) (fA (own:=["_law_box","_law_bit"]) (fr:=[("_law_cell",0)]) rfl ⟨rfl,(by walk_at "clok"),(by walk_at "frok"),rfl,(by nofun),(by nofun),rfl⟩ (Lj (K:=K) rfl rfl T.ze (ah (mI (ah aL (ah aL (ah aL (ah aL ax))))) (ah (mI (ah aL (ah aL (ah aL (ah aL ax))))) ax))) (λ_ _ _ _=>(wz (K:=K) (n:=2) rfl rfl (km (bO (i:=0) (show aa6 [("_law_box" : Str),("_law_bit" : Str),("_law_cell" : Str)] from by nofun) rfl (Or.inl rfl)) (km (bO (i:=1) (show aa6 [("_law_box" : Str),("_law_bit" : Str),("_law_cell" : Str)] from by nofun) rfl (Or.inl rfl)) wt)))) (λ_ _ _ _=>(wF (dS (mE (K:=K) rfl hr.units) (cF vo (pv 2) (pv 1)) aL (dI _)))) (λ_ _ _ _=>(pv 0))));walk_at "c";walk_at "c";walk_at "n";exact (c8 (i:=6) cV.nd rfl (Or.inr rfl) (fA (own:=["_law_k"]) (fr:=[("_law_height",4),("_law_turn",5)]) rfl ⟨rfl,(by walk_at "clok"),(by walk_at "frok"),rfl,(by nofun),(by nofun),rfl⟩ (fo rfl T.f9 (ah aL ax)) (λ_ _ _ _=>(bO (i:=0) (show aa6 [("_law_k" : Str),("_law_height" : Str),("_law_turn" : Str)] from by nofun) rfl (Or.inl rfl))) (λ_ _ _ _=>c_) (λ_ _ _ _=>(cF uH (cF (dG (K:=K) rfl) (pv 0) (pv 2)) (cJ (yd rfl) rfl T.JY JE (ah aL (ah (pv 1) ax)))))));walk_at "c";walk_at "c";walk_at "c";walk_at "c";walk_at "c";walk_at "n"
   (refine' c8 (i:=8) ?Sa ?R_ ?So ?Sn ?Sr ?Sd;(case Sa=>exact cV.nd);(case R_=>rfl);(case So=>exact(Or.inl rfl));(case Sr=>rfl);(case Sd=>exact .inl rfl);(case Sn=>(refine' cF (dG (K:=K) rfl) ?RT ?Sz;(case RT=>exact(pv 8));(case Sz=>exact(fA (own:=["_law_k"]) (fr:=[("_law_saved",3),("_law_places",6)]) rfl ⟨rfl,(by walk_at"clok"),(by walk_at"frok"),rfl,(by nofun),(by nofun),rfl⟩ (fo rfl T.f9 (ah (pv 9) ax)) (λ_ _ _ _=>(bO (i:=0) (show aa6 [("_law_k" : Str),("_law_saved" : Str),("_law_places" : Str)] from by nofun) rfl (Or.inl rfl))) (λ_ _ _ _=>c_) (λ_ _ _ _=>(mH (ah gK (ah (bV (cS (K:=K) rfl) (pv 1) (pv 0) (λ_ _=>rfl)) (ah (bV (cS (K:=K) rfl) (pv 2) (pv 0) (λ_ _=>rfl)) ax))))))))))
   walk_at"c";walk_at"n"
   (refine' c8 (i:=8) ?RY ?RE ?Ro ?Q2 ?Q6 ?Rx;(case RY=>exact cV.nd);(case RE=>rfl);(case Ro=>exact(Or.inl rfl));(case Q6=>rfl);(case Rx=>exact .inl rfl);(case Q2=>(refine' cF (dG (K:=K) rfl) ?Rh ?RG;(case Rh=>exact(pv 8));(case RG=>exact(fA (own:=["_law_k"]) (fr:=[("_law_saved",3),("_law_places",6)]) rfl ⟨rfl,(by walk_at"clok"),(by walk_at"frok"),rfl,(by nofun),(by nofun),rfl⟩ (FD rfl T.f9 (ah (pv 9) (ah (cJ (eG (K:=K) rfl) rfl T.jb je (ah (pv 3) ax)) ax))) (λ_ _ _ _=>(bO (i:=0) (show aa6 [("_law_k" : Str),("_law_saved" : Str),("_law_places" : Str)] from by nofun) rfl (Or.inl rfl))) (λ_ _ _ _=>c_) (λ_ _ _ _=>(mH (ah gK (ah (bV (cS (K:=K) rfl) (pv 1) (pv 0) (λ_ _=>rfl)) (ah (bV (cS (K:=K) rfl) (pv 2) (pv 0) (λ_ _=>rfl)) ax))))))))))
   walk_at"c";walk_at"c";walk_at"n"
   (refine' c8 (i:=8) ?QW ?RC ?Rl ?Rj ?Rv ?Ry;(case QW=>exact cV.nd);(case RC=>rfl);(case Rl=>exact(Or.inl rfl));(case Rv=>rfl);(case Ry=>exact .inl rfl);(case Rj=>(refine' cF (dG (K:=K) rfl) ?Rc ?Ri;(case Rc=>exact(pv 8));(case Ri=>exact(fA (own:=["_law_k"]) (fr:=[("_law_saved",3),("_law_places",6)]) rfl ⟨rfl,(by walk_at"clok"),(by walk_at"frok"),rfl,(by nofun),(by nofun),rfl⟩ (fo rfl T.f9 (ah (cJ (eG (K:=K) rfl) rfl T.jb je (ah (pv 3) ax)) ax)) (λ_ _ _ _=>(bO (i:=0) (show aa6 [("_law_k" : Str),("_law_saved" : Str),("_law_places" : Str)] from by nofun) rfl (Or.inl rfl))) (λ_ _ _ _=>c_) (λ_ _ _ _=>(mH (ah gK (ah (bV (cS (K:=K) rfl) (pv 1) (pv 0) (λ_ _=>rfl)) (ah (bV (cS (K:=K) rfl) (pv 2) (pv 0) (λ_ _=>rfl)) ax))))))))))
   walk_at"c";walk_at"c";walk_at"m";walk_at"tS";walk_at"s";symm;refine Mp ?_;symm;rename_i l1 n1 l2 n2;refine⟨_,_,_,_,rfl,aq.of (aj aa n2),aq.of aa,?_⟩;have sB:=(ae n1 (o:=.lst (([7,4,5,6]:List Int).map V.int))).trans (ae n2 (o:=.lst (([1,2,4,8]:List Int).map V.int)));refine E7 (K:=K) (xs:=([7,4,5,6]:List Int).map V.int) (ys:=([1,2,4,8]:List Int).map V.int) rfl (λi zs Z H1=>(∃ u v,Z = [u,v,some (V.int c)])/\ak (upd (upd H l1 (.lst (([7,4,5,6]:List Int).map V.int))) l2 (.lst (([1,2,4,8]:List Int).map V.int))) H1/\∃ ss:List Int,zs=ss.map V.int/\ss.length<=i/\∀ s∈ss,0<=s/\s<=7) ⟨⟨_,_,rfl⟩,ak.refl _,[],rfl,aah _,λ_ z=>by cases z⟩ (λi zs Z H1 hi ⟨_,s1,ss,e,e2,_⟩=>⟨⟨aq.of (s1 _ _ (aj aa n2)),aq.of (s1 _ _ aa)⟩,by rw[e,aac,aaI];have z:i<=4:=hi;lia⟩) ?_ ?_
   . rintro i x y tt zs Z H1 hx hy ⟨⟨u,v,rfl⟩,s1,ss,rfl,V3,VN⟩ hT;obtain⟨xi,Vy,rfl⟩:∃ c:Int,([7,4,5,6]:List Int)[i]? = some c/\x=V.int c:=by
       rw[aag] at hx;obtain⟨c,h1,e⟩:=Option.map_eq_some_iff.mp hx;exact⟨c,h1,e.symm⟩
     obtain⟨yi,hy1,rfl⟩:∃ c:Int,([1,2,4,8]:List Int)[i]? = some c/\y=V.int c:=by
       rw[aag] at hy;obtain⟨c,h1,e⟩:=Option.map_eq_some_iff.mp hy;exact⟨c,h1,e.symm⟩
     have hxb : 0<=xi/\xi<=7:=by
       have z:=aaj Vy;simp only[aaQ,aaR,or_false] at z
       lia
     clear hx hy;have s2:=s1.trans (ae hT (o:=.tup [V.int xi,V.int yi]));clear s1;symm;refine gQ (λhh=>?_) (λhh=>?_)
     . symm
       exact⟨⟨_, _, rfl⟩, s2, ss ++ [xi], by rw[aaF]; rfl, by simp only[aab, aaG]; lia, λy hy => by
         rcases List.mem_append.mp hy with h | h
         . exact VN y h
         . rw[List.mem_singleton.mp h];exact hxb⟩
     . exact⟨⟨_,_,rfl⟩,s2,ss,rfl,Nat.le_succ_of_le V3,VN⟩
   rintro ys Z H1 ⟨_,s1,ss,rfl,V3,VN⟩;have V3:ss.length<=4:=V3;have s0:=sB.trans s1;have hlc1:=aT s0 hlc;clear sB s1 hlc n1 n2;intro ls Vw;symm;obtain⟨hg,ehg⟩:∃ hg:Int,(ss.length:Int)+c/16%2=hg:=⟨_,rfl⟩
   have hg0:(ss.length:Int)<=hg/\hg<=ss.length+1:=by lia
   rw[ehg];have s1:=s0.trans (ae Vw (o:=.lst (ss.map V.int)));have Ux:=aT (ae Vw (o:=.lst (ss.map V.int))) hlc1;have hls2:(upd H1 ls (.lst (ss.map V.int))) ls=some (.lst (ss.map V.int)):=aa;have nls0:=aF s0 Vw;generalize upd H1 ls (HO.lst (ss.map V.int))=H2 at s1 Ux hls2 ⊢;clear s0 hlc1 Vw;refine eK (λi ys Z H3=>(∃ v,Z = [v,some (V.int hg),some (V.int (c/32%5))])/\H3=H2/\∃ ps:List Int,ys=ps.map V.int/\ps.length=i/\∀ p∈ps,0<=p/\p<=4) ⟨⟨_,rfl⟩,rfl,[],rfl,rfl,λ_ z=>by cases z⟩ (λi ys Z H3 hi ⟨_,_,ps,e,e2,_⟩=>by rw[e,aac,e2,aaI];have z:i<=5:=hi;lia) ?_ ?_
   . rintro i ys Z H3 hi ⟨⟨v,rfl⟩,rfl,ps,rfl,SS,hpb⟩;have hmx : 0<(if hg > 1 then hg else 1)/\(if hg > 1 then hg else 1)<=5:=by split <;> lia
     symm;have e0:=acN (0+(i:Int)+c/32%5) (show(if hg > 1 then hg else 1)≠0 by lia);have e1:=ace (0+(i:Int)+c/32%5) hmx.1
     exact⟨⟨_, rfl⟩, rfl, ps ++ [(0 + (i : Int) + c / 32 % 5) % (if hg > 1 then hg else 1)], by rw[aaF]; rfl, by rw[aab, SS]; rfl, λp hp => by
       rcases List.mem_append.mp hp with h | h
       . exact hpb p h
       . rw[List.mem_singleton.mp h];lia⟩
   rintro ys Z H3 ⟨_,rfl,ps,rfl,SS,hpb⟩;have SS:ps.length=5:=SS;intro lp Vi;have s2:=s1.trans (ae Vi (o:=.lst (ps.map V.int)));have VH:=aT (ae Vi (o:=.lst (ps.map V.int))) Ux;have hls3:(upd H3 lp (.lst (ps.map V.int))) ls=some (.lst (ss.map V.int)):=aj hls2 Vi;have hlp3:(upd H3 lp (.lst (ps.map V.int))) lp=some (.lst (ps.map V.int)):=aa;have nlp0:=aF s1 Vi;generalize upd H3 lp (HO.lst (ps.map V.int))=H4 at s2 VH hls3 hlp3 ⊢;clear s1 Ux hls2 Vi;obtain⟨pz,hpz,hatz⟩:=eL (ns:=ps) (i:=(ss.length:Int)) (by lia) (by lia);have hpz2:=hpb pz hpz;refine' Ly (D:=λlr WQ HX=>ak H4 HX/\H4 lr=none/\(∃ us,HX lr=some (.lst us)/\us.length<=1/\aZ fM HX us)/\-1<=WQ/\WQ<=5) (PP:=?PP) ?key (λkk=>?use);(case use =>
     have grown:∀ (lr t:Addr) (Uh:H4 lr=none) (nt:(upd H4 lr (.lst [])) t=none),0<hg->∃ us,(upd (upd (upd H4 lr (.lst [])) t (.tup [.str "grow",V.int hg])) lr (.lst ([]++[V.ref t]))) lr=some (.lst us)/\us.length<=1/\aZ fM (upd (upd (upd H4 lr (.lst [])) t (.tup [.str "grow",V.int hg])) lr (.lst ([]++[V.ref t]))) us:=λlr t Uh nt h0=>⟨_,aa,aah _,(aZ.one (r:=.grow hg) ⟨_,rfl,aa⟩ (.inl (by walk_at"A"))).off (aj aa nt)⟩;symm;refine cW (λhh=>?_) (λhh=>?_)
     . have h0 : 0 < hg := by lia
       symm;repeat (rename @Eq Bool _ _=>Vm;clear Vm)
       rename_i lr Uh _ t nt;have sx:ak H4 (upd (upd (upd H4 lr (.lst [])) t (.tup [.str "grow",V.int hg])) lr (.lst ([]++[V.ref t]))):=bK ((ae Uh).trans (ae nt)) Uh;have gx:=grown lr t Uh nt h0;generalize upd (upd (upd H4 lr (HO.lst [])) t (HO.tup [V.str (aae "grow"),V.int hg])) lr (HO.lst ([]++[V.ref t]))=HX at sx gx ⊢;obtain⟨WQ,hspv⟩:∃ s:Int,pz=s:=⟨_,rfl⟩
       rw[hspv];exact kk lr WQ HX ⟨sx,Uh,gx,by lia,by lia⟩
     . obtain⟨WQ, hspv⟩ : ∃ s : Int, s = -1 := ⟨_, rfl⟩
       symm;rw[<- hspv];refine cW (λh0=>?_) (λh0=>?_)
       . symm;repeat (rename @Eq Bool _ _=>Vm;clear Vm)
         rename_i lr Uh t nt;have sx:ak H4 (upd (upd (upd H4 lr (.lst [])) t (.tup [.str "grow",V.int hg])) lr (.lst ([]++[V.ref t]))):=bK ((ae Uh).trans (ae nt)) Uh;have gx:=grown lr t Uh nt h0;generalize upd (upd (upd H4 lr (HO.lst [])) t (HO.tup [V.str (aae "grow"),V.int hg])) lr (HO.lst ([]++[V.ref t]))=HX at sx gx ⊢;exact kk lr WQ HX ⟨sx,Uh,gx,by lia,by lia⟩
       . symm;repeat (rename @Eq Bool _ _=>Vm;clear Vm)
         rename_i lr Uh;have sx:ak H4 (upd H4 lr (.lst [])):=ae Uh;have hx:(upd H4 lr (.lst [])) lr=some (.lst []):=aa;generalize upd H4 lr (HO.lst [])=HX at sx hx ⊢;exact kk lr WQ HX ⟨sx,Uh,⟨_,hx,by decide,aZ.nil⟩,by lia,by lia⟩)
   (case key =>
     intro lr WQ H5 ⟨s5,Uh,⟨us,VA,Vo,To⟩,sp0,sp1⟩;have Uz : 0<=(ss.length:Int)*(c/160%3)/2/\(ss.length:Int)*(c/160%3)/2<=ss.length:=by
       rcases(show c/160%3=0∨c/160%3=1∨c/160%3=2 by lia) with z | z | z <;> rw[z] <;> lia
     generalize (ss.length:Int)*(c/160%3)/2=cut at Uz ⊢;have s50:=s2.trans s5;have hls5:=s5 _ _ hls3;have hlp5:=s5 _ _ hlp3;have Wf:=aT s5 VH;clear s2 s5 hls3 hlp3 VH hatz hpz hpz2 Uh;refine⟨by lia,by lia,?_⟩;refine eK (λi ys Z H6=>(∃ v,Z = [v,some (V.ref ls),some (V.ref lp)])/\ak H5 H6/\ys.length=i/\aZ fM H6 ys) ⟨⟨_,rfl⟩,ak.refl _,rfl,aZ.nil⟩ (λi ys Z H6 hi ⟨_,_,e,_⟩=>by rw[e,aaI];lia) ?_ ?_
     . rintro i ys Z H6 hi ⟨⟨v,rfl⟩,s6,Vx,UM⟩;have Wc:=s6 _ _ hls5;have We:=s6 _ _ hlp5;obtain⟨sv,hsv,hats⟩:=eL (ns:=ss) (i:=0+(i:Int)) (by lia) (by lia);obtain⟨pv,hpv,hatp⟩:=eL (ns:=ps) (i:=0+(i:Int)) (by lia) (by lia);have hsv2:=VN sv hsv;have hpv2:=hpb pv hpv;clear s50 hls5 hlp5;symm;rename_i t nt;exact⟨⟨_,rfl⟩,s6.trans (ae nt),by rw[aab,Vx];rfl,(UM.same (ae nt)).app (aZ.one (r:=.put sv pv) ⟨t,rfl,aa⟩ (.inl (by walk_at"A")))⟩
     rintro zs Z H6 ⟨_,s6,WT,tdz⟩;intro lq WR;have WT:zs.length=cut.toNat:=WT;have Wc:=s6 _ _ hls5;have We:=s6 _ _ hlp5;have hlc6:=aT s6 Wf;have hlr6:=s6 _ _ VA;have s60:=s50.trans s6;have UM:=(To.same s6).app tdz;have hul6:(us++zs).length<=1+cut.toNat:=by rw[aab];lia
     clear s50 s6 hls5 hlp5 Wf VA To tdz;symm;rename_i lr2 n2 la na lb nb;have sX:=((ae WR (o:=.lst zs)).trans (ae n2 (o:=.lst (us++zs)))).trans ((ae na (o:=.lst ((cu cs none (some 1)).map V.int))).trans (ae nb (o:=.lst ((cu ss none (some cut)).map V.int))));have Vq:(cu cs none (some 1)).length<=1:=by rw[gh _ (by decide),aaz];exact Nat.min_le_left _ _
     have hc2:(cu ss none (some cut)).length<=ss.length:=Am _ _ _;refine⟨la,lb,cu cs none (some 1),cu ss none (some cut),-1,_,rfl,aq.of (aj aa nb),by lia,aq.of aa,by lia,λs hs=>VN s (by rw[gh _ (by lia)] at hs;exact abT hs),by decide,by decide,by lia,by lia,λlb1 us1 H7 s7 hlb hub tdb=>?_⟩;have hlr7:H7 lr2=some (.lst (us++zs)):=s7 _ _ (aj (aj aa na) nb);have s8:=sX.trans s7;have hls7:=s8 _ _ Wc;have hlp7:=s8 _ _ We;have hlc7:=aT s8 hlc6;have s70:=s60.trans s8;have tds7:=(UM.same s8).app tdb;generalize us++zs=ur at hul6 hlr7 tds7 ⊢;clear s60 s7 s8 sX Wc We hlc6 hlr6 UM tdb n2 na nb WR;have hul7:(ur++us1).length<=1+2*(cu cs none (some 1)).length+cut.toNat:=by rw[aab];lia
     symm;rename_i lr3 n3;have hlr8:(upd H7 lr3 (.lst (ur++us1))) lr3=some (.lst (ur++us1)):=aa;have sX:ak H7 (upd H7 lr3 (.lst (ur++us1))):=ae n3;generalize upd H7 lr3 (HO.lst (ur++us1))=H8 at hlr8 sX ⊢;have hls8:=sX _ _ hls7;have hlp8:=sX _ _ hlp7;have hlc8:=aT sX hlc7;have s80:=s70.trans sX;have tds8:=tds7.same sX;generalize ur++us1=ur2 at hul7 hlr8 tds8 ⊢;clear sX n3 s70 hls7 hlp7 hlc7 hlr7 tds7;refine⟨cut,ss.length,rfl,⟨by lia,by lia,by lia,by lia⟩,?_⟩;refine eK (λi ys Z H6=>(∃ v,Z = [v,some (V.ref ls),some (V.ref lp)])/\ak H8 H6/\ys.length=i/\aZ fM H6 ys) ⟨⟨_,rfl⟩,ak.refl _,rfl,aZ.nil⟩ (λi ys Z H6 hi ⟨_,_,e,_⟩=>by rw[e,aaI];lia) ?_ ?_
     . rintro i ys Z H6 hi ⟨⟨v,rfl⟩,s6,Vx,UM⟩;have Wc:=s6 _ _ hls8;have We:=s6 _ _ hlp8;obtain⟨sv,hsv,hats⟩:=eL (ns:=ss) (i:=cut+(i:Int)) (by lia) (by lia);obtain⟨pv,hpv,hatp⟩:=eL (ns:=ps) (i:=cut+(i:Int)) (by lia) (by lia);have hsv2:=VN sv hsv;have hpv2:=hpb pv hpv;clear s80 hls8 hlp8;symm;rename_i t nt;exact⟨⟨_,rfl⟩,s6.trans (ae nt),by rw[aab,Vx];rfl,(UM.same (ae nt)).app (aZ.one (r:=.put sv pv) ⟨t,rfl,aa⟩ (.inl (by walk_at"A")))⟩
     rintro zs Z H6 ⟨_,s6,WT,tdz⟩;intro lq WR;have WT:zs.length=((ss.length:Int) - cut).toNat:=WT;have hls9:=s6 _ _ hls8;have hlp9:=s6 _ _ hlp8;have hlc9:=aT s6 hlc8;have hlr9:=s6 _ _ hlr8;have s90:=s80.trans s6;have tds9:=(tds8.same s6).app tdz;have hul9:(ur2++zs).length<=1+2*(cu cs none (some 1)).length+ss.length:=by rw[aab];lia
     clear s80 s6 hls8 hlp8 hlc8 hlr8 tds8 tdz;symm;rename_i lr4 n4 la na;have sX:=((ae WR (o:=.lst zs)).trans (ae n4 (o:=.lst (ur2++zs)))).trans (ae na (o:=.lst ((cu cs (some 1) none).map V.int)));have Vq:(cu cs (some 1) none).length<=cs.length:=Am _ _ _;have hct:=KI cs;have hul9b:=hul9;refine⟨la,ls,cu cs (some 1) none,ss,WQ,_,rfl,aq.of aa,by lia,aq.of (sX _ _ hls9),by lia,VN,by lia,by lia,by lia,by lia,λlb2 us2 HA sA hlb hub tdb=>?_⟩;have hlrA:HA lr4=some (.lst (ur2++zs)):=sA _ _ (aj aa na);have s8:=sX.trans sA;have hlsA:=s8 _ _ hls9;have hlpA:=s8 _ _ hlp9;have sA0:=s90.trans s8;have tdsA:=(tds9.same s8).app tdb;generalize ur2++zs=ur3 at hul9 hlrA tdsA ⊢;clear s90 sA s8 sX hls9 hlp9 hlc9 hlr9 tds9 tdb n4 na WR;have hulA:(ur3++us2).length<=1+2*cs.length+ss.length:=by rw[aab];lia
     have hatb : 0<=at_/\at_<=400:=⟨gm,r9⟩
     clear gm r9 sp0 sp1;symm;rename_i lr5 n5;have hlrB:(upd HA lr5 (.lst (ur3++us2))) lr5=some (.lst (ur3++us2)):=aa;have sX:ak HA (upd HA lr5 (.lst (ur3++us2))):=ae n5;generalize upd HA lr5 (HO.lst (ur3++us2))=HB at hlrB sX ⊢;have hlsB:=sX _ _ hlsA;have hlpB:=sX _ _ hlpA;have sB0:=sA0.trans sX;have tdsB:=tdsA.same sX;generalize ur3++us2=ur4 at hulA hlrB tdsB ⊢;clear sX n5 sA0 hlsA hlpA hlrA tdsA;refine eK (λi ys Z H6=>(∃ v,Z = [v,some (V.ref ls),some (V.ref lp)])/\ak HB H6/\ys.length=i/\aZ fM H6 ys) ⟨⟨_,rfl⟩,ak.refl _,rfl,aZ.nil⟩ (λi ys Z H6 hi ⟨_,_,e,_⟩=>by rw[e,aaI];lia) ?_ ?_
     . rintro i ys Z H6 hi ⟨⟨v,rfl⟩,s6,Vx,UM⟩;have Wc:=s6 _ _ hlsB;have We:=s6 _ _ hlpB;obtain⟨sv,hsv,hats⟩:=eL (ns:=ss) (i:=0+(i:Int)) (by lia) (by lia);obtain⟨pv,hpv,hatp⟩:=eL (ns:=ps) (i:=0+(i:Int)) (by lia) (by lia);have hsv2:=VN sv hsv;have hpv2:=hpb pv hpv;clear sB0 hlsB hlpB;symm;rename_i t nt;exact⟨⟨_,rfl⟩,s6.trans (ae nt),by rw[aab,Vx];rfl,(UM.same (ae nt)).app (aZ.one (r:=.get sv pv) ⟨t,rfl,aa⟩ (.inl (by walk_at"A")))⟩
     rintro zs Z H6 ⟨_,s6,WT,tdz⟩;intro lq WR;have WT:zs.length=((ss.length:Int)).toNat:=WT;have hlrC:=s6 _ _ hlrB;have sC0:=sB0.trans s6;have tdsC:=(tdsB.same s6).app tdz;have hulC:(ur4++zs).length<=1+2*cs.length+2*ss.length:=by rw[aab];lia
     clear sB0 s6 hlsB hlpB hlrB tdsB tdz;symm;rename_i Up n6;have sX:=(ae WR (o:=.lst zs)).trans (ae n6 (o:=.lst (ur4++zs)));have VG:(upd (upd H6 lq (.lst zs)) Up (.lst (ur4++zs))) Up=some (.lst (ur4++zs)):=aa;have V7:=aF (sC0.trans (ae WR (o:=.lst zs))) n6;generalize upd (upd H6 lq (HO.lst zs)) Up (HO.lst (ur4++zs))=HF at sX VG ⊢;have sF:=sC0.trans sX;have tdF:=tdsC.same sX;generalize ur4++zs=uf at hulC VG tdF ⊢;clear sX sC0 tdsC hlrC WR n6;refine cW (λh0=>?_) (λh0=>?_)
     . symm;rename_i ts nts;have sY:ak H (upd (upd HF ts (.tup [.str "shrink",V.int hg])) Up (.lst (uf++[V.ref ts]))):=bK (sF.trans (ae nts)) V7;have hY:(upd (upd HF ts (.tup [.str "shrink",V.int hg])) Up (.lst (uf++[V.ref ts]))) Up=some (.lst (uf++[V.ref ts])):=aa;have tdY:aZ fM (upd (upd HF ts (.tup [.str "shrink",V.int hg])) Up (.lst (uf++[V.ref ts]))) (uf++[V.ref ts]):=((tdF.same (ae nts)).app (aZ.one (r:=.shrink hg) ⟨ts,rfl,aa⟩ (.inl ⟨⟨by simp only [Rw.ok,aM,isVal,aH,aW];lia,aas⟩,by simp only [cz];lia⟩))).off (aj VG nts);have Vx:(uf++[V.ref ts]).length<=2*cs.length+10:=by rw [aab,aaG];lia
       generalize upd (upd HF ts (HO.tup [V.str (aae "shrink"),V.int hg])) Up (HO.lst (uf++[V.ref ts]))=HY at sY hY tdY ⊢;generalize uf++[V.ref ts]=uy at hY tdY Vx ⊢;clear sF VG tdF nts;refine ky (λhj=>?_) (λhj=>?_)
       . symm;rename_i tj U1 tt Tv;have sZ:ak H (upd (upd HY tj (.tup [.str "jump",V.int (-1 - c/1920%3)])) Up (.lst (uy++[V.ref tj]))):=bK (sY.trans (ae U1)) V7;have tZ:aZ fM (upd (upd HY tj (.tup [.str "jump",V.int (-1 - c/1920%3)])) Up (.lst (uy++[V.ref tj]))) (uy++[V.ref tj]):=((tdY.same (ae U1)).app (aZ.one (r:=.dA (-1 - c/1920%3)) ⟨tj,rfl,aa⟩ (.inr (.inr ⟨_,rfl⟩)))).off (aj hY U1);exact q tt Up (uy++[V.ref tj]) _ _ (sZ.trans (ae Tv)) aa (aj aa Tv) (by rw[aab];exact acM _ _) (by rw[aab,aaG];lia) (tZ.same (ae Tv)) (by lia) (by lia)
       . symm;rename_i tj U1 tt Tv;have sZ:ak H (upd (upd HY tj (.tup [.str "back",V.int 7])) Up (.lst (uy++[V.ref tj]))):=bK (sY.trans (ae U1)) V7;have tZ:aZ fM (upd (upd HY tj (.tup [.str "back",V.int 7])) Up (.lst (uy++[V.ref tj]))) (uy++[V.ref tj]):=((tdY.same (ae U1)).app (aZ.one (r:=.back 7) ⟨tj,rfl,aa⟩ (.inl (by walk_at"A")))).off (aj hY U1);exact q tt Up (uy++[V.ref tj]) _ _ (sZ.trans (ae Tv)) aa (aj aa Tv) (by rw[aab];exact acM _ _) (by rw[aab,aaG];lia) (tZ.same (ae Tv)) (by lia) (by lia)
     . symm;refine ky (λhj=>?_) (λhj=>?_)
       . symm;rename_i tj U1 tt Tv;have sZ:ak H (upd (upd HF tj (.tup [.str "jump",V.int (-1 - c/1920%3)])) Up (.lst (uf++[V.ref tj]))):=bK (sF.trans (ae U1)) V7;have tZ:aZ fM (upd (upd HF tj (.tup [.str "jump",V.int (-1 - c/1920%3)])) Up (.lst (uf++[V.ref tj]))) (uf++[V.ref tj]):=((tdF.same (ae U1)).app (aZ.one (r:=.dA (-1 - c/1920%3)) ⟨tj,rfl,aa⟩ (.inr (.inr ⟨_,rfl⟩)))).off (aj VG U1);exact q tt Up (uf++[V.ref tj]) _ _ (sZ.trans (ae Tv)) aa (aj aa Tv) (by rw[aab];exact acM _ _) (by rw[aab,aaG];lia) (tZ.same (ae Tv)) (by lia) (by lia)
       . symm;rename_i tj U1 tt Tv;have sZ:ak H (upd (upd HF tj (.tup [.str "back",V.int 7])) Up (.lst (uf++[V.ref tj]))):=bK (sF.trans (ae U1)) V7;have tZ:aZ fM (upd (upd HF tj (.tup [.str "back",V.int 7])) Up (.lst (uf++[V.ref tj]))) (uf++[V.ref tj]):=((tdF.same (ae U1)).app (aZ.one (r:=.back 7) ⟨tj,rfl,aa⟩ (.inl (by walk_at"A")))).off (aj VG U1);exact q tt Up (uf++[V.ref tj]) _ _ (sZ.trans (ae Tv)) aa (aj aa Tv) (by rw[aab];exact acM _ _) (by rw[aab,aaG];lia) (tZ.same (ae Tv)) (by lia) (by lia))
theorem uB (T:TX):FE 2 "_law_any_code" (GP K 12):=by
 refine a_ 1 T.vJ gy ?_ ?_;ac_nf
 . obtain ⟨a0, ns, rfl, hS, h63, q⟩ := h;walk_at "h";have nd:=gy.nd;refine' aR ?_ ?_;walk_at "tS";walk_at "n";exact (fw (i:=2) gy.nd rfl rfl (own:=["_law_k"]) (fr:=[("_law_script",0),("_law_many",1)]) rfl ⟨rfl,(by walk_at "clok"),(by walk_at "frok"),rfl,(by nofun),(by nofun),rfl⟩ (fo rfl T.f9 (ah (pv 1) ax)) (λ_ _ _ _=>(bO (i:=0) (show aa6 [("_law_k" : Str),("_law_script" : Str),("_law_many" : Str)] from by nofun) rfl (Or.inl rfl))) (λ_ _ _ _=>c_) (λ_ _ _ _=>(be (wI T) (hr.mono (by decide)) bQ rfl (ah (be (hV T) (hr.mono (by decide)) bQ rfl (ah (pv 1) (ah (cF (dG (K:=K) rfl) aL (pv 0)) ax))) (ah (pv 2) ax)))));walk_at "c";walk_at "n";walk_at "g";walk_at "tI";walk_at "tG";walk_at "m";exact (wN (iC hr) (pv 3) (cF uH (pv 4) (pv 1)) (cF uH (cF De (pv 4) (pv 1)) (pv 1)) rfl);exact λ_=>rfl;walk_at "m";walk_at "tS";walk_at "s";symm;have hm0 : 1<=1+cellAt ns 0/2%12/\1+cellAt ns 0/2%12<=12:=⟨by lia,by lia⟩
   generalize 1+cellAt ns 0/2%12=m at hm0 ⊢;refine eK (λi ys Z H1=>(∃ v,Z = [v,some (.ref a0),some (.int m)])/\ak H H1/\ys.length=i/\aZ jV H1 ys) ⟨⟨_,rfl⟩,ak.refl _,rfl,aZ.nil⟩ (λi ys Z H1 hi h=>by rw[h.2.2.1,aaI];lia) ?_ ?_
   . rintro i ys Z H1 hi ⟨⟨v,rfl⟩,s1,Vx,To⟩;have hS1:=aT s1 hS;symm;exact⟨_,_,rfl,by lia,by lia,λu r H2 s2 hu ho=>⟨⟨_,rfl⟩,s1.trans s2,by rw[aab,Vx];rfl,(To.same s2).app (aZ.one hu ho)⟩⟩
   rintro ys Z H1 ⟨_,s1,Vx,To⟩;have hS1:=aT s1 hS;have hk : 0<=cellAt ns 0/24%3/\cellAt ns 0/24%3<3:=⟨by lia,by lia⟩
   have TF:=BA ns (j:=30) (k:=cellAt ns 0/24%3) (by decide) hk.1;symm;rename_i ll VL d nd lx Vh;generalize cu ns (some 30) (some (30+cellAt ns 0/24%3))=cs at TF Vh ⊢;have nd0:(upd H1 ll (.lst ys)) d=none:=nd;refine ff (K:=K) (a:=lx) (xs:=cs.map V.int) (λi Z HD=>∃ (ls:List (Int×Int)) (v:Option V),ak (upd H1 ll (.lst ys)) HD/\HD lx=some (.lst (cs.map V.int))/\Z = [some (.ref a0),some (.int m),some (.ref ll),some (.ref d),v]/\HD d=some (.dK (au ls))/\dN ls/\ls.length<=i) ⟨[],none,(ae nd).trans (ae Vh),aa,rfl,aj aa Vh,⟨adz,by decide,λp hp=>by cases hp⟩,aah _⟩ (λi Z HD _ ⟨_,_,_,h,_⟩=>aq.of h) ?_ ?_
   . rintro i x Z HD hx ⟨ls,v,s3,hlx,rfl,hd,S6,hli⟩;obtain⟨cl,hcl2,rfl⟩:∃ c:Int,cs[i]? = some c/\x=.int c:=by
       rw[aag] at hx;obtain⟨c,h1,e⟩:=Option.map_eq_some_iff.mp hx;exact⟨c,h1,e.symm⟩
     have hi:=(List.getElem?_eq_some_iff.mp hcl2).1;have v0:=acN (cl/m) (show m≠0 by lia);have v1:=ace (cl/m) (show 0<m by lia);have cd:HL cl m:=⟨by lia,by lia⟩
     symm;refine⟨_,_,rfl,rfl,cd,?_⟩;symm;obtain⟨V0,e',L',n'⟩:=Ld (c:=cl%m) (r:=cl/m%m) S6 (by lia) (by lia) (by lia);refine jj hd (by unfold au;rw[aac,aaI];lia) ?_;rw[e'];exact⟨V0,_,bK s3 nd0,by rw[ai (λz=>by rw[z,hd] at hlx;cases hlx)];exact hlx,rfl,aa,L',by lia⟩
   . rintro Z HD ⟨ls,v,s3,hlx,rfl,hd,S6,hli⟩;symm;rename_i tt Tv;exact q tt ll d ys ls _ ((s1.trans (ae VL)).trans (s3.trans (ae Tv))) aa (aF s1 VL) (aF (s1.trans (ae VL)) nd0) (λz=>by rw[z,aa] at nd0;cases nd0) (aj (s3 _ _ aa) Tv) (by lia) (by lia) (To.same ((ae VL).trans (s3.trans (ae Tv)))) (aj hd Tv) S6
theorem mD (T:TX):FE 2 "_law_as_then" (RM a):=by
 refine a_ 1 T.wy mq ?_ ?_;ac_nf
 . obtain⟨m, t, pk, pt, S, d, rfl, MM, O, ⟨t0, q0, p0, ex, h1, h2, h3, h4⟩, e4, e5, e6, ec, q⟩ := h;cases ex
   obtain⟨dx,pc,ph,pl,fs,prs,cs,M⟩:=id MM;have fn:=M.f.no;have hm:=M.hm;have h8:=O.h8;have f2:=M.f.held;have f3:=M.f.cells;have hh:=M.hh;have S6:=M.hl;walk_at"h";have nd:=mq.nd;refine' fE ?_;exact(iO (E9 (lY (uA (K:=K) rfl hr.units) (iK (xI (K:=K) rfl) rfl T.CT C4 (ah (sQ (Hz (K:=K) rfl) (gq (P:=P) (w:=w) (K:=K) (mg:=mg) (base:=base) (k:=1) ⟨rfl,rfl,rfl,rfl,rfl⟩ (pv 0) (hr.mono (by decide)) bQ) (lI aL) (lI aL)) ax)) (bV (cS (K:=K) rfl) (pv 1) aL (λ_ _=>rfl)) (dI _)) (Bf (lY (uA (K:=K) rfl hr.units) (gq (P:=P) (w:=w) (K:=K) (mg:=mg) (base:=base) (k:=1) ⟨rfl,rfl,rfl,rfl,rfl⟩ (pv 0) (hr.mono (by decide)) bQ) (bV (cS (K:=K) rfl) (pv 1) aL (λ_ _=>rfl)) (dI _)))));walk_at"s";symm;refine aK hm (fn _ (by nofun)) ((fV T).mono (by decide)) ?_;symm;refine⟨m,dx,ph,fs,_,rfl,hm,f2,hh,λlb nlb=>?_⟩;obtain⟨x0,x1,x2,x3,x4,x5,x6,x7,e8⟩:∃ x0 x1 x2 x3 x4 x5 x6 x7,S.held=[x0,x1,x2,x3,x4,x5,x6,x7]:=Jr h8;have Uz:cu S.held (some 4) (some 7)=[d.a,d.b,d.c]:=by
     rw[<- e4,<- e5,<- e6,e8];rfl
   symm;rename_i lc Vk;rw[Uz];refine zT (aq.of aa) λlt nlt=>?_;have s3:ak H (upd (upd (upd H lb (.lst (S.held.map V.int))) lc (.lst ([d.a,d.b,d.c].map V.int))) lt (.tup ([d.a,d.b,d.c].map V.int))):=((ae nlb).trans (ae (by rw[Uz] at *;exact Vk))).trans (ae nlt);have t3:(upd (upd (upd H lb (.lst (S.held.map V.int))) lc (.lst ([d.a,d.b,d.c].map V.int))) lt (.tup ([d.a,d.b,d.c].map V.int))) lt=some (.tup ([d.a,d.b,d.c].map V.int)):=aa;generalize upd (upd (upd H lb (.lst (S.held.map V.int))) lc (.lst ([d.a,d.b,d.c].map V.int))) lt (.tup ([d.a,d.b,d.c].map V.int))=H3 at s3 t3 ⊢;have g1:=s3 _ _ h1;have g2:=s3 _ _ h2;have g3:=s3 _ _ h3;have hm3:=s3 _ _ hm;have hl3:=s3 _ _ S6;clear nlb Vk nlt Uz;symm;refine DD (.tuple [.int d.a,.int d.b,.int d.c]) (gB (aJ.of t3) (aS (cE _) (aS (cE _) (aS (cE _) cL)))) (gB (aJ.of g2) (aS (cE _) (aS (cE _) (aS (cE _) cL)))) (by walk_at"shaped") ?_;symm;refine aK hm3 (fn _ (by nofun)) ((kz T).mono (by decide)) ?_;symm;refine⟨m,dx,pl,fs,_,rfl,hm3,f3,hl3,λlp Vi=>?_⟩;symm;refine DD (.list (d.pl.map acE)) (jl (by rw[<- ec];exact aq.of aa)) (jl (aq.of (aj g3 Vi))) (shaped_ints _) ?_;exact q _ (s3.trans (ae Vi))
theorem GV (r:Rw):r.mV.lookup ("runs" : Str)=none:=by
 cases r <;> (show abv _ (av _ _ _)=none;walk_at"nolk")
theorem CF (T:TX)(hr:r.here):ME 2 (r.cls a) "runs" (ez K a r):=by
 cases r
 . exact(Ca T _ _).mono (by decide)
 . exact(zF T _ _).mono (by decide)
 . exact(Cg T _ _ _).mono (by decide)
 . exact hr.elim
 . exact hr.elim
 . exact hr.elim
 . exact(As T _).mono (by decide)
 . exact(wW T _).mono (by decide)
 . exact(BJ T _ _).mono (by decide)
 . exact(Ck T _ _).mono (by decide)
 . exact(zJ T _).mono (by decide)
 . exact(vL T _ _).mono (by decide)
 . exact(zv T _).mono (by decide)
 . exact(Bl T _).mono (by decide)
 . exact(A4 T _).mono (by decide)
theorem v_ (T:TX)(hr:r.here)(h:bA a H p r):∃ t',bM K H (.ref p) t'/\acj K t' (.ref a.a9)=some r.d6/\acj K t' (.ref a.aV)=some r.isCall/\acj K t' (.ref a.a8)=some r.eu:=by
 obtain⟨dx,e⟩:=h;cases r
 . exact⟨_,bM.ins e T.jE T.uG.1 T.eP T.eU T.uG.2,T.rK,T.lB,T.kW⟩
 . exact⟨_,bM.ins e T.hJ T.qA.1 T.eP T.eU T.qA.2,T.pA,T.jw,T.j7⟩
 . exact⟨_,bM.ins e T.ju T.vt.1 T.eP T.eU T.vt.2,T.qY,T.k7,T.lD⟩
 . exact hr.elim
 . exact hr.elim
 . exact hr.elim
 . exact⟨_,bM.ins e T.ic T.qP.1 T.eP T.eU T.qP.2,T.oK,T.jG,T.jF⟩
 . exact⟨_,bM.ins e T.fu T.ku.1 T.eP T.eU T.ku.2,T.lS,T.ig,T.ik⟩
 . exact⟨_,bM.ins e T.jD T.t8.1 T.eP T.eU T.t8.2,T.rl,T.lu,T.kZ⟩
 . exact⟨_,bM.ins e T.jT T.uO.1 T.eP T.eU T.uO.2,T.rp,T.k9,T.k_⟩
 . exact⟨_,bM.ins e T.iB T.qw.1 T.eP T.eU T.qw.2,T.qk,T.js,T.jS⟩
 . exact⟨_,bM.ins e T.fi T.kC.1 T.eP T.eU T.kC.2,T.lQ,T.ir,T.hU⟩
 . exact⟨_,bM.ins e T.iw T.qJ.1 T.eP T.eU T.qJ.2,T.oZ,T.jz,T.ke⟩
 . exact⟨_,bM.ins e T.iz T.qB.1 T.eP T.eU T.qB.2,T.o7,T.jL,T.jY⟩
 . exact⟨_,bM.ins e T.gc T.ji.1 T.eP T.eU T.ji.2,T.jZ,T.jr,T.jt⟩
theorem yO (T:TX)(b o:Int):ME 3 a.bW "keeps" (dF a (.copy b o)):=by
 refine ay 2 T.hJ T.Ao oa ?_ ?_;ac_nf
 . obtain⟨x, s, z, rfl, ⟨dx, hx⟩, hk, z0, z1, hs, q⟩ := h
   change H x=some (.ins a.bW dx (av "one" (.int o) (av "box" (.int b) []))) at hx
   obtain⟨⟨k1,k2⟩,⟨k3,k4⟩⟩:=hk;walk_at"h";have nd:=oa.nd;walk_at"v";symm;exact q
theorem zz (T:TX)(b c:Int):ME 3 a.cQ "keeps" (dF a (.put b c)):=by
 refine ay 2 T.jD T.CA qf ?_ ?_;ac_nf
 . obtain⟨x, s, z, rfl, ⟨dx, hx⟩, hk, z0, z1, hs, q⟩ := h
   change H x=some (.ins a.cQ dx (av "cell" (.int c) (av "box" (.int b) []))) at hx
   obtain⟨⟨k1,k2⟩,⟨k3,k4⟩⟩:=hk;have hh : ¬ z<=c:=λe=>by rw[show Rw.aB (.put b c) z=none from if_pos e] at hs;cases hs
   walk_at"h";have nd:=qf.nd;walk_at"v";symm;exact q
theorem AH (T:TX)(b c:Int):ME 3 a.cO "keeps" (dF a (.get b c)):=by
 refine ay 2 T.jT T.B9 oC ?_ ?_;ac_nf
 . obtain⟨x, s, z, rfl, ⟨dx, hx⟩, hk, z0, z1, hs, q⟩ := h
   change H x=some (.ins a.cO dx (av "cell" (.int c) (av "box" (.int b) []))) at hx
   obtain⟨⟨k1,k2⟩,⟨k3,k4⟩⟩:=hk;have hh : ¬ z<=c:=λe=>by rw[show Rw.aB (.get b c) z=none from if_pos e] at hs;cases hs
   walk_at"h";have nd:=oC.nd;walk_at"v";symm;exact q
theorem tV (T:TX):iR P w K mg base (eS P w) 3 "newest_caller" (Mq K a.dO):=by
 refine F8 2 T.sM fW ?_ ?_;ac_nf
 . obtain ⟨pe, pk, pp, at', ev, es, kn, pl, rfl, hpe, Tg, hk, hkn, SS, hpo, S9, q, hE⟩ := h;have hel:=Tg.1;have h8:=hkn.1;walk_at "h";have nd:=fW.nd;refine' aR ?_ ?_;walk_at "f";walk_at "y";walk_at "tT";walk_at "m";exact (kL (gE T) (hr.mono (by decide)) rfl (ah (pv 1) ax));exact cB;walk_at "n";walk_at "x";walk_at "tS";walk_at "n";walk_at "x";walk_at "tS";walk_at "n";walk_at "f";walk_at "y";walk_at "tT";walk_at "m";exact (kL (gE T) (hr.mono (by decide)) rfl (ah (pv 1) ax));exact cB;walk_at "n";walk_at "x";walk_at "tS";walk_at "n";walk_at "x";exact (fw (i:=7) fW.nd rfl rfl (own:=["places"]) (fr:=[("known",2),("piece",6)]) rfl ⟨rfl,(by walk_at "clok"),(by walk_at "frok"),rfl,(by nofun),(by nofun),rfl⟩ (dR (K:=K) rfl (be (gT T) (hr.mono (by decide)) bQ rfl (ah (pv 4) ax))) (λ_ _ _ _=>(bO (i:=0) (show aa6 [("places" : Str),("known" : Str),("piece" : Str)] from by nofun) rfl (Or.inl rfl))) (λ_ _ _ _=>c_) (λ_ _ _ _=>(be (AV T) (hr.mono (by decide)) bQ rfl (ah (pv 0) (ah (pv 1) (ah (pv 2) ax))))));walk_at "n";walk_at "f";walk_at "y";walk_at "tT";walk_at "m";exact (kL (gE T) (hr.mono (by decide)) rfl (ah (pv 1) ax));exact cB;walk_at "m";walk_at "x";walk_at "tS";walk_at "s";by_cases h0:at'<0
   . symm;refine⟨fk (by have:=S9.1;lia) (by have:=S9.2;lia),λd hd=>?_⟩;exact hE (by unfold ee;rw[if_neg (by lia)]) d _ (by walk_at"same") aa
   by_cases h1:(ev.length:Int)<=at'
   . symm;refine⟨fk (by have:=S9.1;lia) (by have:=S9.2;lia),λd hd=>?_⟩;exact hE (by unfold ee;rw[if_neg (by lia)]) d _ (by walk_at"same") aa
   have hi:at'.toNat<es.length:=by lia
   obtain⟨v,e1,e2⟩:=Tg.2 at'.toNat _ (aaa hi);have Tx:b_ ev at'=some v:=by
     rw[show at'=((at'.toNat:Nat):Int) from by lia];exact bw e1
   have S_:ee es at' kn pl=Gd es[at'.toNat] kn pl:=by
     unfold ee;rw[if_pos (by lia),aar,aaa hi];rfl
   rw[S_] at q hE;generalize es[at'.toNat]=oe at e2 q hE;clear S_;cases oe with
   | none =>
     cases e2
     symm;refine⟨fk (by have:=S9.1;lia) (by have:=S9.2;lia),λd hd=>?_⟩;exact hE rfl d _ (by walk_at"same") aa
   | some e =>
     obtain⟨p,rfl,⟨qe,he1,he2⟩⟩:=e2;have hup:Gd (some e) kn pl=if 0<=e.h/\e.h<=pl.length then gM e kn pl else none:=rfl;rw[hup] at q hE;by_cases h2 : 0<=e.h/\e.h<=pl.length
     . rw [if_pos h2] at q hE;symm;rename_i lp hlp;rw [Fw pl (by lia) (by lia)];refine ⟨p,e,rfl,⟨qe,by walk_at "sqt",by walk_at "sqt"⟩,λt ht=>?_⟩;symm;refine xk (λs=>br s kn (pl.drop ((pl.length:Int) - e.h).toNat)) (λZ=>∃ v,Z = [v,some (.ref pk),some (.ref lp)]) (aJ.of aa) (by show 4<=aal;decide) ⟨_,rfl⟩ ?_ ?_
       . rintro i x ys Z H1 hx cc ss ⟨v,rfl⟩;symm;refine Mo (by walk_at"sql") h8 (by walk_at"sql") (λz=>FG z) ?_;exact cc.next hx rfl (by walk_at"same") ⟨_,rfl⟩
       intro H3 s5 f hf;rw[show e.dJ.map (λs=>br s kn (pl.drop ((pl.length:Int) - e.h).toNat))=[br e.b kn (pl.drop ((pl.length:Int) - e.h).toNat),br e.v4 kn (pl.drop ((pl.length:Int) - e.h).toNat),br e.v5 kn (pl.drop ((pl.length:Int) - e.h).toNat),br e.v6 kn (pl.drop ((pl.length:Int) - e.h).toNat)] from rfl];have o1:=gb (s:=e.b) hkn (hpo.drop ((pl.length:Int) - e.h).toNat);have o2:=gb (s:=e.v4) hkn (hpo.drop ((pl.length:Int) - e.h).toNat);have o3:=gb (s:=e.v5) hkn (hpo.drop ((pl.length:Int) - e.h).toNat);have o4:=gb (s:=e.v6) hkn (hpo.drop ((pl.length:Int) - e.h).toNat);symm
       with_reducible refine(?_:pD _ _ _ _ _ _)
       refine Kp (aq.of aa) rfl (Fq o1 o2 o3 o4) ?_;rw[if_neg aan];rcases CU o1 o2 o3 o4 with ⟨WE,Vz⟩ | ⟨WE,r,a1,b1,c1,g1,g2,g3,g4,_⟩
       . rw[WE];symm;refine⟨fk (by have:=S9.1;lia) (by have:=S9.2;lia),λd hd=>?_⟩;exact hE (AO Vz) d _ (by walk_at"same") aa
       . rw[WE,g1,g2,g3,g4];symm;rename_i t2 UI t3 ht3;exact q _ _ _ (AI g1 g2 g3 g4) (by walk_at"same") ⟨t3,t2,rfl,by rw[aa],aj aa ht3⟩
     . rw[if_neg h2] at q hE;by_cases h3:(pl.length:Int) - e.h<0
       . symm;refine⟨fk (by have:=S9.1;lia) (by have:=S9.2;lia),λd hd=>?_⟩;exact hE rfl d _ (by walk_at"same") aa
       . symm;refine⟨fk (by have:=S9.1;lia) (by have:=S9.2;lia),λd hd=>?_⟩;exact hE rfl d _ (by walk_at"same") aa
theorem B6 (T:TX):KE 3 "Machine" a.aw (mf a)/\JV P w K mg base bJ 3 "Machine" a.aw (.int 0) (mf a):=by
 refine LL 2 T.F4 T.Gu kS ?_ ?_;ac_nf
 . obtain ⟨x, dx, c, t, b, dt, l, d, start, prs, rs, bs, es, kvs, rfl, hx, hc, Te, hpx, ht, htx, hl, hd, hb, h7, hm, q⟩ := h;have cx:c≠x:=λz=>by rw [z,hx] at hc;cases hc
   have bx:b≠x:=λz=>by rw[z,hx] at hb;cases hb
   have lx:l≠x:=λz=>by rw[z,hx] at hl;cases hl
   have ddx:d≠x:=λz=>by rw[z,hx] at hd;cases hd
   have SO:=Te.1;unfold fU at ht;walk_at"h";have nd:=kS.nd;walk_at"v";symm;rename_i pc hpc;have npx:pc≠x:=(af hx hpc).symm;intro xt dxt VV UN nne;refine' DT (kvs:=kvs) (xs:=es) VV UN ?h1 ?h2 ?q;(case h1=>exact aq.of (cf lx (aj hl hpc)))
   (case h2=>exact .inr ⟨d,rfl,cf ddx (aj hd hpc)⟩)
   (case q =>
     intro l2 dk2 H2 s2 nl2 nd2 n12 nxl nxd hxt Vp Uu;refine⟨rfl,?_⟩;have e1:H2 x=some (.ins a.aw dx (av "code" (.ref pc) [])):=s2 _ _ aa;have e2:H2 pc=some (.lst (prs.map V.ref)):=s2 _ _ (cf npx aa);have kp:∀ b o,H b=some o->b≠x->H2 b=some o:=λb o e ne=>s2 _ _ (by rw[ai ne,ai (af e hpc)];exact e);have fr:∀ q,H2 q=none->H q=none:=λq e=>by
       cases h:H q with
       | none=>rfl
       | some o =>
         by_cases z:q=x
         . rw[z,e1] at e;cases e
         . rw[kp q o h z] at e;cases e
     have eb:H2 b=some (.lst (bs.map V.int)):=kp _ _ hb bx;have h7b:∀ y:Int,(bs++[y]).length=8:=λy=>by rw[aab,h7];rfl
     have qx1:x≠xt:=af aa VV;have qx2:=qx1.symm;have ql1:x≠l2:=af aa nl2;have ql2:=ql1.symm;have fl2:H l2=none:=(bq (bq nl2).1).1;have fd2:H dk2=none:=(bq (bq nd2).1).1;have qd1:x≠dk2:=af aa nd2;have qd2:=qd1.symm;clear s2 nl2 nd2 VV UN nne hx hc hb hl hd ht;symm;generalize hH:((abC V.ref prs).length:Int)=aU at *;have hH':aU=rs.length:=by rw[<- hH,aac,SO]
     subst hH';generalize hL:abC V.int bs++[V.int (rs.length:Int)]=L at *;have hL':L=(bs++[(rs.length:Int)]).map V.int:=by rw[<- hL,aaF];rfl
     subst hL';clear hL;symm;rename_i lb lh ph pl nlb VM nph npl kt nkt t2 nt2 pk npk;refine aK aa (by walk_at"nolk") ((cT T).mono (by decide)) ?_;symm;refine⟨x,dx,_,(rs.length:Int),start,rfl,aa,by walk_at"lk",?_⟩;symm;have Wm:∀ {y:Addr},H2 y=none->H y=none/\y≠x/\y≠pc:=λ{y} e=>⟨fr y e,(λz=>by rw[z,e1] at e;cases e),(λz=>by rw[z,e2] at e;cases e)⟩;have d1:H2 ph=none:=by have h:=nph;(repeat replace h:=gk h);exact h
     have d2:H2 pl=none:=by have h:=npl;(repeat replace h:=gk h);exact h
     have d3:H2 kt=none:=by have h:=nkt;(repeat replace h:=gk h);exact h
     have d4:H2 t2=none:=by have h:=nt2;(repeat replace h:=gk h);exact h
     have d5:H2 pk=none:=by have h:=npk;(repeat replace h:=gk h);exact h
     obtain⟨g1,i1,j1⟩:=Wm d1;obtain⟨g2,i2,j2⟩:=Wm d2;obtain⟨g3,i3,j3⟩:=Wm d3;obtain⟨g4,i4,j4⟩:=Wm d4;obtain⟨g5,i5,j5⟩:=Wm d5;have key:∀ HF:Hp,(∀ b o,H b=some o->b≠x->HF b=some o)->gr a HF x pk dx pc xt ph pl (av "state" (.str (aE rs.length start)) (av "dropped" .aA (av "calls" (.ref pk) (av "cells" (.ref pl) (av "held" (.ref ph) (av "coming" (.int start) (av "home" (.int (rs.length:Int)) (av "table" (.ref xt) (av "code" (.ref pc) []))))))))) prs [.ref t2] (ij rs bs start)->Ac a H HF xt pk es kvs->Q .aA HF:=λHF k M TT=>q pk pc xt ph pl _ [.ref t2] HF g5 hpc g1 g2 k M TT;refine' key _ (λb o e ne=>?kf) ⟨aa,MF.start pc xt ph pl pk _ _ _,by walk_at"L",Te.to (λp hp o e=>by (have e3:=kp p o e (hpx p hp));(have ne:=hpx p hp);walk_at"L"),by walk_at"L",by walk_at"L",by walk_at"L",⟨rfl,λi v c ev ec=>?_⟩,j5,?_,?_,hpx⟩ ⟨dxt,l2,dk2,(show _=some (HO.ins a.bZ dxt (av "landings" (.ref dk2) (av "entries" (.ref l2) []))) from by walk_at"L"),by walk_at"L",by walk_at"L",af Vp d5,fl2,fd2⟩
     . have e3 := kp b o e ne
       walk_at"L"
     . cases i with
       | zero =>
         cases ev
         cases ec
         exact⟨t2,kt,rfl,by walk_at"L",by walk_at"L"⟩
       | succ i=>simp at ev
     . exact(af (show _=some (HO.lst ((bs++[(rs.length:Int)]).map V.int)) from by walk_at"L") npk).symm
     . exact(af (show _=some (HO.lst []) from by walk_at"L") npk).symm)
theorem CB (T:TX):JV P w K mg base bJ 3 "Machine" a.aw (.int 0) (mf a):=(B6 T).2
theorem yB (T:TX):ME 3 a.aw "do" (QZ a):=by
 refine ay 2 T.cb T.Ap nQ ?_ ?_;ac_nf
 . obtain ⟨m, p, pk, pt, r, S, rfl, ⟨dx, pc, ph, pl, fs, prs, cs, M⟩, O, ⟨dxr, S4⟩, TU, Us, pm, SV, TF, q⟩ := h;have f1:=M.f.ar;have f2:=M.f.held;have f3:=M.f.cells;have f4:=M.f.calls;have f5:=M.f.aU;have fl:=M.f.len;have fn:=M.f.no;have hm:=M.hm;have hh:=M.hh;have hl:=M.hl;have hk:=M.hk;have h8:=O.h8;have hcs:cs.length<=50000:=by rw [M.calls.1];exact TF
   have x1:=M.QP;have x2:=M.QD;have x3:=M.QB;have x4:=M.n2;have x5:=M.n3;have x6:p≠pk:=λz=>by rw[z,hk] at S4;cases S4
   obtain⟨rok,rh0⟩:=O.ok r TU;have rh:=rh0 Us;walk_at"h";have nd:=nQ.nd;walk_at"v";symm;refine aK S4 (GV _) ((CF T rh).mono (by decide)) ?_;symm;refine⟨p,ph,pl,_,_,_,rfl,⟨dxr,S4⟩,rok,aq.of hh,O.h8,O.hv,aq.of hl,O.cl,?_⟩;unfold MS.bf at q;cases S7:r.run S.ar S.held S.cells with
   | none =>
     rw[S7] at q;intro H1 s1;have Tf:=s1 _ _ hm;symm;exact q _ (aN.nh (aN.of_same s1)) (M.qL s1 _)
   | some tt =>
     obtain⟨n,bs,pp⟩:=tt;rw[S7] at q;dsimp only at q;intro t b' p' H1 s1 nt nb np e1 e2 e3 ht hb hp;have Tf:=s1 _ _ hm;have hrow1:=s1 _ _ S4;have hk1:=s1 _ _ hk;have hh1:=s1 _ _ hh;have VB:=s1 _ _ hl;have y1:pk≠b':=af hk nb;have y2:pk≠p':=af hk np;symm;refine aK Tf (fn _ (by nofun)) ((cT T).mono (by decide)) ?_;symm;refine⟨m,dx,fs,_,n,rfl,Tf,f5,?_⟩;by_cases hw:V.str (aE S.rows.length n)=V.str "fault"
     . have hw' : aE S.rows.length n = "fault" := by injection hw
       rw[if_pos hw'] at q;symm;exact q _ (aN.nh (aN.of_same s1)) (M.qL s1 _)
     . have hw' : ¬ aE S.rows.length n = "fault" := λz => hw (by rw [z]);rw [if_neg hw'] at q;unfold MS.me at q;symm;obtain ⟨t1,ty1,_,kc,kb⟩:=v_ T rh ⟨dxr,hrow1⟩
       with_reducible refine(?_:iW _ _ _ _)
       refine eY (λz=>by cases z) ty1 kc ?_;cases hC:r.isCall with
       | true =>
         have hB:r.eu=false:=by cases r <;> first | rfl | cases hC
         rw[hC] at q;symm;rename_i k2 TQ t2 UI;have nk2:=bq UI;obtain⟨t3,ty3,_,_,kb3⟩:=v_ T rh (H:=upd (upd (upd H1 k2 (.tup [.int (gI S.held 4),.int (gI S.held 5),.int (gI S.held 6)])) t2 (.tup [.int (S.ar+1),.ref k2,.int (S.cells.length:Int)])) pk (.lst (cs++[.ref t2]))) ⟨dxr,by bv_omega⟩
         with_reducible refine(?_:iW _ _ _ _)
         refine eY (λz=>by cases z) ty3 kb3 ?_;rw[hB];symm;refine aK (by walk_at"hlk") (fn _ (by nofun)) ((eN T).mono (by decide)) ?_;symm;refine⟨m,dx,pc,pt,ph,pl,pk,b',p',fs,_,_,n,_,_,rfl,by bv_omega,M.f,λUW F'=>?_⟩;symm;have z1:t2≠pk:=(af hk1 nk2.1).symm;have z2:k2≠pk:=(af hk1 TQ).symm;have sm:ak H1 (upd (upd H1 k2 (.tup [.int (gI S.held 4),.int (gI S.held 5),.int (gI S.held 6)])) t2 (.tup [.int (S.ar+1),.ref k2,.int (S.cells.length:Int)])):=(ae TQ).trans (ae UI);refine q _ (aN.nh (aN.HK (aN.of_same (s1.trans sm)))) ⟨dx,pc,b',p',UW,prs,cs++[.ref t2],?_⟩;refine M.wm (calls':=S.calls++[(S.ar+1,gI S.held 4,gI S.held 5,gI S.held 6,(S.cells.length:Int))]) (aN.HK (aN.of_same (s1.trans sm))) (by walk_at"hlk") (by walk_at"hlk") (by walk_at"hlk") aa (ClsAt.snoc ?_ ⟨t2,k2,rfl,?_,?_⟩) y1 y2 F'
         . exact M.clsAt (aN.HK (aN.of_same (s1.trans sm)))
         . rw[ai z1,aa]
         . rw[ai z2,ai nk2.2.symm,aa]
       | false =>
         rw[hC] at q;symm
         with_reducible refine(?_:iW _ _ _ _)
         refine eY (λz=>by cases z) ty1 kb ?_;cases hB:r.eu with
         | true =>
           rw[hB] at q;symm;refine aK Tf (fn _ (by nofun)) ((i_ T).mono (by decide)) ?_;symm;refine⟨m,dx,pk,fs,1,cs,rfl,Tf,f4,hk1,by decide,by omega,λH2 TQ UH=>?_⟩;have W4:H2 m=some (.ins a.aw dx fs):=by rw[UH m x1.symm];exact Tf
           have UI:H2 t=some (.tup [.int n,.ref b',.ref p']):=by rw[UH t (af hk nt).symm];exact ht
           have kp2:aN m pk H H2:=λb o e n1 n2=>by rw[UH b n2];exact s1 b o e
           symm;refine aK W4 (fn _ (by nofun)) ((eN T).mono (by decide)) ?_;symm;refine⟨m,dx,pc,pt,ph,pl,pk,b',p',fs,_,_,n,_,_,rfl,W4,M.f,λUW F'=>?_⟩;symm;refine q _ (aN.nh kp2) ⟨dx,pc,b',p',UW,prs,cs.take (cs.length - 1),?_⟩;refine M.wm (calls':=S.calls.take (S.calls.length - 1)) kp2 W4 (by rw[UH b' y1.symm];exact hb) (by rw[UH p' y2.symm];exact hp) TQ ?_ y1 y2 F';rw[M.calls.1];exact(M.clsAt kp2).take _
         | false =>
           rw[hB] at q;symm;refine aK Tf (fn _ (by nofun)) ((eN T).mono (by decide)) ?_;symm;refine⟨m,dx,pc,pt,ph,pl,pk,b',p',fs,_,_,n,_,_,rfl,Tf,M.f,λUW F'=>?_⟩;symm;refine q _ (aN.nh (aN.of_same s1)) ⟨dx,pc,b',p',UW,prs,cs,?_⟩;exact M.wm (calls':=S.calls) (aN.of_same s1) Tf hb hp hk1 (M.clsAt (aN.of_same s1)) y1 y2 F'
theorem Qk {bs:List Int}(h:bs.length=8):cu bs (some 1) (some 4)=[gI bs 1,gI bs 2,gI bs 3]:=by
 match bs,h with | [x0,x1,x2,x3,x4,x5,x6,x7],_=>rfl
theorem Gq {H8 HX:Hp}{R:Hp->Prop}{b:Addr}(h:ak H8 HX)(hb:HX b=some (.lst xs))(k:∀ H9,ak H8 H9->H9 b=some (.lst xs)->R H9):R HX:=k HX h hb
theorem uz (T:TX):ME 3 a.aw "land" (OG K a):=by
 refine ay 2 T.cb T.wB gH ?_ ?_;ac_nf
 . obtain⟨m, pk, pt, t, v, n, k, c, S, es, kvs, rfl, MM, O, ⟨ev, TI, EV⟩, VI, VQ, TF, hval, q⟩ := h;obtain⟨dx,pc,ph,pl,fs,prs,cs,M⟩:=id MM;have ptm:=TI.ne M.hm M.f.code;obtain⟨dt,l,d,ht,hl,hd,W6⟩:=TI;unfold fU at ht;obtain⟨t',q',et,UT,W0⟩:=VI;cases et
   have f1:=M.f.ar;have f2:=M.f.held;have f3:=M.f.cells;have f4:=M.f.calls;have f5:=M.f.aU;have f6:=M.f.table;have fl:=M.f.len;have fn:=M.f.no;have hm:=M.hm;have hh:=M.hh;have S6:=M.hl;have hk:=M.hk;have h8:=O.h8;have hcs:cs.length<=50000:=by rw[M.calls.1];exact TF
   have x1:=M.QP;have x2:=M.QD;have x3:=M.QB;have x4:=M.n2;have x5:=M.n3;unfold MS.landed at q;walk_at"h";have nd:=gH.nd;refine' aR ?_ ?_;exact(c8 (i:=4) gH.nd rfl (Or.inl rfl) (qF (iC hr) (cN (K:=K) rfl (cN (K:=K) rfl (pv 0))) (cF jQ (bV (cS (K:=K) rfl) (pv 2) aL (λ_ _=>rfl)) aL) (λ_ _=>rfl)));walk_at"c";walk_at"c";walk_at"c";walk_at"m";walk_at"tS";walk_at"s";symm;refine uZ ?_;symm;have dg:=fY.k (k:=.inl (c.r - 1)) hd;rw[hval] at dg;refine⟨d,_,rfl,dg,?_⟩;symm;refine aK hm (fn _ (by nofun)) ((cT T).mono (by decide)) ?_;symm;refine⟨m,dx,fs,_,n,rfl,hm,f5,?_⟩;by_cases hw:V.str (aE S.rows.length n)=V.str "fault"
   . have hw' : aE S.rows.length n = "fault" := by injection hw
     rw[if_pos hw'] at q;symm;exact q _ (aN.nh aN.refl) (M.qL (ak.refl _) _)
   . have hw' : ¬ aE S.rows.length n = "fault" := λz => hw (by rw [z]);rw [if_neg hw'] at q;symm;refine aK hm (fn _ (by nofun)) ((i_ T).mono (by decide)) ?_;symm;refine ⟨m,dx,pk,fs,(k:Int),cs,rfl,hm,f4,hk,by lia,by lia,λH2 TQ UH=>?_⟩;have W4:H2 m=some (.ins a.aw dx fs):=by rw [UH m x1.symm];exact hm
     have W9:H2 ph=some (.lst (S.held.map V.int)):=by rw[UH ph x4.symm];exact hh
     have Vp:H2 pl=some (.lst (S.cells.map V.int)):=by rw[UH pl x5.symm];exact S6
     have hq12:H2 t=some (.tup [.int c.r,.ref q',.int c.n]):=by rw[UH t (λz=>by rw[z,hk] at UT;cases UT)];exact UT
     have hq22:H2 q'=some (.tup [.int c.a,.int c.b,.int c.c]):=by rw[UH q' (λz=>by rw[z,hk] at W0;cases W0)];exact W0
     have kp2:aN m pk H H2:=λb o e n1 n2=>by rw[UH b n2];exact e
     symm;rw[Qk h8];symm;rename_i e1 z1 e2 z2 e3 z3 e4 z4 e5 z5 e6 z6 bx zb;rw[aaE] at TQ;have nb:H2 bx=none:=by have h:=zb;(repeat replace h:=gk h);exact h
     have y1:pk≠bx:=af TQ nb;refine Gq (H8:=H2) (b:=bx) (R:=λHx=>Eg _ _ _ _ _ _ _ _ _ _ _ _ Hx _) (by walk_at"same") aa (λH9 s9 hbx=>?_);clear z1 z2 z3 z4 z5 z6 zb;have hm9:=s9 _ _ W4;have hk9:=s9 _ _ TQ;have hl9:=s9 _ _ Vp;have hq9:=s9 _ _ hq12;refine aK hm9 (fn _ (by nofun)) ((eN T).mono (by decide)) ?_;symm;rename_i px zx;rw[gh _ VQ];refine⟨m,dx,pc,pt,ph,pl,pk,bx,px,fs,_,_,n,_,_,rfl,by bv_omega,M.f,λUW F'=>?_⟩;symm;have y2:pk≠px:=af hk9 zx;have kp9:aN m pk H (upd H9 px (.lst ((S.cells.take c.n.toNat).map V.int))):=kp2.trans (aN.of_same (s9.trans (ae zx)));refine q _ (aN.nh kp9) ⟨dx,pc,bx,px,UW,prs,cs.take (cs.length - k),?_⟩;refine M.wm (bs:=[v,gI S.held 1,gI S.held 2,gI S.held 3,c.a,c.b,c.c,gI S.held 7]) (pp:=S.cells.take c.n.toNat) (calls':=S.calls.take (S.calls.length - k)) kp9 (aj hm9 zx) (aj hbx zx) aa (aj hk9 zx) ?_ y1 y2 F';rw[M.calls.1];exact(M.clsAt kp9).take _
theorem tP (T:TX):FE 3 "own_complaint" (NR K a):=by
 refine a_ 2 T.sL jN ?_ ?_;ac_nf
 . obtain⟨x, p, r, e, rfl, ⟨dx, hx⟩, ok, hh, he, q⟩ := h;obtain⟨qe,h1,h2⟩:=id he;walk_at"h";have nd:=jN.nd;walk_at"v";symm;refine⟨p,e,rfl,he,λH1 s1=>?_⟩;have Vy:=s1 _ _ hx;have h11:=cK s1 h1;have he1:=he.same s1;unfold d9 at q;cases hw:dz e with
   | true =>
     rw[hw,if_pos rfl] at q;symm;exact q _ s1
   | false =>
     rw[hw,if_neg (by decide)] at q;symm;refine aK Vy (lC _) ((iU T hh).mono (by decide)) ?_;symm;refine⟨x,e.h,rfl,⟨dx,Vy⟩,?_⟩;symm;cases hg:r.aB e.h with
     | none =>
       rw[hg,if_pos rfl] at q;show pQ V.aA V.aA _ _;symm;exact q _ s1
     | some z =>
       rw[hg,if_neg (λz=>by cases z)] at q;show pQ (V.int z) V.aA _ _;symm;obtain⟨t',ty,kc,kb⟩:=lG T hh ⟨dx,Vy⟩;cases r with
       | back b =>
         with_reducible refine(?_:iW _ _ _ _)
         refine eY (b:=true) (λz=>by cases z) ty kb ?_;symm;refine⟨x,p,b,e,rfl,⟨dx,Vy⟩,ok.1,ok.2,he1,λH2 s2=>?_⟩;have q:∀ H',ak H H'->Q (oV (if jv b e=true then none else some .back)) H':=q;cases hm:jv b e with
         | true =>
           rw[hm] at q;symm;exact q _ (s1.trans s2)
         | false =>
           rw[hm] at q;symm;exact q _ (s1.trans s2)
       | _ =>
         with_reducible refine(?_:iW _ _ _ _)
         refine eY (b:=false) (λz=>by cases z) ty kb ?_;symm;exact q _ s1
theorem CC (T:TX):FE 3 "_law_code" (GP K 450):=by
 refine a_ 2 T.Cc su ?_ ?_;ac_nf
 . obtain ⟨a0, ns, rfl, hS, h63, q⟩ := h;walk_at "h";have nd:=su.nd;refine' aR ?_ ?_;walk_at "tS";walk_at "c";walk_at "c";walk_at "c";walk_at "n";walk_at "g";walk_at "tI";walk_at "tG";walk_at "c";walk_at "c";walk_at "n";walk_at "g";walk_at "tI";walk_at "tG";walk_at "c";walk_at "m";walk_at "f";walk_at "tT";walk_at "m";exact (wN (iC hr) (pv 4) (cF (dG (K:=K) rfl) (cJ (eG (K:=K) rfl) rfl T.jb je (ah (pv 2) ax)) (pv 8)) (bV (cS (K:=K) rfl) (mI (ah aL (ah (cF (dG (K:=K) rfl) (cF (dG (K:=K) rfl) (cJ (eG (K:=K) rfl) rfl T.jb je (ah (pv 2) ax)) (pv 8)) aL) (ah (pv 7) (ah (pv 7) ax))))) (pv 9) (λ_ _=>rfl)) rfl);exact cB;exact λ_=>rfl;walk_at "m";walk_at "tS";exact λ_=>rfl;walk_at "c";walk_at "c";walk_at "m";walk_at "tS";walk_at "s";have hm0 : 1<=1+cellAt ns 0%3/\1+cellAt ns 0%3<=3:=⟨by lia,by lia⟩
   symm;generalize 1+cellAt ns 0%3=m at hm0 ⊢;rename_i lr0 V8 ls Vw d nd;refine iP (λi Z HD=>∃ (lr:Addr) (us:List V) (ts:List Int) (lns:List (Int×Int)) (v5 v6 v7 v8 v9:Option V),Z = [some (V.ref a0),some (V.int m),some (V.ref lr),some (V.ref ls),some (V.ref d),v5,v6,v7,v8,v9,none,none]/\ak H HD/\lr≠ls/\HD lr=some (.lst us)/\HD ls=some (.lst (ts.map V.int))/\HD d=some (.dK (au lns))/\dN lns/\lns.length<=21*i/\us.length<=21*i/\i<=us.length/\ts.length=i/\(∀ t∈ts,0<=t/\t<=63)/\aZ fM HD us) ⟨lr0,[],[],[],_,_,_,_,_,rfl,((ae V8).trans (ae Vw)).trans (ae nd),(λz=>by rw[<- z,aa] at Vw;cases Vw),aj (aj aa Vw) nd,aj aa nd,aa,⟨adz,by decide,λp hp=>by cases hp⟩,aah _,aah _,aah _,rfl,λ_ z=>(by cases z),aZ.nil⟩ ?_ ?_
   . rintro i Z HD hi ⟨lr,us,ts,lns,v5,v6,v7,v8,v9,rfl,sD,Ui,VA,S6,hd,WB,hln,Vo,hui,htl,htb,To⟩;symm;have nls0:H ls=none:=aF (ae V8) Vw;have sE:ak H (upd HD ls (.lst (abC V.int ts++[V.int us.length]))):=bK sD nls0;have hlrE:(upd HD ls (.lst (abC V.int ts++[V.int us.length]))) lr=some (.lst us):=by rw [ai Ui];exact VA
     have hlsE:(upd HD ls (.lst (abC V.int ts++[V.int us.length]))) ls=some (.lst ((ts++[(us.length:Int)]).map V.int)):=by rw[aa,aaF];rfl
     have hdE:(upd HD ls (.lst (abC V.int ts++[V.int us.length]))) d=some (.dK (au lns)):=by rw[ai (λz=>by rw[z,S6] at hd;cases hd)];exact hd
     have tdE:=To.off (o:=.lst (abC V.int ts++[V.int us.length])) S6;generalize upd HD ls (HO.lst (abC V.int ts++[V.int us.length]))=HE at sE hlrE hlsE hdE tdE ⊢;have hSE:=aT sE hS;clear sD VA S6 hd To;have TF:(cu ns (some (13+6*(0+(i:Int)))) (some (18+6*(0+(i:Int))))).length<=5:=by
       rw[show 18+6*(0+(i:Int))=13+6*(0+(i:Int))+5 from by lia];exact BA ns (by lia) (by decide)
     symm;rename_i lx Vh;refine⟨lx,_,_,_,rfl,aq.of aa,by lia,by lia,by lia,λtq lq uq e HG sG htq hlq UT W0 tdq e0 e1=>?_⟩;have sX:=(ae Vh (o:=.lst ((cu ns (some (13+6*(0+(i:Int)))) (some (18+6*(0+(i:Int))))).map V.int))).trans sG;have hlrG:=sX _ _ hlrE;have hlsG:=sX _ _ hlsE;have hdG:=sX _ _ hdE;have tdG:=tdE.same sX;have hSG:=aT sX hSE;have sH:=sE.trans sX;have huq:uq.length<=21:=by lia
     have he : 0<=e/\e<=1000:=⟨e0,e1⟩
     clear sX sG sE hlrE hlsE hdE tdE hSE Vh W0 TF e0 e1;symm;have nd0:H d=none:=aF ((ae V8).trans (ae Vw)) nd;refine iP (λj Z HI=>∃ (Va:List (Int×Int)) (v8 v9:Option V),Z = [some (V.ref a0),some (V.int m),some (V.ref lr),some (V.ref ls),some (V.ref d),some (V.int (0+(i:Int))),some (V.ref lq),some (V.int e),v8,v9,none,none]/\ak H HI/\HI lr=some (.lst us)/\HI ls=some (.lst ((ts++[(us.length:Int)]).map V.int))/\HI lq=some (.lst uq)/\HI d=some (.dK (au Va))/\dN Va/\Va.length<=21*i+j/\aZ fM HI us/\aZ fM HI uq) ⟨lns,_,_,rfl,sH,hlrG,hlsG,hlq,hdG,WB,hln,tdG,tdq⟩ ?_ ?_
     . clear sH hlrG hlsG hlq hdG WB hln tdG tdq htq hSG;rintro j Z HI hj ⟨ln2,v8,v9,rfl,sI,hlrI,hlsI,hlqI,hdI,hlgI,hlnI,tdI,tqI⟩;have hSI:=aT sI hS;have cd:HL (cellAt ns (30+(0+(i:Int)))) (1+5*(0+(j:Int))):=⟨by lia,by lia⟩
       symm;refine⟨_,_,rfl,rfl,cd,?_⟩;symm;refine xa hlqI tqI (by lia) (by lia) λu r ⟨p,hup,hp⟩ ho=>?_;subst hup;symm;refine uF (aJ.of hp) (v:=.str r.ei.1) (show b_ (V.str r.ei.1::r.ei.2.map V.int) ((0:Nat):Int)=_ from bw rfl) ?_;symm;have hw : 0<=cellAt ns (30+(0+(i:Int)))/(1+5*(0+(j:Int)))%4/\cellAt ns (30+(0+(i:Int)))/(1+5*(0+(j:Int)))%4<4:=⟨by lia,by lia⟩
       generalize cellAt ns (30+(0+(i:Int)))/(1+5*(0+(j:Int)))%4=way at hw ⊢;have same:∃ (Va:List (Int×Int)) (v8 v9:Option V),[some (V.ref a0),some (V.int m),some (V.ref lr),some (V.ref ls),some (V.ref d),some (V.int (0+(i:Int))),some (V.ref lq),some (V.int e),some (V.int (0+(j:Int))),some (V.int way),none,none]=[some (V.ref a0),some (V.int m),some (V.ref lr),some (V.ref ls),some (V.ref d),some (V.int (0+(i:Int))),some (V.ref lq),some (V.int e),v8,v9,none,none]/\ak H HI/\HI lr=some (.lst us)/\HI ls=some (.lst ((ts++[(us.length:Int)]).map V.int))/\HI lq=some (.lst uq)/\HI d=some (.dK (au Va))/\dN Va/\Va.length<=21*i+(j+1)/\aZ fM HI us/\aZ fM HI uq:=⟨ln2,_,_,rfl,sI,hlrI,hlsI,hlqI,hdI,hlgI,by lia,tdI,tqI⟩
       refine cW (λhc=>?_) (λhc=>?_)
       . symm;refine cW (λhw1=>?_) (λhw1=>?_)
         . obtain⟨tv, htv, hatv⟩ := eL (ns := [0, (us.length : Int) + (0 + (j : Int)) + 1, e, e]) (i := way) hw.1 hw.2;have hatv:b_ [V.int 0,V.int ((us.length:Int)+(0+(j:Int))+1),V.int e,V.int e] way=some (V.int tv):=hatv;have htv2 : -10000<=tv/\tv<=10000:=by
             clear same;simp only[aaQ,aaR,or_false] at htv
             lia
           clear same;symm;rename_i l9 n9;obtain⟨V0,e',L',n'⟩:=Lo (c:=(us.length:Int)+(0+(j:Int))) (r:=tv) hlgI (by lia) htv2.1 htv2.2;have hd9:(upd HI l9 (.lst [V.int 0,V.int ((us.length:Int)+(0+(j:Int))+1),V.int e,V.int e])) d=some (.dK (au ln2)):=aj hdI n9;refine jj hd9 (by unfold au;rw[aac,aaI];lia) ?_;rw[e'];exact⟨V0,_,_,rfl,bK (sI.trans (ae n9)) nd0,pX (aj hlrI n9) hd9,pX (aj hlsI n9) hd9,pX (aj hlqI n9) hd9,aa,L',by lia,(tdI.same (ae n9)).NZ hd9,(tqI.same (ae n9)).NZ hd9⟩
         . symm;exact same
       . symm;exact same
     . clear sH hlrG hlsG hlq hdG WB hln tdG tdq htq hSG;rintro Z HI ⟨ln2,v8,v9,rfl,sI,hlrI,hlsI,hlqI,hdI,hlgI,hlnI,tdI,tqI⟩;have hlnI:ln2.length<=21*i+uq.length:=hlnI;symm;rename_i l9 n9
       exact⟨l9, us ++ uq, ts ++ [(us.length : Int)], ln2, _, _, _, _, _, rfl, sI.trans (ae n9), (λz => by rw[z, hlsI] at n9; cases n9), aa, aj hlsI n9, aj hdI n9, hlgI, by lia, by rw[aab]; lia, by rw[aab]; lia, by rw[aab, htl]; rfl, λt ht => by
         rcases List.mem_append.mp ht with z | z
         . exact htb t z
         . rw[List.mem_singleton.mp z];lia,(tdI.app tqI).same (ae n9)⟩
   . rintro Z HD ⟨lr,us,ts,lns,v5,v6,v7,v8,v9,rfl,sD,Ui,VA,S6,hd,WB,hln,Vo,hui,htl,htb,To⟩;have hi3:m.toNat<=3:=by lia
     symm;rename_i lf Vj;have nls0:H ls=none:=aF (ae V8) Vw;have sE:=sD.trans (ae Vj (o:=.lst []));refine ff (K:=K) (a:=lr) (xs:=us) (λi Z HF=>∃ (uf:List V) (VS:Option V),Z = [some (V.ref a0),some (V.int m),some (V.ref lr),some (V.ref ls),some (V.ref d),v5,v6,v7,v8,v9,some (V.ref lf),VS]/\ak HD HF/\HF lf=some (.lst uf)/\uf.length=i/\aZ jV HF uf) ⟨[],_,rfl,ae Vj,aa,rfl,aZ.nil⟩ (λi Z HF _ ⟨_,_,_,s,_⟩=>aq.of (s _ _ VA)) ?_ ?_
     . rintro i x Z HF hx ⟨uf,VS,rfl,sF,U4,WG,tdf⟩;obtain⟨r,⟨p,rfl,hp⟩,hr⟩:=To x (aaj hx);have hi:=(List.getElem?_eq_some_iff.mp hx).1;have hpF:=sF _ _ hp;have hlsF:=sF _ _ S6;clear sE sD VA S6 hd hp;by_cases hc:(∃ t,r=.call t)∨∃ t,r=.dA t
       . obtain⟨t0, ht0⟩ : ∃ t, r = .call t ∨ r = .dA t := by
           rcases hc with ⟨t,e⟩ | ⟨t,e⟩
           . exact⟨t,.inl e⟩
           . exact⟨t,.inr e⟩
         have Tf : 0<m:=by lia
         have z0:=acN (-1 - t0) (show m≠0 by lia);have z1:=ace (-1 - t0) Tf;obtain⟨tv,htv,hatv⟩:=eL (ns:=ts) (i:=(-1 - t0)%m) z0 (by lia);have htv2:=htb tv htv;rcases ht0 with rfl | rfl
         . have hpF : HF p = some (.tup [.str "call", V.int t0]) := hpF;symm;refine d7 (aq.of aa) rfl rfl ?_;rw[show eF (V.str (aae "call")) [V.str (aae "call"),V.str (aae "jump")]=true from by nofun];symm;rename_i l9 n9 t9 nt9;have tZ:aZ jV (upd (upd (upd HF l9 (.lst [.str "call",.str "jump"])) t9 (.tup [.str "call",V.int tv])) lf (.lst (uf++[V.ref t9]))) (uf++[V.ref t9]):=((tdf.same ((ae n9).trans (ae nt9))).app (aZ.one (r:=.call tv) ⟨t9,rfl,aa⟩ (by walk_at"A"))).off (aj (aj U4 n9) nt9);exact⟨uf++[V.ref t9],_,rfl,bK (sF.trans ((ae n9).trans (ae nt9))) Vj,aa,by rw[aab,WG];rfl,tZ⟩
         . have hpF : HF p = some (.tup [.str "jump", V.int t0]) := hpF;symm;refine d7 (aq.of aa) rfl rfl ?_;rw[show eF (V.str (aae "jump")) [V.str (aae "call"),V.str (aae "jump")]=true from by nofun];symm;rename_i l9 n9 t9 nt9;have tZ:aZ jV (upd (upd (upd HF l9 (.lst [.str "call",.str "jump"])) t9 (.tup [.str "jump",V.int tv])) lf (.lst (uf++[V.ref t9]))) (uf++[V.ref t9]):=((tdf.same ((ae n9).trans (ae nt9))).app (aZ.one (r:=.dA tv) ⟨t9,rfl,aa⟩ (by walk_at"A"))).off (aj (aj U4 n9) nt9);exact⟨uf++[V.ref t9],_,rfl,bK (sF.trans ((ae n9).trans (ae nt9))) Vj,aa,by rw[aab,WG];rfl,tZ⟩
       . have WE : eF (V.str r.ei.1) [V.str (aae "call"), V.str (aae "jump")] = false := by
           cases r <;> first | exact absurd (.inl ⟨_,rfl⟩) hc | exact absurd (.inr ⟨_,rfl⟩) hc | (simp only[Rw.ei];nofun)
         have hokr:jV r:=by
           rcases hr with z | z | z
           . exact z
           . exact absurd (.inl z) hc
           . exact absurd (.inr z) hc
         symm;refine uF (aJ.of hpF) (v:=.str r.ei.1) (show b_ (V.str r.ei.1::r.ei.2.map V.int) ((0:Nat):Int)=_ from bw rfl) ?_;symm;refine d7 (aq.of aa) rfl rfl ?_;rw[WE];symm;rename_i l9 n9;exact⟨uf++[V.ref p],_,rfl,bK (sF.trans (ae n9)) Vj,aa,by rw[aab,WG];rfl,((tdf.same (ae n9)).app (aZ.one (r:=r) ⟨p,rfl,aj hpF n9⟩ hokr)).off (aj U4 n9)⟩
     . rintro Z HF ⟨uf,VS,rfl,sF,U4,WG,tdf⟩;have hdF:=sF _ _ hd;symm;rename_i tt Tv;exact q tt lf d uf lns _ ((sD.trans sF).trans (ae Tv)) aa (aF sD Vj) (aF ((ae V8).trans (ae Vw)) nd) (λz=>by rw[z,hdF] at U4;cases U4) (aj U4 Tv) (by lia) (by lia) (tdf.same (ae Tv)) (aj hdF Tv) WB
theorem yS (T:TX):FE 3 "_law_landed" (za a):=by
 refine a_ 2 T.yy om ?_ ?_;ac_nf
 . obtain⟨m, p, d0, lh, pk, pt, b, S, hs, us, ds, ls, rfl, MM, O, hp, UG, hu, VC, W7, h8, b0, b7, q0, q1, q⟩ := h;have SO:=UG.1;obtain⟨dx,pc,ph,pl,fs,prs,cs,M⟩:=id MM;have fn:=M.f.no;have hm:=M.hm;have f1:=M.f.ar;have f2:=M.f.held;have hh:=M.hh;have fst:=M.f.state;have f7:=M.f.cY;have hatb:b_ (hs.map V.int) b=some (.int (gI hs b)):=Eb b0 (by lia);have hat7:b_ (hs.map V.int) 7=some (.int (gI hs 7)):=Eb (by decide) (by lia);walk_at"h";have nd:=om.nd;refine' aR ?_ ?_;walk_at"tS";walk_at"c";walk_at"n";walk_at"f";exact(PW.pt (zc (dS (mE (K:=K) rfl hr.units) (gq (P:=P) (w:=w) (K:=K) (mg:=mg) (base:=base) (k:=1) ⟨rfl,rfl,rfl,rfl,rfl⟩ (pv 0) (hr.mono (by decide)) bQ) (qF (iC hr) (pv 2) (cF jQ (bV (cS (K:=K) rfl) (bV (cS (K:=K) rfl) (pv 1) (pv 5) (λ_ _=>rfl)) aL (λ_ _=>rfl)) aL) (λ_ _=>rfl)) (dI _)) (Bo (E4 (wU (K:=K) rfl (be (mD T) (hr.mono (by decide)) bQ rfl (ah (pv 0) (ah (bV (cS (K:=K) rfl) (pv 1) (pv 5) (λ_ _=>rfl)) ax))))))));walk_at"tB";exact cB;walk_at"c";walk_at"m";walk_at"tS";walk_at"s";symm;refine⟨p,d0,pk,us,ds,ls,rfl,hp,UG,hu,VC,?_⟩;cases hf:ds.findIdx? (kj ls) with
   | none =>
     obtain⟨e1,e2⟩:=q0 hf;rw[show iV ds ls = -1 from by unfold iV;rw[hf]];symm;refine aK hm (fn _ (by nofun)) ((dU T).mono (by decide)) ?_;symm;refine⟨m,dx,fs,_,rfl,hm,fst,?_⟩;rw[e1];symm;refine aK hm (fn _ (by nofun)) ((sP T).mono (by decide)) ?_;symm;refine⟨m,dx,fs,_,rfl,hm,f7,?_⟩;rw[e2];symm;rw[show decide (V.int (gI hs b)=V.int (gI hs b))=true from decide_eq_true rfl];exact q _ (ak.refl _)
   | some i =>
     obtain⟨d,hdi,hv,e1,e2,e3⟩:=q1 i hf;rw[show iV ds ls=(i:Int) from by unfold iV;rw[hf]];have hi:i<ds.length:=(List.getElem?_eq_some_iff.mp hdi).1;have hui:us[i]? = some us[i]:=aaa (by lia);have Tp:=UG.2 i _ d hui hdi;obtain⟨t,qq,pp,ex,h1,h2,h3,h4⟩:=id Tp;have Tx:b_ us (i:Int)=some (.ref t):=bw (by rw[hui,ex]);rw[ex] at Tp;clear hui ex q0 q1;obtain⟨x0,x1,x2,x3,x4,x5,x6,x7,e8⟩:∃ x0 x1 x2 x3 x4 x5 x6 x7,hs=[x0,x1,x2,x3,x4,x5,x6,x7]:=Jr h8;have hx7:gI hs 7=x7:=by rw[e8];rfl
     have hg0:b_ (S.held.map V.int) 0=some (.int (gI hs b)):=by rw[e2];rfl
     have hg7:b_ (S.held.map V.int) 7=some (.int (gI hs 7)):=by rw[e2];rfl
     have Vq:cu S.held (some 1) (some 4)=[gI hs 1,gI hs 2,gI hs 3]:=by rw[e2];rfl
     have hc2:cu hs (some 1) (some 4)=[gI hs 1,gI hs 2,gI hs 3]:=by rw[e8];rfl
     symm;refine aK hm (fn _ (by nofun)) ((eQ T).mono (by decide)) ?_;symm;refine⟨m,dx,fs,_,rfl,hm,f1,?_⟩;rw[e1];refine uZ ?_;symm;refine⟨d0,.int (lv ls (d.r - 1)),rfl,by have z:=fY.k (k:=.inl (d.r - 1)) VC;rw[hv] at z;exact z,?_⟩;symm;refine⟨m,t,pk,pt,S,d,rfl,MM,O,Tp,by rw[e2];rfl,by rw[e2];rfl,by rw[e2];rfl,e3,λH1 s1=>?_⟩;have Tf:=s1 _ _ hm;have hh1:=s1 _ _ hh;have VB:=s1 _ _ W7;symm;refine aK Tf (fn _ (by nofun)) ((fV T).mono (by decide)) ?_;symm;refine⟨m,dx,ph,fs,_,rfl,Tf,f2,hh1,λlb nlb=>?_⟩;symm;rename_i la nla lz Uo;rw[Vq] at Uo ⊢;rw[hc2];have s9:ak H1 (upd (upd (upd H1 lb (.lst (S.held.map V.int))) la (.lst ([gI hs 1,gI hs 2,gI hs 3].map V.int))) lz (.lst ([gI hs 1,gI hs 2,gI hs 3].map V.int))):=(ae nlb).trans ((ae nla).trans (ae Uo));have z1:upd (upd (upd H1 lb (.lst (S.held.map V.int))) la (.lst ([gI hs 1,gI hs 2,gI hs 3].map V.int))) lz (.lst ([gI hs 1,gI hs 2,gI hs 3].map V.int)) la=some (.lst ([gI hs 1,gI hs 2,gI hs 3].map V.int)):=aj aa Uo;have z2:upd (upd (upd H1 lb (.lst (S.held.map V.int))) la (.lst ([gI hs 1,gI hs 2,gI hs 3].map V.int))) lz (.lst ([gI hs 1,gI hs 2,gI hs 3].map V.int)) lz=some (.lst ([gI hs 1,gI hs 2,gI hs 3].map V.int)):=aa;have z3:upd (upd (upd H1 lb (.lst (S.held.map V.int))) la (.lst ([gI hs 1,gI hs 2,gI hs 3].map V.int))) lz (.lst ([gI hs 1,gI hs 2,gI hs 3].map V.int)) lb=some (.lst (S.held.map V.int)):=aj (aj aa nla) Uo;generalize upd (upd (upd H1 lb (.lst (S.held.map V.int))) la (.lst ([gI hs 1,gI hs 2,gI hs 3].map V.int))) lz (.lst ([gI hs 1,gI hs 2,gI hs 3].map V.int))=H9 at s9 z1 z2 z3 ⊢;have hl9:=s9 _ _ VB;refine DD (.list ([gI hs 1,gI hs 2,gI hs 3].map acE)) (jl (aq.of z1)) (jl (aq.of z2)) (shaped_ints _) ?_;symm;rw[show decide (V.int (gI hs 7)=V.int (gI hs 7))=true from decide_eq_true rfl];exact q _ (s1.trans s9)
theorem BK (T:TX):FE 3 "_law_back" (y7 a):=by
 refine a_ 2 T.BW r6 ?_ ?_;ac_nf
 . obtain⟨m, p, pk, pt, aU, S, us, ds, rfl, MM, O, hp, UG, hu, q0, q1, q⟩ := h;have SO:=UG.1;obtain⟨dx,pc,ph,pl,fs,prs,cs,M⟩:=id MM;have fn:=M.f.no;have hm:=M.hm;have f1:=M.f.ar;have fst:=M.f.state;walk_at"h";have nd:=r6.nd;walk_at"v";symm;rename_i lz Uo;have sz:ak H (upd H lz (.lst [])):=ae Uo;refine P_ (.list (ds.map so)) (.list []) (oz (aq.of (aj hp Uo)) (UG.same sz).dp) (oz (aq.of aa) cL) (ED _) rfl ?_;cases ds with
   | nil =>
     obtain⟨e1,e2⟩:=q0 rfl;rw[show ach (.list (abC so [])) (.list [])=true from by first | rfl | nofun];symm;refine aK (aj hm Uo) (fn _ (by nofun)) ((dU T).mono (by decide)) ?_;symm;refine⟨m,dx,fs,_,rfl,aj hm Uo,fst,?_⟩;rw[e1];symm;refine aK (aj hm Uo) (fn _ (by nofun)) ((eQ T).mono (by decide)) ?_;symm;refine⟨m,dx,fs,_,rfl,aj hm Uo,f1,?_⟩;rw[e2];symm;rw[show decide (V.int aU=V.int aU)=true from decide_eq_true rfl];exact q _ sz
   | cons d ds =>
     obtain⟨e1,e4,e5,e6,ec⟩:=q1 d ds rfl;obtain⟨v,vs,rfl⟩:∃ v vs,us=v::vs:=by
       cases us with
       | nil=>cases SO
       | cons v vs=>exact⟨v,vs,rfl⟩
     have Tp:=(UG.2 0 v d rfl rfl).same sz;obtain⟨t,qq,pp,rfl,h1,h2,h3,h4⟩:=id Tp;have UE:=aj hp Uo (o:=.lst []);have Tx:b_ (V.ref t::vs) 0=some (.ref t):=bw (xs:=V.ref t::vs) (j:=0) rfl;rw[show ach (.list (abC so (d::ds))) (.list [])=false from by first | rfl | (simp[ach,PyData.eqvAll])];symm;refine aK (aj hm Uo) (fn _ (by nofun)) ((eQ T).mono (by decide)) ?_;symm;refine⟨m,dx,fs,_,rfl,aj hm Uo,f1,?_⟩;rw[e1];symm;exact⟨m,t,pk,pt,S,d,rfl,MM.to sz,O,Tp,e4,e5,e6,ec,λH' s'=>q _ (sz.trans s')⟩
theorem gZ (r:Rw):r.mV.lookup ("keeps" : Str)=none:=by
 cases r <;> (show abv _ (av _ _ _)=none;walk_at"nolk")
theorem fq (T:TX)(hr:r.here):ME 3 (r.cls a) "keeps" (dF a r):=by
 cases r
 . exact(zZ T _ _).mono (by decide)
 . exact(yO T _ _).mono (by decide)
 . exact(Bj T _ _ _).mono (by decide)
 . exact hr.elim
 . exact hr.elim
 . exact hr.elim
 . exact(yo T _).mono (by decide)
 . exact(vy T _).mono (by decide)
 . exact(zz T _ _).mono (by decide)
 . exact(AH T _ _).mono (by decide)
 . exact(yN T _).mono (by decide)
 . exact(uQ T _ _).mono (by decide)
 . exact(yJ T _).mono (by decide)
 . exact(yD T _).mono (by decide)
 . exact(yM T _).mono (by decide)
theorem EM (T:TX):iR P w K mg base (eS P w) 4 "callers" (K6 K a):=by
 refine F8 3 T.ET mL ?_ ?_;ac_nf
 . obtain⟨x, dx, l, d, pk, pp, gm, ev, es, kn0, pl0, rfl, hx, hl, Tg, hk, hkn0, SS, hpo0, hn0, q, hE⟩ := h;have hel:=Tg.1;walk_at"h";have nd:=mL.nd;refine' aR ?_ ?_;walk_at"x";walk_at"tS";walk_at"n";walk_at"x";walk_at"tS";walk_at"n";walk_at"x";walk_at"tS";walk_at"n";walk_at"x";walk_at"tS";walk_at"n";walk_at"x";walk_at"tS";walk_at"n"
   (with_reducible refine' j8 ?_ ?_ ?_)
   exact adB;walk_at"y";walk_at"tT";walk_at"n";walk_at"f";walk_at"y";walk_at"tT";walk_at"m";exact(kL (gE T) (hr.mono (by decide)) rfl (ah (pv 6) ax));exact cB;walk_at"n";exact(c8 (i:=9) mL.nd rfl (Or.inl rfl) (be (tV T) (hr.mono (by decide)) Iw rfl (ah (cN (K:=K) rfl (pv 0)) (ah (pv 6) (ah (pv 7) (ah (pv 8) ax))))));walk_at"n";walk_at"x";walk_at"tS";walk_at"n";walk_at"x";walk_at"tS";walk_at"n";walk_at"x";walk_at"tS";walk_at"m";walk_at"x";walk_at"tS";walk_at"m";walk_at"x";walk_at"tS";walk_at"s";unfold fU at hx;symm;rename_i pt hpt p1 T2 p2 UE;have n1:=bq T2;have n2:=bq UE;have n3:=bq n2.1;generalize hW:bg es 5000 gm kn0 pl0=W at q hE
   refine ⟨λm Z H'=>∃ (at':Int) (kn:List V) (pl:List Int) (vs:List V) (ds:List bT) (pk' Td:Addr) (cv:Option V),ds.length+m=5000/\W=(ds++(bg es m at' kn pl).1,(bg es m at' kn pl).2)/\Z = [some (.ref x),some (.int gm),some (.ref pk),some (.ref pp),some (.int ev.length),some (.ref pt),some (.int at'),some (.ref pk'),some (.ref Td),cv]/\ak H H'/\H' pt=some (.lst vs)/\cA H' vs ds /\
     H' pk'=some (.lst kn)/\tN kn/\H' Td=some (.lst (pl.map V.int))/\fR pl/\near at'/\pt≠pk'/\pt≠Td,⟨5000,gm,kn0,pl0,[],[],p1,p2,none,rfl,hW.symm.trans (L1 _),rfl,by walk_at"same",by bv_omega,aas,by bv_omega,hkn0,by bv_omega,hpo0,hn0,n1.2.symm,n3.2.symm⟩,?_⟩
   clear hW;rintro m Z H' ⟨at',kn,pl,vs,ds,pk',Td,cv,hf,hw,rfl,sH,hvs,UG,hk',hkn,hl',hpo,S9,ne1,ne2⟩;have SO:=UG.len;by_cases hhome:at'=ev.length
   . rw[x8 (by lia)] at hw;subst hhome;symm;rw[aaL] at hw;subst hw;exact q rfl _ _ _ sH hpt hvs UG
   have Ui:at'≠es.length:=by lia
   symm;refine⟨_,λZ' H' h=>h,?_⟩;by_cases hfull:m=0
   . symm;refine⟨fk (by have:=S9.1;lia) (by have:=S9.2;lia),λd hd=>?_⟩;exact hE at' (by rw[hw,xP Ui (.inl hfull)]) d _ (by walk_at"same") aa
   obtain⟨m,rfl⟩:∃ m',m=m'+1:=⟨m - 1,by lia⟩
   symm;refine⟨_,_,_,at',ev,es,kn,pl,rfl,by walk_at"sql",Tg.same (by walk_at"same"),by walk_at"sql",hkn,by walk_at"sql",hpo,S9,λc v H2 S_ s2 VI=>?_,λS_ d H2 s2 hd=>?_⟩
   . obtain ⟨t, qq, rfl, ht, hqq⟩ := id VI;obtain ⟨o1,o2,o3,o4⟩:=L_ hkn hpo S_;have hvs2:=s2 _ _ hvs;have net:pt≠t:=λz=>by subst z;rw [hvs2] at ht;cases ht
     have neq:pt≠qq:=λz=>by subst z;rw[hvs2] at hqq;cases hqq
     have sH2:ak H H2:=sH.trans s2;have TQ:=s2 _ _ hk';have Vp:=s2 _ _ hl';have hcv2:cA H2 vs ds:=UG.same s2;symm;rw[gh _ o3];refine⟨m,by lia,c.r,ib c,pl.take c.n.toNat,vs++[.ref t],ds++[c],_,_,_,by rw[aab,aaG];lia,G5 Ui S_ hw,rfl,by walk_at"same",by bv_omega,?_,by bv_omega,o2,by bv_omega,hpo.take _,o1,by walk_at"ne",by walk_at"ne"⟩;refine cA.same (H:=upd H2 pt (.lst (vs++[.ref t]))) (by walk_at"same") (cA.snoc ?_ ?_)
     . exact⟨t,qq,rfl,by rw[ai net.symm];exact ht,by rw[ai neq.symm];exact hqq⟩
     . exact cA.upd hvs2 hcv2
   . exact hE at' (by rw[hw,xP Ui (.inr S_)]) d H2 (sH.trans s2) hd
theorem jA (T:TX):FE 4 "way_complaint" (OL K a):=by
 refine a_ 3 T.tE j_ ?_ ?_;ac_nf
 . obtain ⟨x, p, l, c, r, e, ev, es, rfl, ⟨dx, hx⟩, ok, hh, he, nn, e0, e4, hs, hl, Tg, hnn, q⟩ := h;obtain ⟨qe,h1,h2⟩:=id he;unfold fg at q;walk_at "h";have nd:=j_.nd;refine' aR ?_ ?_;walk_at "tS";walk_at "c";walk_at "c";walk_at "c";walk_at "n";walk_at "g";exact (Oq (K:=K) rfl rfl T.ze (ah (gu (v:=.ref a.iD) rfl T.rM rfl) (ah (be (gT T) (hr.mono (by decide)) bQ rfl (ah (pv 1) ax)) (ah (be (gT T) (hr.mono (by decide)) bQ rfl (ah (pv 4) ax)) ax))));walk_at "tG";walk_at "tB";exact λ_=>rfl;walk_at "m";walk_at "tS";walk_at "s";symm;refine ⟨c,l,ev,rfl,aq.of hl,?_⟩;rw [Tg.1];by_cases hc : 0<=c/\c<(es.length:Int)
   . rw[decide_eq_true hc];rw[if_pos hc] at q;obtain⟨v,oe,Tx,T5,TU,hv⟩:=Tg.at hc.1 hc.2;rw[T5,Option.join_some] at q;symm;cases oe with
     | none =>
       cases hv
       symm;exact q _ (ak.refl _)
     | some t =>
       obtain⟨pt,rfl,qt,t1,t2⟩:=id hv;have tn:=hnn t TU;symm;refine aK hx (lC _) ((iU T hh).mono (by decide)) ?_;symm;refine⟨x,e.h,rfl,⟨dx,hx⟩,?_⟩;obtain⟨z,hg⟩:=Option.isSome_iff_exists.mp hs;have q:∀ H',ak H H'->Q (oV (if r.aB e.h=some t.h then mY r e t else some .aB)) H':=q;rw[hg] at q ⊢;show e_ K (V.int t.h) (V.int z) _ _;symm;refine gQ (λhz=>?_) (λhz=>?_)
       . rw[if_neg (λy=>hz (aaw y).symm)] at q;symm;exact q _ (ak.refl _)
       rw[if_pos (by rw[hz])] at q;symm;refine⟨p,e,rfl,he,λta nta=>?_⟩;symm;refine⟨pt,t,rfl,iG.same ⟨qt,t1,t2⟩ (ae nta),λtb ntb=>?_⟩;symm;have sX:ak H (upd (upd H ta (.tup (e.dJ.map V.int))) tb (.tup (t.dJ.map V.int))):=(ae nta).trans (ae ntb);have ha:aJ K (upd (upd H ta (.tup (e.dJ.map V.int))) tb (.tup (t.dJ.map V.int))) ta (e.dJ.map V.int):=aJ.of (aj aa ntb);have hb:aJ K (upd (upd H ta (.tup (e.dJ.map V.int))) tb (.tup (t.dJ.map V.int))) tb (t.dJ.map V.int):=aJ.of aa;clear nta ntb;generalize (upd (upd H ta (.tup (e.dJ.map V.int))) tb (.tup (t.dJ.map V.int)))=HX at sX ha hb ⊢;refine⟨a.iD,ta,tb,_,_,_,rfl,T.kY _,ha,hb,?_⟩;unfold mY at q;refine IT (xs:=[.str "back",.int 4,.int 5,.int 6]) (ys:=e.dJ.map V.int) (zs:=t.dJ.map V.int) rfl rfl (λi Z H2=>(∃ u1 u2 u3,Z = [some (.ref x),some (.ref p),some (.int c),some (.ref l),some (.ref pt),u1,u2,u3])/\ak HX H2/\(0<i->Bt.wo t.b.toNat (r.keep e.b.toNat e.h)=0)/\(1<i->Bt.wo t.v4.toNat (r.keep e.v4.toNat e.h)=0)/\(2<i->Bt.wo t.v5.toNat (r.keep e.v5.toNat e.h)=0)/\(3<i->Bt.wo t.v6.toNat (r.keep e.v6.toNat e.h)=0)) ⟨⟨_,_,_,rfl⟩,ak.refl _,(λz=>absurd z (by decide)),(λz=>absurd z (by decide)),(λz=>absurd z (by decide)),(λz=>absurd z (by decide))⟩ (λi Z H2 _ ⟨_,s2,_⟩=>⟨T.kY _,cK s2 ha,cK s2 hb⟩) ?_ ?_
       . rintro i v1 v2 v3 T' Z H2 w1 w2 w3 ⟨⟨u1,u2,u3,rfl⟩,s2,z0,z1,z2,z3⟩ nT;have U2:=(sX.trans s2) _ _ hx;have h12:=cK (sX.trans s2) h1;have s0:=sX.trans s2;clear sX ha hb t1 t2 h1 h2 hl Tg hv he
         match i,w1,w2,w3 with
         | 0,w1,w2,w3 =>
           cases w1;cases w2;cases w3
           have eb:aaK t.b (aav ((r.keep e.b.toNat e.h:Nat):Int))=((Bt.wo t.b.toNat (r.keep e.b.toNat e.h):Nat):Int):=by rw[<- gj,aa1 tn.1]
           symm;refine aK (aj U2 nT) (gZ _) ((fq T hh).mono (by decide)) ?_;symm;refine⟨x,e.b.toNat,e.h,by rw[aa1 nn.1],⟨dx,aj U2 nT⟩,ok,e0,e4,hs,?_⟩;symm;rw[eb];by_cases hw:Bt.wo t.b.toNat (r.keep e.b.toNat e.h)=0
           . rw[hw, show(((0 : Nat) : Int) != 0) = false from rfl];symm;exact⟨⟨_,_,_,rfl⟩,s2.trans (ae nT),(λ_=>rfl),(λz=>absurd z (by decide)),(λz=>absurd z (by decide)),(λz=>absurd z (by decide))⟩
           . rw[show((((Bt.wo t.b.toNat (r.keep e.b.toNat e.h) : Nat) : Int)) != 0) = true from by simp[hw]];symm;rw[if_pos hw] at q;exact q _ (s0.trans (ae nT))
         | 1,w1,w2,w3 =>
           cases w1;cases w2;cases w3
           have eb:aaK t.v4 (aav ((r.keep e.v4.toNat e.h:Nat):Int))=((Bt.wo t.v4.toNat (r.keep e.v4.toNat e.h):Nat):Int):=by rw[<- gj,aa1 tn.2.1]
           symm;refine aK (aj U2 nT) (gZ _) ((fq T hh).mono (by decide)) ?_;symm;refine⟨x,e.v4.toNat,e.h,by rw[aa1 nn.2.1],⟨dx,aj U2 nT⟩,ok,e0,e4,hs,?_⟩;symm;rw[eb];by_cases hw:Bt.wo t.v4.toNat (r.keep e.v4.toNat e.h)=0
           . rw[hw, show(((0 : Nat) : Int) != 0) = false from rfl];symm;exact⟨⟨_,_,_,rfl⟩,s2.trans (ae nT),(λ_=>z0 (by decide)),(λ_=>rfl),(λz=>absurd z (by decide)),(λz=>absurd z (by decide))⟩
           . rw[show((((Bt.wo t.v4.toNat (r.keep e.v4.toNat e.h) : Nat) : Int)) != 0) = true from by simp[hw]];symm;rw[if_neg (λz=>z (z0 (by decide))),if_pos hw] at q;exact q _ (s0.trans (ae nT))
         | 2,w1,w2,w3 =>
           cases w1;cases w2;cases w3
           have eb:aaK t.v5 (aav ((r.keep e.v5.toNat e.h:Nat):Int))=((Bt.wo t.v5.toNat (r.keep e.v5.toNat e.h):Nat):Int):=by rw[<- gj,aa1 tn.2.2.1]
           symm;refine aK (aj U2 nT) (gZ _) ((fq T hh).mono (by decide)) ?_;symm;refine⟨x,e.v5.toNat,e.h,by rw[aa1 nn.2.2.1],⟨dx,aj U2 nT⟩,ok,e0,e4,hs,?_⟩;symm;rw[eb];by_cases hw:Bt.wo t.v5.toNat (r.keep e.v5.toNat e.h)=0
           . rw[hw, show(((0 : Nat) : Int) != 0) = false from rfl];symm;exact⟨⟨_,_,_,rfl⟩,s2.trans (ae nT),(λ_=>z0 (by decide)),(λ_=>z1 (by decide)),(λ_=>rfl),(λz=>absurd z (by decide))⟩
           . rw[show((((Bt.wo t.v5.toNat (r.keep e.v5.toNat e.h) : Nat) : Int)) != 0) = true from by simp[hw]];symm;rw[if_neg (λz=>z (z0 (by decide))),if_neg (λz=>z (z1 (by decide))),if_pos hw] at q;exact q _ (s0.trans (ae nT))
         | 3,w1,w2,w3 =>
           cases w1;cases w2;cases w3
           have eb:aaK t.v6 (aav ((r.keep e.v6.toNat e.h:Nat):Int))=((Bt.wo t.v6.toNat (r.keep e.v6.toNat e.h):Nat):Int):=by rw[<- gj,aa1 tn.2.2.2]
           symm;refine aK (aj U2 nT) (gZ _) ((fq T hh).mono (by decide)) ?_;symm;refine⟨x,e.v6.toNat,e.h,by rw[aa1 nn.2.2.2],⟨dx,aj U2 nT⟩,ok,e0,e4,hs,?_⟩;symm;rw[eb];by_cases hw:Bt.wo t.v6.toNat (r.keep e.v6.toNat e.h)=0
           . rw[hw, show(((0 : Nat) : Int) != 0) = false from rfl];symm;exact⟨⟨_,_,_,rfl⟩,s2.trans (ae nT),(λ_=>z0 (by decide)),(λ_=>z1 (by decide)),(λ_=>z2 (by decide)),(λ_=>rfl)⟩
           . rw[show((((Bt.wo t.v6.toNat (r.keep e.v6.toNat e.h) : Nat) : Int)) != 0) = true from by simp[hw]];symm;rw[if_neg (λz=>z (z0 (by decide))),if_neg (λz=>z (z1 (by decide))),if_neg (λz=>z (z2 (by decide))),if_pos hw] at q;exact q _ (s0.trans (ae nT))
         | i+4,w1,w2,w3=>simp at w1
       . rintro Z H2 ⟨⟨u1,u2,u3,rfl⟩,s2,z0,z1,z2,z3⟩;have z0:=z0 (by decide);have z1:=z1 (by decide);have z2:=z2 (by decide);have z3:=z3 (by decide);rw[if_neg (λz=>z z0),if_neg (λz=>z z1),if_neg (λz=>z z2),if_neg (λz=>z z3)] at q;symm;exact q _ (sX.trans s2)
   . rw[decide_eq_false hc];rw[if_neg hc] at q;symm;exact q _ (ak.refl _)
theorem zo (T:TX):FE 4 "places_of" (PU K a):=by
 refine a_ 3 T.zH gR ?_ ?_;ac_nf
 . obtain ⟨c, ly, lh, prs, rs, ls, hs, first, rfl, hc, Te, az, h0, Ta, S6, hwy, W7, HO', hf, q⟩ := h;have SS:=Te.1;have hhl:=HO'.len;walk_at "h";have nd:=gR.nd;refine' aR ?_ ?_;exact (fw (i:=4) gR.nd rfl rfl (own:=["row"]) (fr:=[]) rfl ⟨rfl,(by walk_at "clok"),(by walk_at "frok"),rfl,(by nofun),(by nofun),rfl⟩ (dR (K:=K) rfl (pv 0)) (λ_ _ _ _=>(bO (i:=0) (show aa6 [("row" : Str)] from by nofun) rfl (Or.inl rfl))) (λ_ _ _ _=>c_) (λ_ _ _ _=>jq));walk_at "c";walk_at "c";walk_at "n"
   (with_reducible refine' j8 ?_ ?_ ?_)
   exact acA;exact(dS JM (cJ GO rfl T.jb je (ah (pv 5) ax)) aL (dI _));walk_at"n";exact(c8 (i:=6) gR.nd rfl (Or.inl rfl) (iK (Eo rfl) rfl T.GW F3 (ah (pv 5) ax)));walk_at"c";walk_at"m";walk_at"tS";walk_at"m";walk_at"tS";walk_at"s";ac_rfl;refine gf (K:=K) (a:=c) (xs:=prs.map V.ref) (λi ys Z H1=>(∃ v,Z = [v])/\ak H H1/\ys=(aat i (none:Option Nat)).map cw) ⟨⟨_,rfl⟩,ak.refl _,rfl⟩ (λi ys Z H1 hi ⟨_,s1,e⟩=>⟨aq.of (s1 _ _ hc),by rw[e,aac,aaB,aaI];rw[aac] at hi;lia⟩) ?_ ?_
   . rintro i v ys Z H1 hv ⟨⟨u,rfl⟩,s1,rfl⟩;ac_rfl;exact⟨⟨_,rfl⟩,s1,by rw[List.replicate_succ',aaF];rfl⟩
   rintro ys Z H1 ⟨_,s1,rfl⟩ lx Vh;rw[aac,SS];have nlxH:H lx=none:=aF s1 Vh
   have Tu : ∀ {ss : List (Option Nat)} {ks : List Nat} {HD : Hp} {dc : Addr} {n p : Nat} {T4 : Nat -> Prop} {R : Hp -> Prop}, PI rs ls hs first ss T4 -> ak H HD -> HD lx = some (.lst (ss.map cw)) -> HD dc = some (.dK (bL ks)) -> ks.Nodup -> H dc = none -> (∀ k ∈ ks, ∃ s, ss[k]? = some (some s)) -> (∃ h, hs[n]? = some (some h)) -> p < 2 ^ 4100 -> (∀ g, Cons rs ls hs first g -> Sub (g n) p) ->
       (∀ Tq TC HE,PI rs ls hs first Tq (λi=>T4 i∨i∈TC)->fG ss Tq->(∀ (i s:Nat),ss[i]? = some (some s)->Tq[i]? = some (some s)∨i∈TC)->ak H HE->(∀ b o,HD b=some o->b≠lx->b≠dc->HE b=some o)->HE lx=some (.lst (Tq.map cw))->HE dc=some (.dK (bL TC))->TC.Nodup->(∀ k∈ks,k∈TC)->(∀ k∈TC,∃ s,Tq[k]? = some (some s))->(∃ s,Tq[n]? = some (some s)/\Sub s p)->bY Tq<=bY ss->(TC=ks∨bY Tq<bY ss)->R HE) ->
       zD [.ref lx,.ref dc,.int (n:Int),.int (p:Int)] HD (λ_ HE=>R HE) E0:=by
     intro ss ks HD dc n p T4 R I s2 hx hd Us ndc W8 hh hp hg qq;have hn:n<ss.length:=by
       obtain⟨h,e⟩:=hh;rw[I.len,<- hhl];exact(List.getElem?_eq_some_iff.mp e).1
     have ho:ss[n]? = some ss[n]:=aaa hn;have hkl:ks.length<=2000:=by
       have h1:=uS rs.length ks Us λk hk=>by
         obtain⟨s,e⟩:=W8 k hk;rw[<- I.len];exact(List.getElem?_eq_some_iff.mp e).1
       lia
     refine⟨lx,dc,n,p,ss,ks,ss[n],rfl,hx,hd,by rw[I.len];exact Ta,hkl,Us,ho,λe=>?_,λe=>?_⟩
     . refine qq ss ks HD (I.weak λi k => .inl k) (fG.refl _) (λi s e => .inl e) s2 (λb o e _ _ => e) hx hd Us (λk hk => hk) W8 ⟨jh ss[n] p, by rw[ho, <- e], ?_⟩ (aah _) (.inl rfl);cases ss[n] with
       | none=>exact Sub.refl p
       | some s=>exact Sub.right s p
     . have nxd : lx ≠ dc := λz => by rw [z, hd] at hx; cases hx
       refine qq _ (jU ks n) _ ((I.narrow ho hh hp hg).weak λi k=>?_) (zw ho) (λi s e1=>?_) (λb o e1=>?_) (λb o e1 n1 n2=>by rw[ai n2,ai n1];exact e1) (by rw[ai nxd];exact aa) aa (Lc Us n) (λk hk=>by unfold jU;split;exact hk;exact aa5 _ hk) (λk hk=>?_) ⟨_,aaO hn,?_⟩ (ado (CW ho e hp)) (.inr (CW ho e hp))
       . rcases k with k | k
         . exact .inl k
         . refine .inr ?_;unfold jU;split
           . rename_i z;rw[k];exact z
           . rw[k];exact aax _ (List.mem_singleton.mpr rfl)
       . by_cases z:n=i
         . refine .inr ?_;unfold jU;split
           . rename_i z2;rw[<- z];exact z2
           . rw[<- z];exact aax _ (List.mem_singleton.mpr rfl)
         . exact .inl (by rw[aaP z];exact e1)
       . rw[ai (af e1 ndc),ai (af e1 nlxH)];exact s2 _ _ e1
       . by_cases z:n=k
         . rw[<- z];exact⟨_,aaO hn⟩
         . rw[aaP z];refine W8 k ?_;unfold jU at hk;split at hk
           . exact hk
           . rcases List.mem_append.mp hk with hk | hk
             . exact hk
             . exact absurd (List.mem_singleton.mp hk).symm z
       . cases ss[n] with
         | none=>exact Sub.refl p
         | some s=>exact Sub.right s p
   ac_rfl;rename_i dc ndc;have Uk:∀ (i s:Nat),(aat rs.length (none:Option Nat))[i]? ≠ some (some s):=λi s e=>by rw[abF] at e;split at e <;> cases e
   have I0:PI rs ls hs first (aat rs.length (none:Option Nat)) (λ_=>False):=⟨aaB,λi s e=>absurd e (Uk i s),λi s e=>absurd e (Uk i s),λi _ s h r e=>absurd e (Uk i s),λg _ i s e=>absurd e (Uk i s)⟩
   refine Tu (ks:=[]) (n:=0) (p:=first) I0 (s1.trans ((ae Vh).trans (ae ndc))) (aj aa ndc) aa adz (aF s1 (il ndc).1) (λk hk=>by cases hk) ⟨0,HO'.start⟩ hf (λg cg=>cg.1) λTq TC HE I2 _ _ s2 _ U2 Uu nd2 _ hkk2 WO _ _=>?_;have ndcH:H dc=none:=aF s1 (il ndc).1;clear I0 s1 Vh ndc Uk;ac_rfl;refine⟨λj Z HQ=>∃ (ss:List (Option Nat)) (ks:List Nat) (dc:Addr) (u6 u7 u8 u9:Option V),ak H HQ/\Z = [some (.ref c),some (.ref ly),some (.ref lh),some (.int (first:Int)),some (.ref lx),some (.ref dc),u6,u7,u8,u9]/\HQ lx=some (.lst (ss.map cw))/\HQ dc=some (.dK (bL ks))/\ks.Nodup/\H dc=none/\(∀ k∈ks,∃ s,ss[k]? = some (some s))/\PI rs ls hs first ss (λi=>i∈ks)/\(∃ s0,ss[0]? = some (some s0)/\Sub s0 first)/\j=2*bY ss+(if ks=[] then 0 else 1),⟨_,Tq,TC,dc,_,_,_,_,s2,rfl,U2,Uu,nd2,ndcH,hkk2,I2.weak (λi k=>k.resolve_left (λz=>z)),WO,rfl⟩,?_⟩;clear s2 U2 Uu nd2 hkk2 I2 WO;rintro j Z HQ ⟨ss,ks,dc,u6,u7,u8,u9,s2,rfl,hx,hd,Us,ndc',W8,I,st,rfl⟩;ac_rfl;refine⟨dc,bL ks,rfl,hd,?_⟩;have hkl:=uS rs.length ks Us λk hk=>by
     obtain⟨s,e⟩:=W8 k hk;rw[<- I.len];exact(List.getElem?_eq_some_iff.mp e).1
   have htl:(bL ks).length=ks.length:=by unfold bL;rw[aac]
   rw[htl];by_cases hz:ks=[]
   . subst hz;ac_rfl;exact q lx ss HQ s2 nlxH hx ⟨I.weak (λi k=>by cases k),st⟩
   . have UP : 0 < ks.length := List.length_pos_iff.mpr hz;rw [if_neg hz];ac_rfl;refine ⟨_,λZ' H' h=>h,?_⟩;ac_rfl;refine Ls hd (FI ks) λlw Vv=>?_;ac_rfl;rename_i dn ndn;have V6:H lw=none:=aF s2 Vv;have ndnH:H dn=none:=aF s2 (il ndn).1;have nwd:lw≠dn:=λz=>(il ndn).2 z.symm;have nwx:lw≠lx:=λz=>by rw [z,hx] at Vv;cases Vv
     have ndx:dn≠lx:=λz=>by have:=(il ndn).1;rw[z,hx] at this;cases this
     have s3:=s2.trans ((ae (o:=.lst ((ks.map λk:Nat=>(k:Int)).map V.int)) Vv).trans (ae (o:=.dK []) ndn));have hx3:=aj (o:=.dK []) (aj (o:=.lst ((ks.map λk:Nat=>(k:Int)).map V.int)) hx Vv) ndn;have hw3:=aj (o:=.dK []) (aa (H:=HQ) (a:=lw) (o:=.lst ((ks.map λk:Nat=>(k:Int)).map V.int))) ndn;have hd3:(upd (upd HQ lw (.lst ((ks.map λk:Nat=>(k:Int)).map V.int))) dn (.dK [])) dn=some (.dK (bL [])):=aa;generalize (upd (upd HQ lw (.lst ((ks.map λk:Nat=>(k:Int)).map V.int))) dn (.dK []))=HF at s3 hx3 hw3 hd3 ⊢;clear s2 hx hd ndn Vv;refine ff (K:=K) (a:=lw) (xs:=(ks.map λk:Nat=>(k:Int)).map V.int) (λi Z HD=>∃ (Tq:List (Option Nat)) (TC:List Nat) (u7 u8 u9:Option V),ak H HD/\HD lw=some (.lst ((ks.map λk:Nat=>(k:Int)).map V.int))/\Z = [some (.ref c),some (.ref ly),some (.ref lh),some (.int (first:Int)),some (.ref lx),some (.ref dn),some (.ref lw),u7,u8,u9]/\HD lx=some (.lst (Tq.map cw))/\HD dn=some (.dK (bL TC))/\TC.Nodup/\(∀ k∈TC,∃ s,Tq[k]? = some (some s))/\PI rs ls hs first Tq (λi'=>i'∈TC∨i'∈ks.drop i)/\fG ss Tq/\(∃ s0,Tq[0]? = some (some s0)/\Sub s0 first)/\bY Tq<=bY ss/\(TC=[]∨bY Tq<bY ss)) ⟨ss,[],_,_,_,s3,hw3,rfl,hx3,hd3,adz,(λk hk=>by cases hk),I.weak (λi k=>.inr k),fG.refl _,st,aah _,.inl rfl⟩ (λi Z HD _ ⟨_,_,_,_,_,_,e,_⟩=>aq.of e) ?_ ?_
     . rintro i v Z HD hv ⟨Tq,TC,u7,u8,u9,s4,hw4,rfl,hx4,hd4,nd4,hkk4,I4,le4,st4,tt4,hor4⟩;obtain⟨k,hki,rfl⟩:∃ k:Nat,ks[i]? = some k/\v=.int (k:Int):=by
         rw[aag,aag] at hv;obtain⟨p,hp,e⟩:=Option.map_eq_some_iff.mp hv;obtain⟨k,hk,e2⟩:=Option.map_eq_some_iff.mp hp;exact⟨k,hk,by rw[<- e,<- e2]⟩
       have hil:=(List.getElem?_eq_some_iff.mp hki).1;have hdrop:ks.drop i=k::ks.drop (i+1):=by
         rw[<- (List.getElem?_eq_some_iff.mp hki).2,List.getElem_cons_drop]
       obtain⟨s0',e0'⟩:=W8 k (aaj hki);obtain⟨s,hsk,_⟩:=le4 k s0' e0';obtain⟨h,hhk⟩:=I4.rd k s hsk;have hkl2:k<rs.length:=by rw[<- hhl];exact(List.getElem?_eq_some_iff.mp hhk).1
       have U3:rs[k]? = some rs[k]:=aaa hkl2;have hpk:prs[k]? = some prs[k]:=aaa (by rw[SS];exact hkl2);have S4:=Te.2 k _ _ hpk U3;have Ul:=az _ (aaV hkl2);generalize rs[k]=r at U3 S4 Ul;generalize prs[k]=p0 at hpk S4;obtain⟨h',hh',hcl'⟩:=HO'.cl k h r hhk U3;have VE:=Qw az (HO'.rh k h hhk);have WC:=Me (r:=r) Ul.1 VE.1 VE.2 (I4.bd k s hsk);obtain⟨TM,hwl0,hwl2,hwl3⟩:=id hwy;have hwk:TM[k]? = some TM[k]:=aaa (by rw[hwl2];exact hkl2);have Uc:=hwl3 k _ hwk;generalize TM[k]=pw at hwk Uc;have Tx:b_ (prs.map V.ref) (k:Int)=some (.ref p0):=bw (by rw[aag,hpk];rfl);have hat2:b_ (hs.map bI) (k:Int)=some (.int h):=bw (by rw[aag,hhk];rfl);have hat3:b_ (TM.map V.ref) (k:Int)=some (.ref pw):=bw (by rw[aag,hwk];rfl);have hat4:b_ (Tq.map cw) (k:Int)=some (.int (s:Int)):=bw (by rw[aag,hsk];rfl);have hc4:=s4 _ _ hc;have TJ:=s4 _ _ W7;have hwl4:=s4 _ _ hwl0;have hway4:=s4 _ _ Uc;have Wp:=S4.same s4;obtain⟨dx,UL⟩:=id Wp;ac_rfl;refine aK UL (gZ _) ((fq T Ul.2).mono (by decide)) ?_;ac_rfl;refine⟨p0,s,h,rfl,Wp,Ul.1,VE.1,VE.2,by rw[hh'];rfl,?_⟩;have hcg:∀ g,Cons rs ls hs first g->∀ w∈dD rs ls k,Sub (g w.toNat) (r.keep s h):=λg cg w hw=>((cg.2 k h r hhk U3).1 w hw).trans (Jc r h (I4.up g cg k s hsk))
       generalize hkept:r.keep s h=kept at WC hcg ⊢;clear hv hx3 hw3 hd3 s3;ac_rfl;refine ff (K:=K) (a:=pw) (xs:=(dD rs ls k).map V.int) (λm Z HE=>∃ (Vg:List (Option Nat)) (Wx:List Nat) (u9:Option V),ak H HE/\HE lw=some (.lst ((ks.map λk:Nat=>(k:Int)).map V.int))/\Z = [some (.ref c),some (.ref ly),some (.ref lh),some (.int (first:Int)),some (.ref lx),some (.ref dn),some (.ref lw),some (.int (k:Int)),some (.int (kept:Int)),u9]/\HE lx=some (.lst (Vg.map cw))/\HE dn=some (.dK (bL Wx))/\Wx.Nodup/\(∀ k∈Wx,∃ s,Vg[k]? = some (some s))/\PI rs ls hs first Vg (λi'=>i'∈Wx∨i'∈ks.drop i)/\fG Tq Vg/\(∀ (i' s':Nat),Tq[i']? = some (some s')->Vg[i']? = some (some s')∨i'∈Wx)/\(∀ w∈(dD rs ls k).take m,∃ s',Vg[w.toNat]? = some (some s')/\Sub s' kept)/\bY Vg<=bY Tq/\(Wx=TC∨bY Vg<bY Tq)) ⟨Tq,TC,_,s4,hw4,rfl,hx4,hd4,nd4,hkk4,I4,fG.refl _,λi' s' e=>.inl e,(λw hw=>by rw[List.take_zero] at hw;cases hw),aah _,.inl rfl⟩ (λm Z HE _ ⟨_,_,_,s5,_⟩=>aq.of (s5 _ _ Uc)) ?_ ?_
       . rintro m v Z HE hv ⟨Vg,Wx,u9,s5,hw5,rfl,hx5,hd5,nd5,hkk5,I5,le5,un5,cl5,tt5,hor5⟩;obtain⟨w,hxw,rfl⟩:∃ w,(dD rs ls k)[m]? = some w/\v=.int w:=by
           rw[aag] at hv;obtain⟨p,hp,e⟩:=Option.map_eq_some_iff.mp hv;exact⟨p,hp,e.symm⟩
         have hwm:=aaj hxw;obtain⟨hw0,hwh⟩:=hcl' w hwm;ac_rfl;rw[show w=((w.toNat:Nat):Int) by lia];refine Tu I5 s5 hx5 hd5 nd5 ndnH hkk5 ⟨_,hwh⟩ WC (λg cg=>hcg g cg w hwm) λVf ks6 HG I6 le6 un6 s6 kp6 hx6 hd6 nd6 U9 Wh cl6 tt6 Wb=>?_;refine⟨Vf,ks6,_,s6,kp6 _ _ hw5 nwx nwd,by rw[show((w.toNat:Nat):Int)=w by lia],hx6,hd6,nd6,Wh,I6.weak (λi' k'=>?_),le5.trans le6,λi' s' e=>?_,λw' hw'=>?_,aaJ tt6 tt5,?_⟩
         . rcases k' with (k' | k') | k'
           . exact .inl (U9 _ k')
           . exact .inr k'
           . exact .inl k'
         . rcases un5 i' s' e with e | e
           . exact un6 i' s' e
           . exact .inr (U9 _ e)
         . rw[abz,hxw,abq] at hw';rcases List.mem_append.mp hw' with hw' | hw'
           . obtain⟨s', e1, e2⟩ := cl5 w' hw';obtain⟨s'',f1,f2⟩:=le6 _ _ e1;exact⟨s'',f1,f2.trans e2⟩
           . rw[List.mem_singleton.mp hw'];exact cl6
         . rcases Wb with e | e
           . rcases hor5 with e2 | e2
             . exact .inl (e.trans e2)
             . exact .inr (by lia)
           . exact .inr (by lia)
       . rintro Z HE ⟨Vg,Wx,u9,s5,hw5,rfl,hx5,hd5,nd5,hkk5,I5,le5,un5,cl5,tt5,hor5⟩;rw[aac,aaU] at cl5;have hc5:=s5 _ _ hc;have hrow5:=S4.same s5;clear hc4 TJ hwl4 hway4 Wp UL;obtain⟨t',ty1,ty2,_⟩:=lG T Ul.2 hrow5
         have S0 : ∀ {Vf : List (Option Nat)} {ks6 : List Nat} {HG : Hp} {u8 u9 : Option V}, PI rs ls hs first Vf (λi' => i' ∈ ks6 ∨ i' ∈ ks.drop i) -> fG Vg Vf -> (∀ (i' s' : Nat), Vg[i']? = some (some s') -> Vf[i']? = some (some s') ∨ i' ∈ ks6) -> (∀ k' ∈ Wx, k' ∈ ks6) -> ak H HG -> HG lw = some (.lst ((ks.map λk : Nat => (k : Int)).map V.int)) -> HG lx = some (.lst (Vf.map cw)) -> HG dn = some (.dK (bL ks6)) -> ks6.Nodup -> (∀ k ∈ ks6, ∃ s, Vf[k]? = some (some s)) -> bY Vf <= bY Vg -> (ks6 = Wx ∨ bY Vf < bY Vg) -> (∀ t, r = .call t -> ∃ s', Vf[t.toNat]? = some (some s') /\ Sub s' first) ->
             ∃ (Tq:List (Option Nat)) (TC:List Nat) (u7' u8' u9':Option V),ak H HG/\HG lw=some (.lst ((ks.map λk:Nat=>(k:Int)).map V.int))/\[some (V.ref c),some (.ref ly),some (.ref lh),some (.int (first:Int)),some (.ref lx),some (.ref dn),some (.ref lw),some (.int (k:Int)),u8,u9]=[some (.ref c),some (.ref ly),some (.ref lh),some (.int (first:Int)),some (.ref lx),some (.ref dn),some (.ref lw),u7',u8',u9']/\HG lx=some (.lst (Tq.map cw))/\HG dn=some (.dK (bL TC))/\TC.Nodup/\(∀ k∈TC,∃ s,Tq[k]? = some (some s))/\PI rs ls hs first Tq (λi'=>i'∈TC∨i'∈ks.drop (i+1))/\fG ss Tq/\(∃ s0,Tq[0]? = some (some s0)/\Sub s0 first)/\bY Tq<=bY ss/\(TC=[]∨bY Tq<bY ss):=by
           intro Vf ks6 HG u8 u9 I6 le6 un6 U9 s6 hw6 hx6 hd6 nd6 Wh tt6 Wb tg6;refine⟨Vf,ks6,_,_,_,s6,hw6,rfl,hx6,hd6,nd6,Wh,I6.done (λi' UU=>?_),(le4.trans le5).trans le6,?_,by lia,?_⟩
           . by_cases z:i'=k
             . subst z;refine .inr λs1 h1 r1 e1 e2 e3=>?_;rw[hhk] at e2;cases e2;rw[U3] at e3;cases e3;have Ui:i' ∉ ks6:=λz=>UU (.inl z);have e4:Vf[i']? = some (some s):=by
                 rcases un5 i' s hsk with e | e
                 . exact(un6 i' s e).resolve_right Ui
                 . exact absurd (U9 _ e) Ui
               rw[e4] at e1;cases e1;refine⟨λw hw=>?_,tg6⟩;obtain⟨s',f1,f2⟩:=cl5 w hw;obtain⟨s'',g1,g2⟩:=le6 _ _ f1;exact⟨s'',g1,by rw[hkept];exact g2.trans f2⟩
             . refine .inl λhp=>UU ?_;rcases hp with hp | hp
               . exact .inl hp
               . rw[hdrop] at hp;exact .inr ((List.mem_cons.mp hp).resolve_left z)
           . obtain⟨a0, b0, c0⟩ := st4;obtain⟨a1,b1,c1⟩:=(le5.trans le6) _ _ b0;exact⟨a1,b1,c1.trans c0⟩
           . rcases Wb with e | e
             . rcases hor5 with e2 | e2
               . rcases hor4 with e3 | e3
                 . exact .inl (by rw[e,e2,e3])
                 . exact .inr (by lia)
               . exact .inr (by lia)
             . exact .inr (by lia)
         ac_rfl;refine eY (λz=>nomatch z) ty1 ty2 ?_;cases hcall:r.isCall with
         | false =>
           ac_rfl;exact S0 I5 (fG.refl _) (λi' s' e=>.inl e) (λk' h=>h) s5 hw5 hx5 hd5 nd5 hkk5 (aah _) (.inl rfl) (λt ht=>by rw[ht] at hcall;cases hcall)
         | true =>
           obtain⟨t,rfl⟩:∃ t,r=.call t:=by
             cases r <;> first | exact⟨_,rfl⟩ | (cases hcall)
           obtain⟨dxD,Wk⟩:=hrow5;have Wk:HE p0=some (.ins a.aV dxD (av "target" (.int t) [])):=Wk;obtain⟨ht0,hth⟩:=HO'.tg k h t hhk U3;ac_rfl;rw[show t=((t.toNat:Nat):Int) by lia];refine Tu I5 s5 hx5 hd5 nd5 ndnH hkk5 ⟨_,hth⟩ hf (λg cg=>(cg.2 k h (.call t) hhk U3).2 t rfl) λVf ks6 HG I6 le6 un6 s6 kp6 hx6 hd6 nd6 U9 Wh cl6 tt6 Wb=>?_;refine S0 (I6.weak (λi' k'=>?_)) le6 un6 U9 s6 (kp6 _ _ hw5 nwx nwd) hx6 hd6 nd6 Wh tt6 Wb (λt2 UI=>by cases UI;exact cl6);rcases k' with (k' | k') | k'
           . exact .inl (U9 _ k')
           . exact .inr k'
           . exact .inl k'
     . rintro Z HD ⟨Tq,TC,u7,u8,u9,s4,hw4,rfl,hx4,hd4,nd4,hkk4,I4,le4,st4,tt4,hor4⟩;rw [aac,aac,List.drop_length] at I4;refine ⟨2*bY Tq+(if TC=[] then 0 else 1),?_,Tq,TC,dn,_,_,_,_,s4,rfl,hx4,hd4,nd4,ndnH,hkk4,I4.weak (λi k=>k.resolve_right (by simp)),st4,rfl⟩;split
       . lia
       . rename_i Ui
         have:=hor4.resolve_left Ui
         lia
end
section
theorem kH (x:V)(r:List V):fS (x::r) (some 1) none=r:=by
 unfold fS;have e1:HT.ba (x::r).length 0 (some 1)=1:=by
   rw[show HT.ba (x::r).length 0 (some 1)=min 1 (x::r).length from HT.jk _ _ 1,aaA];lia
 have e2:HT.ba (x::r).length (x::r).length none=(x::r).length:=rfl;rw[e1,e2,aaA,List.drop_succ_cons,List.drop_zero,Nat.add_sub_cancel,aaU]
theorem gJ (x:V)(r:List V) : ¬ (HT.ba (x::r).length 0 (some 1)=0/\HT.ba (x::r).length (x::r).length none=(x::r).length):=by
 intro z;have e1:HT.ba (x::r).length 0 (some 1)=1:=by
   rw[show HT.ba (x::r).length 0 (some 1)=min 1 (x::r).length from HT.jk _ _ 1,aaA];lia
 rw[e1] at z;exact absurd z.1 (by decide)
local macro_rules | `(tactic| walk_at "gt") => `(tactic| repeat (first | (with_reducible refine wu ?_) | (with_reducible refine zW ?_) | (refine' r_gN ?x ?_; (case x => simp only [List.set_cons_succ, List.set_cons_zero]; rfl))))
theorem EF (T:TX):FE 4 "_law_row" (He a):=by
 refine a_ 3 T.Dz vg ?_ ?_;ac_nf
 . obtain⟨u, r, rfl, ⟨p, rfl, hp⟩, ⟨⟨ok, here⟩, gz⟩, q⟩ := h;clear gz;walk_at"h";have nd:=vg.nd;walk_at"v";cases r
   all_goals (try exact aaW here)
   case set b n =>
     have Tr:H p=some (.tup [.str "set",.int b,.int n]):=hp;clear hp;symm;rename_i l1 n1;refine bP (b:=true) aa rfl rfl (by nofun) λH1 s1=>?_;have S1:ak H H1:=((ae n1).trans s1)
     have T2:=S1 _ _ Tr;clear s1 n1;symm;refine y0 (aJ.of T2) (gJ _ _) (λlt SV=>?_);rw[kH];have S2:=S1.trans (ae SV (o:=.tup [V.int b,V.int n]));clear S1;symm;exact A1 (a:=a) ok rfl (λx H5 s np z=>q x H5 (S2.trans s) (aF S2 np) z)
   case copy b n =>
     have Tr:H p=some (.tup [.str "copy",.int b,.int n]):=hp;clear hp;symm;rename_i l1 n1;refine bP (b:=true) aa rfl rfl (by nofun) λH1 s1=>?_;have S1:ak H H1:=((ae n1).trans s1)
     have T2:=S1 _ _ Tr;clear s1 n1;symm;refine y0 (aJ.of T2) (gJ _ _) (λlt SV=>?_);rw[kH];have S2:=S1.trans (ae SV (o:=.tup [V.int b,V.int n]));clear S1;symm;exact A1 (a:=a) ok rfl (λx H5 s np z=>q x H5 (S2.trans s) (aF S2 np) z)
   case add b n m =>
     have Tr:H p=some (.tup [.str "add",.int b,.int n,.int m]):=hp;clear hp;symm;rename_i l1 n1;refine bP (b:=false) aa rfl rfl (by nofun) λH1 s1=>?_;have S1:ak H H1:=((ae n1).trans s1)
     have T2:=S1 _ _ Tr;clear s1 n1;symm;exact Ou (a:=a) ok rfl (λx H5 s np z=>q x H5 (S1.trans s) (aF S1 np) z)
   case grow b =>
     have Tr:H p=some (.tup [.str "grow",.int b]):=hp;clear hp;symm;rename_i l1 n1;refine bP (b:=false) aa rfl rfl (by nofun) λH1 s1=>?_;have S1:ak H H1:=((ae n1).trans s1)
     have T2:=S1 _ _ Tr;clear s1 n1;symm;rename_i l2 n2;refine bP (b:=true) aa rfl rfl (by nofun) λH2 s2=>?_;have S2:ak H H2:=S1.trans ((ae n2).trans s2);have UE:=S2 _ _ Tr;clear s2 n2 S1 T2;symm;have U0:=ok;simp only[Rw.ok,aM,aH,aW] at U0;intro r7 Ua m7 g7 _;refine⟨r7,Ua,_,rfl,⟨by first | decide | lia,by first | decide | lia⟩,aa,λH7 T7 T9=>⟨rfl,?_⟩⟩;have s7:ak H2 H7:=λb o e=>T7 b o (by rw[ai (af e m7),ai (af e g7)];exact e) (af e m7);have w7:bA a H7 r7 (.grow _):=⟨Ua,T9⟩
     clear T7 T9;symm;intro r8 T_ m8 g8 _;refine⟨r8,T_,_,rfl,⟨by first | decide | lia,by first | decide | lia⟩,aa,λH8 T6 T8=>⟨rfl,?_⟩⟩;have s8:ak H7 H8:=λb o e=>T6 b o (by rw[ai (af e m8),ai (af e g8)];exact e) (af e m8);have w8:bA a H8 r8 (.shrink _):=⟨T_,T8⟩
     clear T6 T8;symm;rename_i l9 n9;rw[show decide (V.str (aae "grow")=V.str (aae "shrink"))=false from by nofun];refine .inr ⟨_,rfl,?_⟩;rw[if_neg (show ¬ (false=true) by decide)];refine cy (aq.of aa) (v:=.ref r7) rfl ?_;exact q r7 _ (S2.trans (s7.trans (s8.trans (ae n9)))) (aF S2 m7) (w7.same (s8.trans (ae n9)))
   case shrink b =>
     have Tr:H p=some (.tup [.str "shrink",.int b]):=hp;clear hp;symm;rename_i l1 n1;refine bP (b:=false) aa rfl rfl (by nofun) λH1 s1=>?_;have S1:ak H H1:=((ae n1).trans s1)
     have T2:=S1 _ _ Tr;clear s1 n1;symm;rename_i l2 n2;refine bP (b:=true) aa rfl rfl (by nofun) λH2 s2=>?_;have S2:ak H H2:=S1.trans ((ae n2).trans s2);have UE:=S2 _ _ Tr;clear s2 n2 S1 T2;symm;have U0:=ok;simp only[Rw.ok,aM,aH,aW] at U0;intro r7 Ua m7 g7 _;refine⟨r7,Ua,_,rfl,⟨by first | decide | lia,by first | decide | lia⟩,aa,λH7 T7 T9=>⟨rfl,?_⟩⟩;have s7:ak H2 H7:=λb o e=>T7 b o (by rw[ai (af e m7),ai (af e g7)];exact e) (af e m7);have w7:bA a H7 r7 (.grow _):=⟨Ua,T9⟩
     clear T7 T9;symm;intro r8 T_ m8 g8 _;refine⟨r8,T_,_,rfl,⟨by first | decide | lia,by first | decide | lia⟩,aa,λH8 T6 T8=>⟨rfl,?_⟩⟩;have s8:ak H7 H8:=λb o e=>T6 b o (by rw[ai (af e m8),ai (af e g8)];exact e) (af e m8);have w8:bA a H8 r8 (.shrink _):=⟨T_,T8⟩
     clear T6 T8;symm;rename_i l9 n9;rw[show decide (V.str (aae "shrink")=V.str (aae "shrink"))=true from by nofun];refine .inr ⟨_,rfl,?_⟩;rw[if_pos rfl];refine cy (aq.of aa) (v:=.ref r8) rfl ?_;exact q r8 _ (S2.trans (s7.trans (s8.trans (ae n9)))) (aF (S2.trans s7) m8) (w8.same (ae n9))
   case put b n =>
     have Tr:H p=some (.tup [.str "put",.int b,.int n]):=hp;clear hp;symm;rename_i l1 n1;refine bP (b:=true) aa rfl rfl (by nofun) λH1 s1=>?_;have S1:ak H H1:=((ae n1).trans s1)
     have T2:=S1 _ _ Tr;clear s1 n1;symm;refine y0 (aJ.of T2) (gJ _ _) (λlt SV=>?_);rw[kH];have S2:=S1.trans (ae SV (o:=.tup [V.int b,V.int n]));clear S1;symm;have U0:=ok;simp only[Rw.ok,aM,aH,aW] at U0;intro r7 Ua m7 g7 _;refine⟨r7,Ua,_,_,rfl,⟨⟨by first | decide | lia,by first | decide | lia⟩,⟨by first | decide | lia,by first | decide | lia⟩⟩,aa,λH7 T7 T9=>⟨rfl,?_⟩⟩;have s7:ak (upd H1 lt (.tup [V.int b,V.int n])) H7:=λb o e=>T7 b o (by rw[ai (af e m7),ai (af e g7)];exact e) (af e m7);have w7:bA a H7 r7 (.put _ _):=⟨Ua,T9⟩
     clear T7 T9;symm;intro r8 T_ m8 g8 _;refine⟨r8,T_,_,_,rfl,⟨⟨by first | decide | lia,by first | decide | lia⟩,⟨by first | decide | lia,by first | decide | lia⟩⟩,aa,λH8 T6 T8=>⟨rfl,?_⟩⟩;have s8:ak H7 H8:=λb o e=>T6 b o (by rw[ai (af e m8),ai (af e g8)];exact e) (af e m8);have w8:bA a H8 r8 (.get _ _):=⟨T_,T8⟩
     clear T6 T8;symm;rename_i l9 n9;rw[show decide (V.str (aae "put")=V.str (aae "get"))=false from by nofun];refine .inr ⟨_,rfl,?_⟩;rw[if_neg (show ¬ (false=true) by decide)];refine cy (aq.of aa) (v:=.ref r7) rfl ?_;exact q r7 _ (S2.trans (s7.trans (s8.trans (ae n9)))) (aF S2 m7) (w7.same (s8.trans (ae n9)))
   case get b n =>
     have Tr:H p=some (.tup [.str "get",.int b,.int n]):=hp;clear hp;symm;rename_i l1 n1;refine bP (b:=true) aa rfl rfl (by nofun) λH1 s1=>?_;have S1:ak H H1:=((ae n1).trans s1)
     have T2:=S1 _ _ Tr;clear s1 n1;symm;refine y0 (aJ.of T2) (gJ _ _) (λlt SV=>?_);rw[kH];have S2:=S1.trans (ae SV (o:=.tup [V.int b,V.int n]));clear S1;symm;have U0:=ok;simp only[Rw.ok,aM,aH,aW] at U0;intro r7 Ua m7 g7 _;refine⟨r7,Ua,_,_,rfl,⟨⟨by first | decide | lia,by first | decide | lia⟩,⟨by first | decide | lia,by first | decide | lia⟩⟩,aa,λH7 T7 T9=>⟨rfl,?_⟩⟩;have s7:ak (upd H1 lt (.tup [V.int b,V.int n])) H7:=λb o e=>T7 b o (by rw[ai (af e m7),ai (af e g7)];exact e) (af e m7);have w7:bA a H7 r7 (.put _ _):=⟨Ua,T9⟩
     clear T7 T9;symm;intro r8 T_ m8 g8 _;refine⟨r8,T_,_,_,rfl,⟨⟨by first | decide | lia,by first | decide | lia⟩,⟨by first | decide | lia,by first | decide | lia⟩⟩,aa,λH8 T6 T8=>⟨rfl,?_⟩⟩;have s8:ak H7 H8:=λb o e=>T6 b o (by rw[ai (af e m8),ai (af e g8)];exact e) (af e m8);have w8:bA a H8 r8 (.get _ _):=⟨T_,T8⟩
     clear T6 T8;symm;rename_i l9 n9;rw[show decide (V.str (aae "get")=V.str (aae "get"))=true from by nofun];refine .inr ⟨_,rfl,?_⟩;rw[if_pos rfl];refine cy (aq.of aa) (v:=.ref r8) rfl ?_;exact q r8 _ (S2.trans (s7.trans (s8.trans (ae n9)))) (aF (S2.trans s7) m8) (w8.same (ae n9))
   case dA b =>
     have Tr:H p=some (.tup [.str "jump",.int b]):=hp;clear hp;symm;rename_i l1 n1;refine bP (b:=false) aa rfl rfl (by nofun) λH1 s1=>?_;have S1:ak H H1:=((ae n1).trans s1)
     have T2:=S1 _ _ Tr;clear s1 n1;symm;rename_i l2 n2;refine bP (b:=false) aa rfl rfl (by nofun) λH2 s2=>?_;have S2:ak H H2:=S1.trans ((ae n2).trans s2);have UE:=S2 _ _ Tr;clear s2 n2 S1 T2;symm;rename_i l3 n3;refine bP (b:=false) aa rfl rfl (by nofun) λH3 s3=>?_;have S3:ak H H3:=S2.trans ((ae n3).trans s3);have hp3:=S3 _ _ Tr;clear s3 n3 S2 UE;symm;have U0:=ok;simp only[Rw.ok,aM,aH,aW] at U0;intro r7 Ua m7 g7 _;refine⟨r7,Ua,_,rfl,⟨by first | decide | lia,by first | decide | lia⟩,aa,λH7 T7 T9=>⟨rfl,?_⟩⟩;have s7:ak H3 H7:=λb o e=>T7 b o (by rw[ai (af e m7),ai (af e g7)];exact e) (af e m7);have w7:bA a H7 r7 (.dA _):=⟨Ua,T9⟩
     clear T7 T9;symm;intro r8 T_ m8 g8 _;refine⟨r8,T_,_,rfl,⟨by first | decide | lia,by first | decide | lia⟩,aa,λH8 T6 T8=>⟨rfl,?_⟩⟩;have s8:ak H7 H8:=λb o e=>T6 b o (by rw[ai (af e m8),ai (af e g8)];exact e) (af e m8);have w8:bA a H8 r8 (.call _):=⟨T_,T8⟩
     clear T6 T8;symm;rename_i l9 n9;rw[show decide (V.str (aae "jump")=V.str (aae "call"))=false from by nofun];refine .inr ⟨_,rfl,?_⟩;rw[if_neg (show ¬ (false=true) by decide)];refine cy (aq.of aa) (v:=.ref r7) rfl ?_;exact q r7 _ (S3.trans (s7.trans (s8.trans (ae n9)))) (aF S3 m7) (w7.same (s8.trans (ae n9)))
   case branch b n =>
     have Tr:H p=some (.tup [.str "branch",.int b,.int n]):=hp;clear hp;symm;rename_i l1 n1;refine bP (b:=false) aa rfl rfl (by nofun) λH1 s1=>?_;have S1:ak H H1:=((ae n1).trans s1)
     have T2:=S1 _ _ Tr;clear s1 n1;symm;exact A1 (a:=a) ok rfl (λx H5 s np z=>q x H5 (S1.trans s) (aF S1 np) z)
   case call b =>
     have Tr:H p=some (.tup [.str "call",.int b]):=hp;clear hp;symm;rename_i l1 n1;refine bP (b:=false) aa rfl rfl (by nofun) λH1 s1=>?_;have S1:ak H H1:=((ae n1).trans s1)
     have T2:=S1 _ _ Tr;clear s1 n1;symm;rename_i l2 n2;refine bP (b:=false) aa rfl rfl (by nofun) λH2 s2=>?_;have S2:ak H H2:=S1.trans ((ae n2).trans s2);have UE:=S2 _ _ Tr;clear s2 n2 S1 T2;symm;rename_i l3 n3;refine bP (b:=false) aa rfl rfl (by nofun) λH3 s3=>?_;have S3:ak H H3:=S2.trans ((ae n3).trans s3);have hp3:=S3 _ _ Tr;clear s3 n3 S2 UE;symm;have U0:=ok;simp only[Rw.ok,aM,aH,aW] at U0;intro r7 Ua m7 g7 _;refine⟨r7,Ua,_,rfl,⟨by first | decide | lia,by first | decide | lia⟩,aa,λH7 T7 T9=>⟨rfl,?_⟩⟩;have s7:ak H3 H7:=λb o e=>T7 b o (by rw[ai (af e m7),ai (af e g7)];exact e) (af e m7);have w7:bA a H7 r7 (.dA _):=⟨Ua,T9⟩
     clear T7 T9;symm;intro r8 T_ m8 g8 _;refine⟨r8,T_,_,rfl,⟨by first | decide | lia,by first | decide | lia⟩,aa,λH8 T6 T8=>⟨rfl,?_⟩⟩;have s8:ak H7 H8:=λb o e=>T6 b o (by rw[ai (af e m8),ai (af e g8)];exact e) (af e m8);have w8:bA a H8 r8 (.call _):=⟨T_,T8⟩
     clear T6 T8;symm;rename_i l9 n9;rw[show decide (V.str (aae "call")=V.str (aae "call"))=true from by nofun];refine .inr ⟨_,rfl,?_⟩;rw[if_pos rfl];refine cy (aq.of aa) (v:=.ref r8) rfl ?_;exact q r8 _ (S3.trans (s7.trans (s8.trans (ae n9)))) (aF (S3.trans s7) m8) (w8.same (ae n9))
   case back b =>
     have Tr:H p=some (.tup [.str "back",.int b]):=hp;clear hp;symm;rename_i l1 n1;refine bP (b:=false) aa rfl rfl (by nofun) λH1 s1=>?_;have S1:ak H H1:=((ae n1).trans s1)
     have T2:=S1 _ _ Tr;clear s1 n1;symm;rename_i l2 n2;refine bP (b:=false) aa rfl rfl (by nofun) λH2 s2=>?_;have S2:ak H H2:=S1.trans ((ae n2).trans s2);have UE:=S2 _ _ Tr;clear s2 n2 S1 T2;symm;rename_i l3 n3;refine bP (b:=true) aa rfl rfl (by nofun) λH3 s3=>?_;have S3:ak H H3:=S2.trans ((ae n3).trans s3);have hp3:=S3 _ _ Tr;clear s3 n3 S2 UE;symm;have U0:=ok;simp only[Rw.ok,aM,aH,aW] at U0;intro r7 Ua m7 g7 _;refine⟨r7,Ua,_,rfl,⟨by first | decide | lia,by first | decide | lia⟩,aa,λH7 T7 T9=>⟨rfl,?_⟩⟩;have s7:ak H3 H7:=λb o e=>T7 b o (by rw[ai (af e m7),ai (af e g7)];exact e) (af e m7);have w7:bA a H7 r7 (.back _):=⟨Ua,T9⟩
     clear T7 T9;symm;intro r8 T_ m8 g8 _;refine⟨r8,T_,_,rfl,⟨by first | decide | lia,by first | decide | lia⟩,aa,λH8 T6 T8=>⟨rfl,?_⟩⟩;have s8:ak H7 H8:=λb o e=>T6 b o (by rw[ai (af e m8),ai (af e g8)];exact e) (af e m8);have w8:bA a H8 r8 (.drop _):=⟨T_,T8⟩
     clear T6 T8;symm;rename_i l9 n9;rw[show decide (V.str (aae "back")=V.str (aae "drop"))=false from by nofun];refine .inr ⟨_,rfl,?_⟩;rw[if_neg (show ¬ (false=true) by decide)];refine cy (aq.of aa) (v:=.ref r7) rfl ?_;exact q r7 _ (S3.trans (s7.trans (s8.trans (ae n9)))) (aF S3 m7) (w7.same (s8.trans (ae n9)))
   case drop b =>
     have Tr:H p=some (.tup [.str "drop",.int b]):=hp;clear hp;symm;rename_i l1 n1;refine bP (b:=false) aa rfl rfl (by nofun) λH1 s1=>?_;have S1:ak H H1:=((ae n1).trans s1)
     have T2:=S1 _ _ Tr;clear s1 n1;symm;rename_i l2 n2;refine bP (b:=false) aa rfl rfl (by nofun) λH2 s2=>?_;have S2:ak H H2:=S1.trans ((ae n2).trans s2);have UE:=S2 _ _ Tr;clear s2 n2 S1 T2;symm;rename_i l3 n3;refine bP (b:=true) aa rfl rfl (by nofun) λH3 s3=>?_;have S3:ak H H3:=S2.trans ((ae n3).trans s3);have hp3:=S3 _ _ Tr;clear s3 n3 S2 UE;symm;have U0:=ok;simp only[Rw.ok,aM,aH,aW] at U0;intro r7 Ua m7 g7 _;refine⟨r7,Ua,_,rfl,⟨by first | decide | lia,by first | decide | lia⟩,aa,λH7 T7 T9=>⟨rfl,?_⟩⟩;have s7:ak H3 H7:=λb o e=>T7 b o (by rw[ai (af e m7),ai (af e g7)];exact e) (af e m7);have w7:bA a H7 r7 (.back _):=⟨Ua,T9⟩
     clear T7 T9;symm;intro r8 T_ m8 g8 _;refine⟨r8,T_,_,rfl,⟨by first | decide | lia,by first | decide | lia⟩,aa,λH8 T6 T8=>⟨rfl,?_⟩⟩;have s8:ak H7 H8:=λb o e=>T6 b o (by rw[ai (af e m8),ai (af e g8)];exact e) (af e m8);have w8:bA a H8 r8 (.drop _):=⟨T_,T8⟩
     clear T6 T8;symm;rename_i l9 n9;rw[show decide (V.str (aae "drop")=V.str (aae "drop"))=true from by nofun];refine .inr ⟨_,rfl,?_⟩;rw[if_pos rfl];refine cy (aq.of aa) (v:=.ref r8) rfl ?_;exact q r8 _ (S3.trans (s7.trans (s8.trans (ae n9)))) (aF (S3.trans s7) m8) (w8.same (ae n9))
end
section
theorem I_ {K:W.Frag}{b:Addr}{g:TG}{tb:TS}{D:Ends}(Pv:Nat->L2.St->Hp->Prop)(h0:Pv 0 Z H)(hl:∀ i Z H,i<=xs.length->Pv i Z H->aq K H b xs)
   (hs:∀ i x T Z H,xs[i]? = some x->Pv i Z H->H T=none->g (.ref T) Z (upd H T (.tup [.int ((i:Int)+1),x])) λZ2 H2=>tb { D with nx:=Pv (i+1),ct:=Pv (i+1),bk:=D.nx } Z2 H2) (hd:∀ Z H,Pv xs.length Z H->D.nx Z H):zL (J9 K b) g tb D Z H:=by
 refine⟨λi m Z H=>m=xs.length - i/\i<=xs.length/\Pv i Z H,⟨xs.length,by simp,aaX _,h0⟩,?_⟩;rintro i m Z H ⟨rfl,hi,p⟩;have q1:=hl i Z H hi p;by_cases SV:i<xs.length
 . refine .inr ⟨⟨xs, xs[i], q1, by simp[SV]⟩, Pv (i + 1), λZ' H' p' => ⟨xs.length - (i + 1), by omega, rfl, SV, p'⟩, λx H' y => ?_⟩;obtain⟨T,x',rfl,hT,rfl,WU⟩:=y;exact hs i x' T Z H (WU _ q1) p hT
 . have e : i = xs.length := by omega
   subst e;exact .inl ⟨⟨xs,q1,aah _⟩,hd Z H p⟩
theorem cA.at2:∀ {vs:List V} {cs:List bT} {i:Nat} {v:V},cA H vs cs->vs[i]? = some v->∃ c,cs[i]? = some c/\jC H v c
 | [],cs,i,v,_,e=>by simp at e
 | u::vs,[],i,v,h,_=>h.elim
 | u :: vs, c :: cs, 0, v, h, e => by
   cases e
   exact⟨c,rfl,h.1⟩
 | u::vs,c::cs,i+1,v,h,e=>cA.at2 (vs:=vs) (cs:=cs) (i:=i) h.2 (by simpa using e)
theorem vn (T:TX):ME 5 a.aw "drop" (Nq K a):=by
 refine ay 4 T.cb T.wg gY ?_ ?_;ac_nf
 . obtain⟨m, pk, pt, v, S, es, kvs, rfl, MM, O, TT, LO, SV, TF, q⟩ := h;obtain⟨ev,TI,EV⟩:=id TT;obtain⟨dx,pc,ph,pl,fs,prs,cs,M⟩:=id MM;obtain⟨dt,l,d,ht,hl,hd,W6⟩:=id TI;have f1:=M.f.ar;have f2:=M.f.held;have f3:=M.f.cells;have f5:=M.f.aU;have f6:=M.f.table;have fl:=M.f.len;have fn:=M.f.no;have hm:=M.hm;have hh:=M.hh;have S6:=M.hl;have hmany:=O.many;have ha0:=O.gm;have hwl:=Bb 5000 S.ar (S.held.map V.int) S.cells (es:=es);have hwv:=O.walk es;unfold MS.walk at hwv;unfold MS.dropped at q;walk_at"h";have nd:=gY.nd;refine' aR ?_ ?_
   exact (HH rfl rfl rfl (Lk (i := 2) gY.nd rfl (Or.inl rfl) (Lz (EM T) (hr.mono (by decide)) rfl (ah (cN (K := K) rfl (pv 0)) (ah (cN (K := K) rfl (pv 0)) (ah (cN (K := K) rfl (pv 0)) (ah (cN (K := K) rfl (pv 0)) ax)))))) T.xW.choose_spec rfl (λea => (aR (wC (K := K) rfl (pv 0) gK)
     (fE CM))))
   walk_at"n";walk_at"g";exact(Lr (K:=K) rfl rfl T.Cw (ah (pv 2) ax) aL);walk_at"tG";walk_at"m";walk_at"f";exact(PW.pt (oG (dS (mE (K:=K) rfl hr.units) (bV (cS (K:=K) rfl) (pv 4) aL (λ_ _=>rfl)) (cN (K:=K) rfl (pv 0)) (dI _)) (qE (AE (zN (iC hr) (cF jQ (bV (cS (K:=K) rfl) (pv 4) aL (λ_ _=>rfl)) aL) (cN (K:=K) rfl (cN (K:=K) rfl (pv 0))))))));walk_at"tB";exact cB;exact λ_=>rfl;walk_at"c";walk_at"m";walk_at"tS";walk_at"s";symm;refine⟨pt,dt,l,d,ph,pl,S.ar,ev,es,S.held.map V.int,S.cells,rfl,ht,hl,EV,aq.of hh,O.kn,aq.of S6,O.pl,⟨by lia,by lia⟩,λhW p us H1 s1 np hp UG=>?_,λr hW d1 H1 s1 Uv=>⟨rfl,d1,rfl,?_⟩⟩
   . rw [hW] at q;dsimp only at q;have Tf:=s1 _ _ hm;have M1:=M.to s1;have Uv:=s1 _ _ hd;have ht1:=s1 _ _ ht;unfold fU at ht1;generalize hcals:(bg es 5000 S.ar (S.held.map V.int) S.cells).1=cals at q UG hwl hwv;symm;refine ⟨p,us,rfl,rfl,aq.of hp,?_⟩;refine I_ (xs:=us) (λi Z H2=>(∃ u w,Z = [some (.ref m),some (.int v),some (.ref p),u,w])/\ak H1 H2/\∀ j c,j<i->cals[j]? = some c->landAt S.rows.length kvs c=false) ⟨⟨_,_,rfl⟩,ak.refl _,λj c hj=>absurd hj (acb _)⟩ (λi Z H2 _ ⟨_,s,_⟩=>aq.of (s _ _ hp)) ?_ ?_
     . rintro i x T1 Z H2 hx ⟨⟨u,w,rfl⟩,s2,Vz⟩ hT;obtain⟨c,hc,VI⟩:=cA.at2 UG hx;obtain⟨t,q',rfl,UT,W0⟩:=id VI;have W4:=s2 _ _ Tf;have Uu:=s2 _ _ Uv;have UI:=s2 _ _ ht1;have hq12:=s2 _ _ UT;have inv:landAt S.rows.length kvs c=false->∀ j c',j<i+1->cals[j]? = some c'->landAt S.rows.length kvs c'=false:=λhf j c' hj e=>by
         rcases Nat.lt_or_ge j i with z | z
         . exact Vz j c' z e
         . have : j = i := by lia
           subst this;rw[hc] at e;cases e;exact hf
       by_cases hr1:c.r=(S.rows.length:Int)
       . symm;exact⟨⟨_,_,rfl⟩,by walk_at"same",inv (by unfold landAt;rw[decide_eq_false (λz=>z hr1)];rfl)⟩
       . symm;refine DG ?_;symm;refine Bv (by walk_at"hlk") ?_;cases hv:b3 kvs (.inl (c.r - 1)) with
         | none =>
           symm;exact⟨⟨_,_,rfl⟩,by walk_at"same",inv (by unfold landAt;rw[hv,Bool.and_comm];rfl)⟩
         | some val =>
           obtain⟨n,rfl⟩:=LO _ _ hv;have hfi:cals.findIdx? (landAt S.rows.length kvs)=some i:=by
             rw[List.findIdx?_eq_some_iff_getElem];have hi:i<cals.length:=(List.getElem?_eq_some_iff.mp hc).1;have VP:cals[i]=c:=(List.getElem?_eq_some_iff.mp hc).2;refine⟨hi,?_,λj hj=>?_⟩
             . rw[VP];unfold landAt;rw[hv,decide_eq_true hr1];rfl
             . have hj' : j < cals.length := by lia
               have:=Vz j cals[j] hj (aaa hj')
               rw[this];exact aan
           rw[hfi] at q;dsimp only at q;rw[hc] at q;dsimp only at q;have hln:uh kvs c=some n:=by unfold uh;rw[hv]
           rw[hln] at q;dsimp only at q;rw[adF];symm;refine aK (by walk_at"hlk") (fn _ (by nofun)) ((uz T).mono (by decide)) ?_;symm;have Ug:ak H (upd H2 T1 (.tup [.int ((i:Int)+1),.ref t])):=s1.trans (s2.trans (ae hT));refine⟨m,pk,pt,t,v,n,i+1,c,S,es,kvs,rfl,MM.to Ug,O,TT.same Ug,(VI.same s2).same (ae hT),(hwv c (aaj hc)).2.2.2,TF,hv,λH' k M'=>?_⟩;symm;exact q H' ((aN.of_same Ug).trans k) M'
     . rintro Z H2 ⟨⟨u,w,rfl⟩,s2,Vz⟩;have W4:=s2 _ _ Tf;have hfi:cals.findIdx? (landAt S.rows.length kvs)=none:=by
         rw[List.findIdx?_eq_none_iff];intro c hc;obtain⟨j,hj,e⟩:=List.mem_iff_getElem.mp hc;have SO:=UG.len;exact Vz j c (by lia) (by rw[aaa hj,e])
       rw[hfi] at q;symm;rw[iI];exact q _ (aN.nh (aN.of_same (s1.trans s2))) ⟨dx,pc,ph,pl,_,prs,cs,(M1.to s2).wm aN.refl W4 (M1.to s2).hh (M1.to s2).hl (M1.to s2).hk ((M1.to s2).clsAt aN.refl) M.n2 M.n3 ((M.f.setState _).MB _)⟩
   . rw[hW] at q;have Tf:=s1 _ _ hm;symm;exact q _ (aN.nh (aN.of_same s1)) (M.qL s1 _)
def QE (H:Hp)(i:Int)(v:V)(o:Int×Option Wt):Prop:=∃ q,v=.ref q/\H q=some (.tup [.int i,.int o.1,oV o.2])
def eM (H:Hp)(i:Int)(vs:List V)(os:List (Int×Option Wt)):Prop:=vs.length=os.length/\∀ (k:Nat) (o:Int×Option Wt),os[k]? = some o->∃ v,vs[k]? = some v/\QE H i v o
theorem eM.to {os:List (Int×Option Wt)}(h:eM H i vs os)(s:∀ b xs,H b=some (.tup xs)->H' b=some (.tup xs)):eM H' i vs os:=⟨h.1,λk o e=>let ⟨v,e1,q,e2,e3⟩:=h.2 k o e;⟨v,e1,q,e2,s _ _ e3⟩⟩
theorem eM.same {os:List (Int×Option Wt)}(h:eM H i vs os)(s:ak H H'):eM H' i vs os:=h.to λ_ _ e=>s _ _ e
theorem eM.nil:eM H i [] []:=⟨rfl,λi c e=>by simp at e⟩
theorem eM.app {cs ds:List (Int×Option Wt)}(h:eM H i vs cs)(k:eM H i us ds):eM H i (vs++us) (cs++ds):=by
 refine⟨by rw[aab,aab,h.1,k.1],λj o e=>?_⟩;by_cases hi:j<cs.length
 . rw[aao hi] at e;obtain⟨u,e1,e2⟩:=h.2 j o e;exact⟨u,by rw[aao (by rw[h.1];exact hi)];exact e1,e2⟩
 . rw[aaq (by lia)] at e;obtain⟨u,e1,e2⟩:=k.2 _ o e;exact⟨u,by rw[aaq (by rw[h.1];lia),h.1];exact e1,e2⟩
theorem eM.one {v:V}{o:Int×Option Wt}(h:QE H i v o):eM H i [v] [o]:=⟨rfl,λk c' e=>by
 cases k with
 | zero=>simp at e;subst e;exact⟨v,rfl,h⟩
 | succ k=>simp at e⟩
theorem Gr (h:d9 r e=none) : 0<=e.h/\e.h<=4000/\(r.aB e.h).isSome=true:=by
 unfold d9 at h;split at h
 . cases h
 . rename_i hw;unfold dz at hw;simp only[Bool.not_eq_true,Bool.or_eq_false_iff,decide_eq_false_iff_not] at hw;split at h
   . cases h
   . rename_i hg;exact⟨by omega,by omega,by cases hx:r.aB e.h with | none=>exact absurd hx hg | some z=>rfl⟩
theorem Ht (r:Rw)(i:Int):(r.du i).length<=4000:=by cases r <;> exact aa2 rfl
theorem Iq (r:Rw)(i:Int):(once (r.du i)).length<=9:=by
 cases r <;> simp[Rw.du,once]
 split <;> simp
theorem qT (T:TX):FE 5 "row_complaints" (MN K a):=by
 refine a_ 4 T.qU fK ?_ ?_;ac_nf
 . obtain ⟨c, l, i, prs, rs, ev, es, rfl, hc, Te, hl, Tg, E', hi, hre, q⟩ := h;have SS:=Te.1;have WW:rs[i]? = some rs[i]:=aaa hi;obtain ⟨p,hp⟩:∃ p,prs[i]? = some p:=⟨_,aaa (by lia)⟩
   obtain⟨dx,hx⟩:=Te.2 i p _ hp WW;obtain⟨ok,hh⟩:=E'.ok _ (aaV hi);obtain⟨v,oe,Tx,T5,TU,hv⟩:=Tg.at (c:=(i:Int)) (by lia) (by lia)
   rw[aaE] at T5;have hatp:b_ (prs.map V.ref) (i:Int)=some (.ref p):=bw (by rw[aag,hp];rfl);unfold ni at q;rw[WW,T5,Option.join_some] at q;generalize rs[i]=r at *;walk_at"h";have nd:=fK.nd;refine' aR ?_ ?_;walk_at"tS";walk_at"c";walk_at"c";walk_at"c";walk_at"c";walk_at"n";exact(fw (i:=6) fK.nd rfl rfl (own:=["coming"]) (fr:=[("entries",1),("at",2),("row",3),("entry",4)]) rfl ⟨rfl,(by walk_at"clok"),(by walk_at"frok"),rfl,(by nofun),(by nofun),rfl⟩ (dR (K:=K) rfl (be (zY T) (hr.mono (by decide)) bQ rfl (ah (Be (P:=P) (w:=w) (K:=K) (mg:=mg) (base:=base) (k:=1) ⟨rfl,rfl,rfl,rfl,rfl⟩ (pv 3) (hr.mono (by decide)) bQ (ah (pv 2) ax)) ax))) (λ_ _ _ _=>(bO (i:=0) (show aa6 [("coming" : Str),("entries" : Str),("at" : Str),("row" : Str),("entry" : Str)] from by nofun) rfl (Or.inl rfl))) (λ_ _ _ _=>c_) (λ_ _ _ _=>(mH (ah (pv 2) (ah (pv 0) (ah (be (jA T) (hr.mono (by decide)) bQ rfl (ah (pv 3) (ah (pv 4) (ah (pv 0) (ah (pv 1) ax))))) ax))))));walk_at"c";walk_at"m";exact(iO (fA (own:=["complaint"]) (fr:=[]) rfl ⟨rfl,(by walk_at"clok"),(by walk_at"frok"),rfl,(by nofun),(by nofun),rfl⟩ (dR (K:=K) rfl (pv 6)) (λ_ _ _ _=>(bO (i:=0) (show aa6 [("complaint" : Str)] from by nofun) rfl (Or.inl rfl))) (λ_ _ _ _=>(wF (dS Ab (bV (cS (K:=K) rfl) (pv 0) aL (λ_ _=>rfl)) jq (dI _)))) (λ_ _ _ _=>(pv 0))));walk_at"s";symm;cases oe with
   | none =>
     cases hv
     symm;rename_i l1 VW;exact q l1 [] _ (ae VW) aa cp.nil VW
   | some e =>
     have q:∀ p us H',ak H H'->H' p=some (.lst us)->cp H' us (qj r e i es)->H p=none->Q (.ref p) H':=q;obtain⟨pe,rfl,he⟩:=id hv;have nn:=E'.nn e TU;symm;refine⟨p,pe,r,e,rfl,⟨dx,hx⟩,ok,hh,he,λH1 s1=>?_⟩;have Vy:=s1 _ _ hx;have he1:=he.same s1;have VB:=s1 _ _ hl;have hev1:=Tg.same s1;unfold qj at q;cases ho:d9 r e with
     | some w =>
       rw[ho] at q;show bh 5 w.v _ _ _;symm;rename_i t nt l1 VW;exact q l1 [.ref t] _ (s1.trans (by walk_at"same")) aa (cp.one ⟨t,rfl,by bv_omega⟩) (aF s1 (by walk_at"none"))
     | none =>
       rw[ho] at q;show bh 5 V.aA _ _ _;have hnw : 0<=e.h/\e.h<=4000/\(r.aB e.h).isSome=true:=Gr ho;obtain⟨e0,e4,hs⟩:=hnw;have nl0:∀ b,H1 b=none->H b=none:=λb z=>aF s1 z;symm;refine aK Vy (xp _) ((r_ T hh).mono (by decide)) ?_;symm;refine⟨p,(i:Int),rfl,⟨dx,Vy⟩,λg ng=>?_⟩;symm;refine⟨g,r.du i,rfl,aq.of aa,Ht r i,λq1 H2 s2 UT=>?_⟩;have Ug:=(ae (o:=.lst ((r.du i).map V.int)) ng).trans s2;have n2:∀ b,H2 b=none->H b=none:=λb z=>nl0 b (aF Ug z);have s02:=s1.trans Ug;have U2:=Ug _ _ Vy;have he2:=he1.same Ug;have Vp:=Ug _ _ VB;have hev2:=hev1.same Ug;clear Ug s2 ng s1 Vy he1 VB hev1 hx hl Tg he hv nl0 hc Te;symm;have hol:=Iq r i;refine gf (K:=K) (a:=q1) (xs:=(once (r.du i)).map V.int) (λk ys Z H3=>(∃ u,Z = [u,some (.ref l),some (.int (i:Int)),some (.ref p),some (.ref pe)])/\ak H2 H3/\eM H3 i ys (((once (r.du i)).take k).map λc=>(c,fg r e c es))) ⟨⟨_,rfl⟩,ak.refl _,eM.nil⟩ (λk ys Z H3 hk ⟨_,s3,e3⟩=>⟨aq.of (s3 _ _ UT),by have:=e3.1;rw[aac,aaz] at this;rw[aaI];lia⟩) ?_ ?_
       . rintro k v ys Z H3 hk ⟨⟨u,rfl⟩,s3,ho3⟩;obtain⟨cc,hcc,rfl⟩:∃ n,(once (r.du i))[k]? = some n/\v=.int n:=by
           rw[aag] at hk;obtain⟨p,hp,e⟩:=Option.map_eq_some_iff.mp hk;exact⟨p,hp,e.symm⟩
         symm;refine⟨p,pe,l,cc,r,e,ev,es,rfl,⟨dx,s3 _ _ U2⟩,ok,hh,he2.same s3,nn,e0,e4,hs,s3 _ _ Vp,hev2.same s3,E'.nn,λH4 s4=>?_⟩;symm;rename_i t nt;refine⟨⟨_,rfl⟩,(s3.trans s4).trans (ae nt),?_⟩;rw[abz,hcc,abq,aaF];exact((ho3.same s4).same (ae nt)).app (eM.one ⟨t,rfl,aa⟩)
       rintro ys Z H3 ⟨_,s3,ho3⟩;rw[aac,aaU] at ho3;symm;rename_i lf Vj;have sn:=s3.trans (ae (o:=.lst ys) Vj);have U4:(upd H3 lf (.lst ys)) lf=some (.lst ys):=aa;have ho4:=ho3.same (ae (o:=.lst ys) Vj);have n4:H lf=none:=n2 lf (aF s3 Vj);clear s3 Vj ho3;generalize upd H3 lf (.lst ys)=H4 at sn U4 ho4 ⊢;have s04:=s02.trans sn;have hx4:=sn _ _ U2;have hl4:=sn _ _ Vp;have hev4:=hev2.same sn;clear sn s02 U2 he2 Vp hev2 UT n2;have kk:∀ (lf:Addr) (H5:Hp),(∃ us os,ak H H5/\H5 lf=some (.lst us)/\eM H5 i us os/\os.length<=10/\(os.filterMap λo=>o.2.map λw=>Cm.mk i o.1 w)=((once (r.du i)).filterMap λc=>(fg r e c es).map λw=>Cm.mk i c w)++tJ r i es)->iE (xO K lf) (bh 0) (dB (bF kK (bF (dk K) (aC 0) (tC (V.int 2))) (tC V.aA))) (aC 0) (λys H3=>∀ p,H3 p=none->Q (V.ref p) (upd H3 p (HO.lst ys))) [none] H5:=by
         rintro lf H5 ⟨us,os,s5,U4,ho5,h10,hfm⟩;rw[<- hfm] at q;clear hfm;have Vo:=ho5.1;refine gf (K:=K) (a:=lf) (xs:=us) (λk ys Z H6=>(∃ u,Z = [u])/\H6=H5/\cp H5 ys ((os.take k).filterMap λo=>o.2.map λw=>Cm.mk i o.1 w)/\ys.length<=k) ⟨⟨_,rfl⟩,rfl,cp.nil,aah _⟩ (λk ys Z H6 hk ⟨_,e6,_,e7⟩=>⟨by rw[e6];exact aq.of U4,by rw[aaI];lia⟩) ?_ ?_
         . rintro k v ys Z H6 hk ⟨⟨u,rfl⟩,rfl,VD,Vx⟩;have TQ:k<os.length:=by rw [<- Vo];exact (List.getElem?_eq_some_iff.mp hk).1
           obtain⟨v',hv',qq,e1,e2⟩:=ho5.2 k _ (aaa TQ);rw[hk] at hv';cases hv'
           subst e1;rw[abz,aaa TQ,abq,List.filterMap_append];generalize os[k]=o at e2 ⊢;obtain⟨cc,ow⟩:=o;symm;cases ow with
           | none =>
             show kK V.aA V.aA _ _;symm;exact⟨⟨_,rfl⟩,rfl,by rw[show List.filterMap (λo:Int×Option Wt=>o.2.map λw=>Cm.mk i o.1 w) [(cc,none)]=[] from rfl,aaL];exact VD,by lia⟩
           | some w =>
             show kK w.v V.aA _ _;symm;exact⟨⟨_,rfl⟩,rfl,VD.app (cp.one (c:=⟨i,cc,w⟩) ⟨qq,rfl,e2⟩),by rw[aab];show _+1<=_+1;lia⟩
         . rintro ys Z H6 ⟨_,rfl,VD,Vx⟩;rw[Vo,aaU] at VD;intro p1 np1;exact q p1 ys _ (s5.trans (ae np1)) aa (VD.same (ae np1)) (aF s5 np1)
       obtain⟨t',ty,kc,kb⟩:=lG T hh ⟨dx,hx4⟩;cases hC:r.isCall with
       | false =>
         rw[hC] at kc
         with_reducible refine(?_:iW _ _ _ _)
         refine eY (λz=>by cases z) ty kc ?_;symm;refine kk lf H4 ⟨ys,_,s04,U4,ho4,by rw[aac];lia,?_⟩;rw[adM,show tJ r i es=[] from(by cases r <;> first | rfl | cases hC),aaL];rfl
       | true =>
         obtain⟨t,hrt⟩:∃ t,r=.call t:=by cases r <;> first | exact⟨_,rfl⟩ | cases hC
         rw[hC] at kc
         with_reducible refine(?_:iW _ _ _ _)
         refine eY (b:=true) (λz=>by cases z) ty kc ?_;rw[hrt] at hx4
         change H4 p=some (.ins a.aV dx (av "target" (.int t) [])) at hx4
         symm;refine⟨p,l,t,ev,es,rfl,⟨dx,hx4⟩,hl4,hev4,λH5 s5=>?_⟩;have hlf5:=s5 _ _ U4;have ho5:=ho4.same s5;have Vx:ys.length<=10:=by rw[ho4.1,aac];lia
         symm;rename_i tt Tv;have ho6:=(ho5.same (ae (o:=.tup [.int (i:Int),.int t,oV (eI t es)]) Tv)).app (eM.one (i:=i) (o:=(t,eI t es)) ⟨tt,rfl,aa⟩);have kb6:∀ (b:Addr) (xs:List V),(upd H5 tt (.tup [.int (i:Int),.int t,oV (eI t es)])) b=some (.tup xs)->(upd (upd H5 tt (.tup [.int (i:Int),.int t,oV (eI t es)])) lf (.lst (ys++[.ref tt]))) b=some (.tup xs):=λb xs e=>by
           rw[ai (λz=>by subst z;rw[aj hlf5 Tv] at e;cases e)];exact e
         have ho7:=ho6.to kb6;have s07:ak H (upd (upd H5 tt (.tup [.int (i:Int),.int t,oV (eI t es)])) lf (.lst (ys++[.ref tt]))):=λb o e=>by
           rw[ai (af e n4)];exact(s04.trans (s5.trans (ae Tv))) b o e
         have hlf7:(upd (upd H5 tt (.tup [.int (i:Int),.int t,oV (eI t es)])) lf (.lst (ys++[.ref tt]))) lf=some (.lst (ys++[.ref tt])):=aa;clear kb6 ho6 ho5 hlf5;generalize (upd (upd H5 tt (.tup [.int (i:Int),.int t,oV (eI t es)])) lf (.lst (ys++[.ref tt])))=H7 at ho7 s07 hlf7 ⊢;refine kk lf H7 ⟨_,_,s07,hlf7,ho7,by rw[aab,aac];show _+1<=10;lia,?_⟩;rw[List.filterMap_append,adM,show tJ r i es=((eI t es).map λw=>Cm.mk i t w).toList from by rw[hrt];rfl];show _++(List.filterMap _ [(t,eI t es)])=_++((eI t es).map λw=>Cm.mk i t w).toList;cases eI t es <;> rfl
theorem D7 (h:d9 r e=none) : 0<=e.h/\e.h<=4000/\(r.aB e.h).isSome=true:=by
 unfold d9 at h;split at h
 . cases h
 . rename_i hw;unfold dz at hw;simp only[Bool.not_eq_true,Bool.or_eq_false_iff,decide_eq_false_iff_not] at hw;split at h
   . cases h
   . rename_i hg;exact⟨by omega,by omega,by cases hx:r.aB e.h with | none=>exact absurd hx hg | some z=>rfl⟩
theorem mS (T:TX):FE 5 "landing_complaint" (LR K a):=by
 refine a_ 4 T.m_ gA ?_ ?_;ac_nf
 . obtain⟨c, l, i, z, prs, rs, ev, es, rfl, hc, Te, hl, Tg, E', hre, q⟩ := h;have SS:=Te.1;unfold m6 at q;walk_at"h";have nd:=gA.nd;walk_at"v";symm;refine⟨i,l,ev,rfl,aq.of hl,?_⟩;rw[Tg.1];by_cases VQ : 0<=i/\i<(es.length:Int)
   . rw [decide_eq_true VQ];rw [if_pos VQ] at q;have hi:i.toNat<rs.length:=by omega
     have WW:rs[i.toNat]? = some rs[i.toNat]:=aaa hi;obtain⟨p,hp⟩:∃ p,prs[i.toNat]? = some p:=⟨_,aaa (by omega)⟩
     obtain⟨dx,hx⟩:=Te.2 _ p _ hp WW;obtain⟨ok,hh⟩:=E'.ok _ (aaV hi);obtain⟨v,oe,Tx,T5,TU,hv⟩:=Tg.at VQ.1 VQ.2;have hatp:b_ (prs.map V.ref) i=some (.ref p):=by
       rw[show i=((i.toNat:Nat):Int) from by omega];exact bw (by rw[aag,hp];rfl)
     rw[WW,T5,Option.join_some] at q;generalize rs[i.toNat]=r at *;have q:∀ H',ak H H'->Q (oV (yY r oe z es)) H':=q;unfold yY at q;symm;obtain⟨t',ty,kc,kb⟩:=lG T hh ⟨dx,hx⟩;refine eY (λz=>by cases z) ty kc ?_;cases hC:r.isCall with
     | false =>
       rw[hC] at q;symm;exact q _ (ak.refl _)
     | true =>
       rw[hC] at q;symm;cases oe with
       | none =>
         cases hv
         symm;exact q _ (ak.refl _)
       | some e =>
         have q:∀ H',ak H H'->Q (oV (if (d9 r e).isSome=true then none else fg r e z es)) H':=q;obtain⟨pe,rfl,he⟩:=id hv;symm;refine⟨p,pe,r,e,rfl,⟨dx,hx⟩,ok,hh,he,λH1 s1=>?_⟩;cases ho:d9 r e with
         | some w =>
           rw[ho] at q;symm;show kK w.v V.aA _ _;symm;exact q _ s1
         | none =>
           rw[ho] at q;obtain⟨e0,e4,hs⟩:=D7 ho;have Vy:=s1 _ _ hx;have Vq:=s1 _ _ hc;symm;show kK V.aA V.aA _ _;symm;exact⟨p,pe,l,z,r,e,ev,es,rfl,⟨dx,Vy⟩,ok,hh,he.same s1,E'.nn e TU,e0,e4,hs,s1 _ _ hl,Tg.same s1,E'.nn,λH2 s2=>q _ (s1.trans s2)⟩
   . rw[decide_eq_false VQ];rw[if_neg VQ] at q;symm;exact q _ (ak.refl _)
theorem yq (T:TX):iR P w K mg base (eV P w) 5 "entries_of" (M8 K a):=by
 refine Al 4 T.yw eR ?_ ?_;ac_nf
 . obtain ⟨c, d, prs, rs, ls, rfl, hc, Te, az, Ta, S6, hd, qe, q⟩ := h;have SS:=Te.1;walk_at "h";have nd:=eR.nd;refine' aR ?_ ?_;walk_at "x";walk_at "tS";walk_at "n";walk_at "x";exact (c8 (i:=2) eR.nd rfl (Or.inr rfl) (fA (own:=["at"]) (fr:=[("code",0),("landings",1)]) rfl ⟨rfl,(by walk_at "clok"),(by walk_at "frok"),rfl,(by nofun),(by nofun),rfl⟩ (fo rfl T.f9 (ah (cJ (eG (K:=K) rfl) rfl T.jb je (ah (pv 0) ax)) ax)) (λ_ _ _ _=>(bO (i:=0) (show aa6 [("at" : Str),("code" : Str),("landings" : Str)] from by nofun) rfl (Or.inl rfl))) (λ_ _ _ _=>c_) (λ_ _ _ _=>(be (EK T) (hr.mono (by decide)) bQ rfl (ah (pv 1) (ah (pv 2) (ah (pv 0) ax)))))));walk_at "n";exact (c8 (i:=3) eR.nd rfl (Or.inr rfl) (be (yr T) (hr.mono (by decide)) lN rfl (ah (pv 0) (ah (pv 2) ax))));walk_at "n";walk_at "x";exact (fw (i:=4) eR.nd rfl rfl (own:=["first"]) (fr:=[("code",0),("ways",2),("heights",3)]) rfl ⟨rfl,(by walk_at "clok"),(by walk_at "frok"),rfl,(by nofun),(by nofun),rfl⟩ (dR (K:=K) rfl (be (gT T) (hr.mono (by decide)) bQ rfl (ah (gu (v:=V.ref a.jn) rfl T.lR rfl) ax))) (λ_ _ _ _=>(bO (i:=0) (show aa6 [("first" : Str),("code" : Str),("ways" : Str),("heights" : Str)] from by nofun) rfl (Or.inl rfl))) (λ_ _ _ _=>c_) (λ_ _ _ _=>(be (zo T) (hr.mono (by decide)) bQ rfl (ah (pv 1) (ah (pv 2) (ah (pv 3) (ah (pv 0) ax)))))));walk_at "n";walk_at "x";walk_at "tS";walk_at "n";walk_at "x";walk_at "g";exact (Mz (K:=K) rfl rfl T.ze (ah (pv 3) (ah (bV (cS (K:=K) rfl) (pv 4) aL (λ_ _=>rfl)) (ah (bV (cS (K:=K) rfl) (pv 4) aL (λ_ _=>rfl)) (ah (bV (cS (K:=K) rfl) (pv 4) aL (λ_ _=>rfl)) (ah (bV (cS (K:=K) rfl) (pv 4) aL (λ_ _=>rfl)) ax))))));walk_at "tG";walk_at "tB";exact λ_=>rfl;walk_at "m";walk_at "x";walk_at "tS";walk_at "s";ac_rfl;refine fj (aq.of hc) ?_;rw [aac,SS];by_cases hz:rs=[]
   . subst hz;ac_rfl;rename_i l nl;exact q l [] [] _ (ae nl) nl aa ⟨rfl,λi oe e=>by simp at e⟩ ⟨rfl,λz=>absurd z (abS 0)⟩
   . have UP : 0 < rs.length := List.length_pos_iff.mpr hz;ac_rfl;refine fj (aq.of hc) ?_;rw [aac,SS];ac_rfl;rw [aaE];refine eK (λi ys Z H1=>(∃ v,Z = [v,some (V.ref c),some (V.ref d)])/\ak H H1/\∃ TM:List Addr,ys=TM.map V.ref/\TM.length=i/\∀ (j:Nat) (p:Addr),TM[j]? = some p->H1 p=some (.lst ((dD rs ls j).map V.int))) ⟨⟨_,rfl⟩,ak.refl _,[],rfl,rfl,λj p e=>by simp at e⟩ ?_ ?_ ?_
     . rintro i ys Z H1 hi ⟨_,_,TM,rfl,e,_⟩;rw[aac,e,aaI];lia
     . rintro i ys Z H1 hi ⟨⟨v,rfl⟩,s1,TM,rfl,hl,hw⟩;ac_rfl;refine ⟨c,d,i,prs,rs,ls,by rw [Int.zero_add],s1 _ _ hc,Te.same s1,az,s1 _ _ hd,S6.1,hi,λp H2 s2 np hp=>?_⟩;refine ⟨⟨_,rfl⟩,s1.trans s2,TM++[p],by rw [aaF];rfl,by rw [aab,hl];rfl,λj p' e=>?_⟩;by_cases hj:j<i
       . rw[aao (by lia)] at e;exact s2 _ _ (hw j p' e)
       . rw[aaq (by lia)] at e;cases hjj:j - TM.length with
         | zero =>
           rw[hjj] at e
           have:p=p':=by simpa using e
           subst this;rw[show j=i by lia];exact hp
         | succ m=>rw[hjj] at e;simp at e
     rintro ys Z H1 ⟨_,s1,TM,rfl,hl,hw⟩ ly nly;have s2:=s1.trans (ae (o:=.lst (TM.map V.ref)) nly);have hwy:qr (upd H1 ly (.lst (TM.map V.ref))) ly rs ls:=⟨TM,aa,hl,λi p e=>aj (hw i p e) nly⟩
     generalize (upd H1 ly (.lst (TM.map V.ref)))=H2 at s2 hwy ⊢;clear s1 nly hl hw;obtain⟨qs',S_,hst2⟩:=T.lX;ac_rfl;refine⟨c,ly,prs,rs,ls,rfl,s2 _ _ hc,Te.same s2,az,UP,Ta,S6,hwy,λhb H' s'=>qe ⟨UP,hb⟩ _ (s2.trans s'),λlh hs H3 s3 VM W7 hO=>?_⟩;have s23:=s2.trans s3;have hwy3:=hwy.same s3;clear s2 hwy s3 VM;ac_rfl;refine⟨a.jn,⟨0,128,16,32,64⟩,rfl,⟨qs',S_ _,hst2 _⟩,λtt Tv=>?_⟩;have s4:=s23.trans (ae (o:=.tup (abC V.int (Ent.mk 0 128 16 32 64).dJ)) Tv);have TJ:=aj (o:=.tup (abC V.int (Ent.mk 0 128 16 32 64).dJ)) W7 Tv;have hwy4:=hwy3.same (ae (o:=.tup (abC V.int (Ent.mk 0 128 16 32 64).dJ)) Tv);have htt:(upd H3 tt (.tup (abC V.int (Ent.mk 0 128 16 32 64).dJ))) tt=some (.tup (firstsD.map λf:Nat=>V.int (f:Int))):=aa;generalize (upd H3 tt (.tup (abC V.int (Ent.mk 0 128 16 32 64).dJ)))=H4 at s4 TJ hwy4 htt ⊢;clear Tv s23;ac_rfl;refine zS (xs:=firstsD.map λf:Nat=>V.int (f:Int)) (λi ys Z H5=>(∃ v,Z = [v,some (V.ref c),some (V.ref ly),some (V.ref lh)])/\ak H4 H5/\∃ ps:List Addr,ys=ps.map V.ref/\ps.length=i/\∀ (j:Nat) (p:Addr) (f:Nat),ps[j]? = some p->firstsD[j]? = some f->∃ ss,H5 p=some (.lst (ss.map cw))/\pO rs ls hs f ss) ⟨⟨_,rfl⟩,ak.refl _,[],rfl,rfl,λj p f e=>by simp at e⟩ ?_ ?_ ?_
     . rintro i ys Z H5 hi ⟨_,s5,ps,rfl,e,_⟩;refine⟨aJ.of (s5 _ _ htt),?_⟩
       have:i<=4:=hi
       rw[aac,e,aaI];lia
     . rintro i x ys Z H5 hx ⟨⟨v,rfl⟩,s5,ps,rfl,hl,hps⟩;rw[aag] at hx;obtain⟨f,hf,rfl⟩:=Option.map_eq_some_iff.mp hx;have hfb:f<2 ^ 4100:=by
         have hm:=aaj hf
         have:f<=128:=by
           simp only[firstsD,aaQ,aaR,or_false] at hm
           lia
         exact abe this (by decide)
       have s45:=s4.trans s5;ac_rfl;refine⟨c,ly,lh,prs,rs,ls,hs,f,rfl,s45 _ _ hc,Te.same s45,az,UP,Ta,S6,hwy4.same s5,s5 _ _ TJ,hO,hfb,λp ss H6 s6 np hp hP=>?_⟩;refine⟨⟨_,rfl⟩,s5.trans s6,ps++[p],by rw[aaF];rfl,by rw[aab,hl];rfl,λj p' f' e ef=>?_⟩;by_cases hj:j<i
       . rw[aao (by lia)] at e;obtain⟨ss',e1,e2⟩:=hps j p' f' e ef;exact⟨ss',s6 _ _ e1,e2⟩
       . rw[aaq (by lia)] at e;cases hjj:j - ps.length with
         | zero =>
           rw[hjj] at e
           have:p=p':=by simpa using e
           subst this;obtain rfl:j=i:=by lia
           rw[hf] at ef;cases ef;exact⟨ss,hp,hP⟩
         | succ m=>rw[hjj] at e;simp at e
     rintro ys Z H5 ⟨_,s5,ps,rfl,hl,hps⟩ lf Vj;obtain⟨p0,p4,p5,p6,rfl⟩:∃ p0 p4 p5 p6,ps=[p0,p4,p5,p6]:=by
       match ps,hl with
       | [p0,p4,p5,p6],_=>exact⟨_,_,_,_,rfl⟩
     obtain⟨sb,hb,Pb⟩:=hps 0 p0 128 rfl rfl;obtain⟨s4',h4,P4⟩:=hps 1 p4 16 rfl rfl;obtain⟨s5',h5,P5⟩:=hps 2 p5 32 rfl rfl;obtain⟨s6',h6,P6⟩:=hps 3 p6 64 rfl rfl;have sn:=ae (o:=.lst ([p0,p4,p5,p6].map V.ref)) Vj;have U4:(upd H5 lf (.lst ([p0,p4,p5,p6].map V.ref))) lf=some (.lst [V.ref p0,V.ref p4,V.ref p5,V.ref p6]):=aa;have s6:=(s4.trans s5).trans sn;have hlh6:=sn _ _ (s5 _ _ TJ);have hb6:=sn _ _ hb;have h46:=sn _ _ h4;have h56:=sn _ _ h5;have h66:=sn _ _ h6;generalize (upd H5 lf (.lst ([p0,p4,p5,p6].map V.ref)))=H6 at s6 U4 hlh6 hb6 h46 h56 h66 ⊢;clear hps sn hb h4 h5 h6 Vj s5 s4 TJ hwy4 htt hwy3 W7;ac_rfl
     with_reducible refine O7 ?_
     ac_rfl;rename_i le WS;have hle:∀ {b:Addr} {o:HO},H6 b=some o->b≠le:=λe z=>by subst z;rw[WS] at e;cases e
     have sn:=ae (o:=.lst []) WS;refine⟨lh,p0,p4,p5,p6,_,_,_,_,_,rfl,aq.of (sn _ _ hlh6),aq.of (sn _ _ hb6),aq.of (sn _ _ h46),aq.of (sn _ _ h56),aq.of (sn _ _ h66),?_⟩;have nleH:H le=none:=aF s6 WS;have SO:=hO.len
     refine Iu (by rw [aac, aac, Pb.pi.len, SO]) (by rw [aac, aac, P4.pi.len, SO]) (by rw [aac, aac, P5.pi.len, SO]) (by rw [aac, aac, P6.pi.len, SO])
       (λi Z HD=>ak H6 HD/\∃ (ev:List V) (u1 u2 u3 u4 u5:Option V),Z = [some (V.ref c),some (V.ref d),some (V.ref ly),some (V.ref lh),some (V.ref lf),some (V.ref le),u1,u2,u3,u4,u5]/\HD le=some (.lst ev)/\nz HD ev ((ab7 i).map (gU hs sb s4' s5' s6')))
       ⟨sn,[],_,_,_,_,_,rfl,aa,nz.nil⟩ (λi Z HD hi ⟨s,_⟩=>⟨aq.of (s _ _ hlh6),aq.of (s _ _ hb6),aq.of (s _ _ h46),aq.of (s _ _ h56),aq.of (s _ _ h66)⟩) ?_ ?_
     . rintro i x1 x2 x3 x4 x5 tn Z HD e1 e2 e3 e4 e5 ⟨s,ev,u1,u2,u3,u4,u5,rfl,Tg,hE⟩ nT;rw[aag] at e1 e2 e3 e4 e5;obtain⟨oh,f1,rfl⟩:=Option.map_eq_some_iff.mp e1;obtain⟨ob,f2,rfl⟩:=Option.map_eq_some_iff.mp e2;obtain⟨o4,f3,rfl⟩:=Option.map_eq_some_iff.mp e3;obtain⟨o5,f4,rfl⟩:=Option.map_eq_some_iff.mp e4;obtain⟨o6,f5,rfl⟩:=Option.map_eq_some_iff.mp e5;clear e1 e2 e3 e4 e5;have hi:i<hs.length:=(List.getElem?_eq_some_iff.mp f1).1;have hz:ev.length<aal:=by
         rw[hE.1,aac,List.length_range,aaI];lia
       have hr:(ab7 (i+1)).map (gU hs sb s4' s5' s6')=(ab7 i).map (gU hs sb s4' s5' s6')++[gU hs sb s4' s5' s6' i]:=by
         rw[List.range_succ,aaF];rfl
       have hnT:tn≠le:=λz=>by subst z;rw[Tg] at nT;cases nT
       have Wj:(upd HD tn (.tup [bI oh,cw ob,cw o4,cw o5,cw o6])) le=some (.lst ev):=aj Tg nT;have sT:=s.trans (ae (o:=.tup [bI oh,cw ob,cw o4,cw o5,cw o6]) nT);have hET:=hE.to (H':=upd HD tn (.tup [bI oh,cw ob,cw o4,cw o5,cw o6])) (λb xs e=>aj e nT);cases oh with
       | none =>
         have VO:gU hs sb s4' s5' s6' i=none:=by unfold gU;rw[f1];rfl
         simp only[bI] at Wj sT hET ⊢;ac_rfl;refine tK Wj hz ?_;refine⟨bK sT WS,ev++[V.aA],_,_,_,_,_,rfl,aa,?_⟩;rw[hr,VO];exact(hET.to (qM Wj)).snoc rfl
       | some h =>
         obtain⟨b,g2⟩:=yZ hO Pb f1;obtain⟨b4,g3⟩:=yZ hO P4 f1;obtain⟨b5,g4⟩:=yZ hO P5 f1;obtain⟨b6,g5⟩:=yZ hO P6 f1;rw[f2] at g2;rw[f3] at g3;rw[f4] at g4;rw[f5] at g5;cases g2;cases g3;cases g4;cases g5
         have VO:gU hs sb s4' s5' s6' i=some ⟨h,b,b4,b5,b6⟩:=by
           unfold gU gN;rw[f1,f2,f3,f4,f5];rfl
         simp only[bI,cw] at Wj sT hET ⊢;ac_rfl;rename_i tq ntq tp ntp;have k1:=aj (o:=.tup [V.int (b4:Int),V.int (b5:Int),V.int (b6:Int)]) Wj ntq;have k2:=aj (o:=.tup [V.int h,V.int (b:Int),V.ref tq]) k1 ntp;have s1:=sT.trans ((ae (o:=.tup [V.int (b4:Int),V.int (b5:Int),V.int (b6:Int)]) ntq).trans (ae (o:=.tup [V.int h,V.int (b:Int),V.ref tq]) ntp));refine tK k2 hz ?_;refine⟨bK s1 WS,ev++[V.ref tp],_,_,_,_,_,rfl,aa,?_⟩;rw[hr,VO];refine((hET.to (λb xs e=>aj (aj e ntq) ntp)).to (qM k2)).snoc ⟨tp,tq,rfl,qM k2 _ _ aa,qM k2 _ _ (aj aa ntp)⟩
     . rintro Z HD ⟨s,ev,u1,u2,u3,u4,u5,rfl,Tg,hE⟩;ac_rfl;refine q le ev _ HD (s6.trans s) nleH Tg hE.ents ⟨?_,λ_=>⟨hs,sb,s4',s5',s6',⟨hO,Pb,P4,P5,P6⟩,λi hi=>?_⟩⟩
       . rw[aac,List.length_range,aac,SO]
       . rw[aag,List.getElem?_range (by rw[aac,SO];exact hi)];rfl
theorem ub (T:TX):ME 6 a.aw "step" (LW K a):=by
 refine ay 5 T.cb T.vP kG ?_ ?_;ac_nf
 . obtain⟨m, pk, pt, S, es, kvs, rfl, MM, O, TT, LO, TF, q⟩ := h;obtain⟨dx,pc,ph,pl,fs,prs,cs,M⟩:=id MM;have f0:=M.f.state;have f1:=M.f.ar;have f2:=M.f.code;have f3:=M.f.held;have fn:=M.f.no;have hm:=M.hm;have hc:=M.hc;have hh:=M.hh;have h8:=O.h8;unfold MS.bj at q;walk_at"h";have nd:=kG.nd;walk_at"v";by_cases hs:V.str S.state=V.str "runs"
   . have UK : S.state = "runs" := by injection hs
     rw[if_pos UK] at q;obtain⟨r,WA,TU⟩:=O.row UK;rw[WA] at q;dsimp only at q;obtain⟨rok,rh0⟩:=O.ok r TU;have a0:=O.gm;have a1:=O.r9 UK;have hl:S.ar.toNat<prs.length:=by rw[M.rows.1];lia
     have hp:prs[S.ar.toNat]? = some prs[S.ar.toNat]:=aaa hl;generalize prs[S.ar.toNat]=p at hp;obtain⟨dxr,S4⟩:=M.rows.2 _ _ _ hp WA;have Tx:b_ (prs.map V.ref) S.ar=some (.ref p):=by
       rw[show S.ar=((S.ar.toNat:Nat):Int) by lia];exact bw (by rw[aag,hp];rfl)
     symm;cases hD:r.d6 with
     | false =>
       have rh:=rh0 hD;rw[wG hD] at q;obtain⟨t1,ty1,kd,_,_⟩:=v_ T rh ⟨dxr,S4⟩
       with_reducible refine(?_:iW _ _ _ _)
       refine eY (λz=>by cases z) ty1 kd ?_;rw[hD];symm;refine aK hm (fn _ (by nofun)) ((yB T).mono (by decide)) ?_;symm;refine⟨m,p,pk,pt,r,S,rfl,MM,O,⟨dxr,S4⟩,TU,hD,M.n4 p (aaj hp),a1,TF,λH' k M'=>?_⟩;symm;exact q H' k M'
     | true =>
       obtain⟨b,rfl⟩:∃ b,r=.drop b:=by cases r <;> first | exact⟨_,rfl⟩ | cases hD
       change H p=some (.ins a.a9 dxr (av "box" (.int b) [])) at S4
       obtain⟨b0,b1⟩:aM b:=rok
       with_reducible refine(?_:iW _ _ _ _)
       refine eY (λz=>by cases z) (.ins S4 T.gc T.ji.1 T.eP T.eU T.ji.2) T.jZ ?_;symm;refine aK hm (fn _ (by nofun)) ((vn T).mono (by decide)) ?_;symm;refine⟨m,pk,pt,gI S.held b,S,es,kvs,rfl,MM,O,TT,LO,a1,TF,λH' k M'=>?_⟩;symm;exact q H' k M'
   . have UK : ¬ S.state = "runs" := λz => hs (by rw[z]);rw[if_neg UK] at q;symm;exact q H aN.refl MM
theorem cp.to {cs:List Cm}(h:cp H vs cs)(s:∀ b xs,H b=some (.tup xs)->H' b=some (.tup xs)):cp H' vs cs:=⟨h.1,λk o e=>let ⟨v,e1,q,e2,e3⟩:=h.2 k o e;⟨v,e1,q,e2,s _ _ e3⟩⟩
theorem L9 {D PP:Addr->Hp->Prop}{G:Prop}(key:∀ lf H3,D lf H3->PP lf H3)(use:(∀ lf H3,D lf H3->PP lf H3)->G):G:=use key
theorem By {HX:Hp}{R:Hp->Prop}{b:Addr}{cs:List Cm}(h:ak H HX)(hb:HX b=some (.lst xs))(hc:cp HX xs cs)(k:∀ H9,ak H H9->H9 b=some (.lst xs)->cp H9 xs cs->R H9):R HX:=k HX h hb hc
variable {l:Addr}
theorem vW (h:H l=some (.lst ys))(b:Addr)(xs:List V)(e:H b=some (.tup xs)):(upd H l o) b=some (.tup xs):=by
 rw[ai (λz=>by subst z;rw[h] at e;cases e)];exact e
theorem vp (T:TX):FE 6 "checked" (wX K a):=by
 refine a_ 5 T.Er mM ?_ ?_;ac_nf
 . obtain ⟨c, t, prs, rs, ev, es, ls, rfl, hc, Te, ⟨dt, l, d, ht, hl, hd⟩, Tg, E', Us, h64, q⟩ := h;have SS:=Te.1;have hel:=Tg.1;have en:=E'.ne;have rn:=E'.nr;unfold fU at ht;walk_at "h";have nd:=mM.nd;refine' aR ?_ ?_;walk_at "tS";walk_at "c";walk_at "c";walk_at "c";walk_at "n";walk_at "g";walk_at "tI";walk_at "tG";walk_at "m";exact (gi (zB (K:=K) rfl abA PySem.F.slot_list_extend PySem.F.type_list_extend Fg (pv 3) (ah (be (qT T) (hr.mono (by decide)) bQ rfl (ah (pv 0) (ah (pv 2) (ah (pv 4) ax)))) ax)));exact λ_=>rfl;walk_at "n";walk_at "g";exact (dR (K:=K) rfl (cJ (Bc rfl) rfl T.Il Jz (ah (cN (K:=K) rfl (pv 1)) ax)));walk_at "tG";walk_at "n";exact (c8 (i:=5) mM.nd rfl (Or.inl rfl) (qF (iC hr) (cN (K:=K) rfl (pv 1)) (pv 4) (λ_ _=>rfl)));walk_at "c";walk_at "m";walk_at "tS";exact λ_=>rfl;walk_at "m";walk_at "tS";walk_at "s";symm;rw [show (abC V.ref prs).length=rs.length from by rw [aac,SS]];refine gQ (λhh=>?_) (λhh=>?_)
   . symm;rename_i t1 VJ l1 VW;have hck:dH rs es ls []=[⟨-1,-1,.length⟩]:=by unfold dH;rw [if_neg (by lia)]
     exact q l1 [.ref t1] [] _ (by walk_at"same") aa (λz=>absurd z (by lia)) (by rw[hck];exact cp.one ⟨t1,rfl,by bv_omega⟩)
   have hre:es.length=rs.length:=by lia
   have hck:∀ ks,dH rs es ls ks=dM rs es++gv rs es rs.length++jR rs es ls ks:=λks=>by unfold dH;rw[if_pos hre]
   refine' L9 (D:=λlcm H1=>∃ us,H lcm=none/\ak H H1/\H1 lcm=some (.lst us)/\cp H1 us (dM rs es)) (PP:=?PP) ?key (λkk=>?use)
   case use =>
     symm;rename_i lcm Vk;refine cW (λh1=>?_) (λh1=>?_)
     . have h1' : 0 < rs.length := by rw [aac] at h1; lia
       obtain⟨v,oe,Tx,T5,TU,hv⟩:=Tg.at (c:=0) (acs _) (by lia)
       obtain⟨qs,st1,WO⟩:=T.lX;symm;refine Qv oe mj (hv.same (ae Vk)).dp (zC (st1 _) (WO _)) ?_;have T5:es[0]? = some oe:=T5;have S_:dM rs es=if kM oe mj=true then [] else [⟨-1,0,.start⟩]:=by unfold dM;rw[if_pos h1',T5];rfl
       cases hb:kM oe mj with
       | true =>
         rw[hb,if_pos rfl] at S_;ac_rfl;refine fj (aq.of (by walk_at"hlk")) ?_;clear h1 h1' Tx T5;symm;refine By (H:=H) (b:=lcm) (cs:=dM rs es) (by walk_at"same") aa (by rw[S_];exact cp.nil) (λH9 s9 hb9 hc9=>?_);exact kk lcm H9 ⟨_,Vk,s9,hb9,hc9⟩
       | false =>
         rw[hb,if_neg (by decide)] at S_;ac_rfl;rename_i t1 VJ;refine fj (aq.of (by walk_at"hlk")) ?_;clear h1 h1' Tx T5;symm;refine By (H:=H) (b:=lcm) (cs:=dM rs es) (by walk_at"same") aa ?_ (λH9 s9 hb9 hc9=>?_)
         . rw[S_];exact(cp.one ⟨t1,rfl,aa⟩).to (vW (by walk_at"hlk"))
         . exact kk lcm H9 ⟨_,Vk,s9,hb9,hc9⟩
     . have S_ : dM rs es = [] := by unfold dM; rw [if_neg (by rw [aac] at h1; lia)]
       symm;refine By (H:=H) (b:=lcm) (cs:=dM rs es) (by walk_at"same") aa (by rw[S_];exact cp.nil) (λH9 s9 hb9 hc9=>?_);exact kk lcm H9 ⟨_,Vk,s9,hb9,hc9⟩
   case key =>
     rintro lcm H1 ⟨us,Vk,s1,hlc,VD⟩;have sf:=D4 rs es;refine iP (λi Z H2=>(∃ u1 u2 u3,Z = [some (.ref c),some (.ref t),some (.ref l),some (.ref lcm),u1,u2,u3])/\ak H H2/\∃ us,H2 lcm=some (.lst us)/\cp H2 us (dM rs es++gv rs es i)) ⟨⟨_,_,_,rfl⟩,s1,us,hlc,by rw[show gv rs es 0=[] from rfl,aaL];exact VD⟩ ?_ ?_
     . rintro i Z H2 hi ⟨⟨u1,u2,u3,rfl⟩,s2,us2,Ux,Um⟩;rw[aac] at hi;clear s1 hlc VD;symm;refine⟨c,l,i,prs,rs,ev,es,by rw[Int.zero_add],s2 _ _ hc,Te.same s2,s2 _ _ hl,Tg.same s2,E',by lia,hre.symm,λp1 us1 H3 s3 T2 hcm3 np1=>?_⟩;have VH:=s3 _ _ Ux;have hcl2:=Um.1;have hcl3:=hcm3.1;have f1:=nu rs es i;have f2:=x9 rs es i;rw[aab] at hcl2;symm;refine Jd VH T2 (by rw[aaI];lia) ?_;refine⟨⟨_,_,_,rfl⟩,λb o e=>by rw[ai (af e Vk)];exact(s2.trans s3) b o e,_,aa,?_⟩;rw[qZ,<- aco];exact((Um.same s3).app hcm3).to (vW VH)
     rintro Z H2 ⟨⟨u1,u2,u3,rfl⟩,s2,us2,Ux,Um⟩;rw[show(((abC V.ref prs).length:Nat):Int).toNat=rs.length from by rw[aac,SS];lia] at Um;clear s1 hlc VD;have UI:=s2 _ _ ht;have Uu:=s2 _ _ hd;have f1:=nu rs es rs.length;symm;refine Ll Uu (G_ ls) (by rw[aac];exact h64) λks pp Wr hpw hpp=>?_;have hkl:ks.length<64:=by rw[Wr.length_eq,aac];exact h64
     symm;refine ff (K:=K) (a:=pp) (xs:=ks.map V.int) (λi Z H4=>(∃ u1 u2 u3,Z = [some (.ref c),some (.ref t),some (.ref l),some (.ref lcm),u1,u2,u3])/\ak H H4/\H4 pp=some (.lst (ks.map V.int))/\∃ us,H4 lcm=some (.lst us)/\us.length<=21000+i/\cp H4 us (dM rs es++gv rs es rs.length++jR rs es ls (ks.take i))) ⟨⟨_,_,_,rfl⟩,s2.trans (ae hpp),aa,us2,aj Ux hpp,by rw[Um.1,aab];lia,by rw[List.take_zero,show jR rs es ls []=[] from rfl,aaL];exact Um.same (ae hpp)⟩ (λi Z H4 _ ⟨_,_,h4,_⟩=>aq.of h4) ?_ ?_
     . rintro i v Z H4 hvi ⟨⟨u1,u2,u3,rfl⟩,s4,hpp4,us4,hlc4,hul4,hcm4⟩;obtain⟨k,hk,rfl⟩:∃ n,ks[i]? = some n/\v=.int n:=by
         rw[aag] at hvi;obtain⟨p,hp,e⟩:=Option.map_eq_some_iff.mp hvi;exact⟨p,hp,e.symm⟩
       have hi:i<ks.length:=(List.getElem?_eq_some_iff.mp hk).1;obtain⟨kv,hkv,hke⟩:=List.mem_map.mp (Wr.mem_iff.mp (aaj hk));obtain⟨hv1,hv2⟩:=hZ Us kv hkv;rw[hke] at hv1 hv2;rw[<- hv2] at hv1;have ht4:=s4 _ _ ht;have hd4:=s4 _ _ hd;have hnp:pp≠lcm:=λz=>by rw[z] at hpp;rw[Ux] at hpp;cases hpp
       clear UI Uu Ux Um s2;have htk:jR rs es ls (ks.take (i+1))=jR rs es ls (ks.take i)++((m6 rs es k (lv ls k)).map λw=>Cm.mk k (lv ls k) w).toList:=by
         unfold jR;rw[abz,hk,abq,List.flatMap_append];simp
       rw[htk];symm;refine uZ ?_;symm;have dg:=fY.k (k:=.inl k) hd4;rw[hv1] at dg;refine⟨d,_,rfl,dg,?_⟩;symm;refine⟨c,l,k,lv ls k,prs,rs,ev,es,rfl,s4 _ _ hc,Te.same s4,s4 _ _ hl,Tg.same s4,E',hre.symm,λH5 s5=>?_⟩;have Wf:=s5 _ _ hlc4;have hcm5:=hcm4.same s5;have s05:=s4.trans s5;have hpp5:=s5 _ _ hpp4;cases hw:m6 rs es k (lv ls k) with
       | none =>
         show bh 6 V.aA _ _ _;symm;exact⟨⟨_,_,_,rfl⟩,s05,hpp5,us4,Wf,by lia,by show cp _ _ (_++(_++[]));rw[aaL];exact hcm5⟩
       | some w =>
         show bh 6 w.v _ _ _;symm;rename_i t1 VJ;refine⟨⟨_,_,_,rfl⟩,λb o e=>by rw[ai (af e Vk)];exact(s05.trans (ae VJ)) b o e,by rw[ai hnp];exact aj hpp5 VJ,_,aa,by rw[aab];show _+1<=_;lia,?_⟩;rw[<- aco];exact((hcm5.same (ae VJ)).app (cp.one (c:=⟨k,lv ls k,w⟩) ⟨t1,rfl,aa⟩)).to (vW (aj Wf VJ))
     . rintro Z H4 ⟨⟨u1,u2,u3,rfl⟩,s4,hpp4,us4,hlc4,hul4,hcm4⟩;rw[aac,aaU] at hcm4;symm;exact q lcm us4 ks H4 s4 hlc4 (λ_=>⟨Wr,hpw⟩) (by rw[hck];exact hcm4)
theorem GF (T:TX):iR P w K mg base (eV P w) 7 "guess" (wJ K a)/\QS P w K mg base (eV P w) 7 "guess" (wJ K a):=by
 refine K7 6 T.Jh tT ?_ ?_;ac_nf
 . obtain ⟨c, lvv, prs, rs, ls, rfl, hc, Te, az, Ta, S6, hlv, qe, q⟩ := h;walk_at "h";have nd:=tT.nd;refine' aR ?_ ?_;walk_at "x";walk_at "tS";walk_at "n";exact (c8 (i:=3) tT.nd rfl (Or.inl rfl) (Ax (AG T) (hr.mono (by decide)) bQ rfl (ah (be (yq T) (hr.mono (by decide)) lN rfl (ah (pv 0) (ah (pv 2) ax))) (ah (pv 2) ax))));walk_at "n";walk_at "f";walk_at "y";walk_at "tT";walk_at "m";exact (mU T.iS rfl (ah gK ax));exact cB;walk_at "m";walk_at "x";walk_at "tS";walk_at "s";rcases hlv with ⟨rfl,rfl⟩ | ⟨d,rfl,hd⟩
   . ac_rfl;rename_i d nd;have s1:=ae (o:=.dK []) nd;have Uv:(upd H d (.dK [])) d=some (.dK (au [])):=aa;generalize (upd H d (.dK []))=H1 at s1 Uv ⊢;have Vq:=s1 _ _ hc;have hrs1:=Te.same s1;ac_rfl;refine ⟨c,d,prs,rs,([]:List (Int×Int)),rfl,Vq,hrs1,az,Ta,S6,Uv,λhb H' s'=>qe (.inl hb) _ (s1.trans s'),λle ev es H2 s2 WS hle Tg G=>?_⟩;have Ug:=s1.trans s2;have Uu:=s2 _ _ Uv;clear WS;ac_rfl;intro xt dxt VV UN nne;refine' DT (kvs:=au ([]:List (Int×Int))) (xs:=ev) VV UN ?h1 ?h2 ?q;(case h1=>exact aq.of hle)
     (case h2=>exact .inr ⟨d,rfl,Uu⟩)
     (case q =>
       intro l8 d8 H8 s8 nl8 nd8 n12 nxl nxd hxt hl8 hd8;refine⟨rfl,?_⟩;have s18:=Ug.trans s8;have nxtH:H xt=none:=aF Ug VV;have UQ:=Tg.same s8;have nl8H:H l8=none:=aF Ug nl8;have nd8H:H d8=none:=aF Ug nd8;have V_:TabOf K a H8 xt ev ([]:List (Int×Int)):=⟨dxt,l8,d8,hxt,hl8,hd8⟩
       clear s8 nl8 nd8 n12 nxl nxd VV UN nne;ac_rfl;refine⟨c,xt,prs,rs,ev,es,([]:List (Int×Int)),rfl,s18 _ _ hc,Te.same s18,V_,UQ,⟨az,DB G,Ta,by rw[G.len];exact Ta⟩,S6.1,S6.2.1,λp us ks H9 s9 hp hks VD=>?_⟩;have Wg:=(hks G.len).1;ac_rfl;refine fj (aq.of hp) ?_;rw[VD.1];have s19:=s18.trans s9;by_cases hz:dH rs es ([]:List (Int×Int)) ks=[]
       . rw[hz];ac_rfl;exact q xt ev es ks H9 s19 nxtH ⟨dxt,l8,d8,nl8H,nd8H,s9 _ _ hxt,s9 _ _ hl8,s9 _ _ hd8⟩ (UQ.same s9) G Wg hz
       . have : 0 < (dH rs es ([] : List (Int × Int)) ks).length := List.length_pos_iff.mpr hz;ac_rfl;refine jm ?_;ac_rfl;exact⟨by show 1<=1000;decide,qe (.inr ⟨es,ks,G,Wg,hz⟩) _ s19⟩)
   . have s1 := ak.refl H;have Uv:=hd;have Vq:=s1 _ _ hc;have hrs1:=Te.same s1;ac_rfl;refine ⟨c,d,prs,rs,ls,rfl,Vq,hrs1,az,Ta,S6,Uv,λhb H' s'=>qe (.inl hb) _ (s1.trans s'),λle ev es H2 s2 WS hle Tg G=>?_⟩;have Ug:=s1.trans s2;have Uu:=s2 _ _ Uv;clear WS;ac_rfl;intro xt dxt VV UN nne;refine' DT (kvs:=au ls) (xs:=ev) VV UN ?h1 ?h2 ?q;(case h1=>exact aq.of hle)
     (case h2=>exact .inr ⟨d,rfl,Uu⟩)
     (case q =>
       intro l8 d8 H8 s8 nl8 nd8 n12 nxl nxd hxt hl8 hd8;refine⟨rfl,?_⟩;have s18:=Ug.trans s8;have nxtH:H xt=none:=aF Ug VV;have UQ:=Tg.same s8;have nl8H:H l8=none:=aF Ug nl8;have nd8H:H d8=none:=aF Ug nd8;have V_:TabOf K a H8 xt ev ls:=⟨dxt,l8,d8,hxt,hl8,hd8⟩
       clear s8 nl8 nd8 n12 nxl nxd VV UN nne;ac_rfl;refine⟨c,xt,prs,rs,ev,es,ls,rfl,s18 _ _ hc,Te.same s18,V_,UQ,⟨az,DB G,Ta,by rw[G.len];exact Ta⟩,S6.1,S6.2.1,λp us ks H9 s9 hp hks VD=>?_⟩;have Wg:=(hks G.len).1;ac_rfl;refine fj (aq.of hp) ?_;rw[VD.1];have s19:=s18.trans s9;by_cases hz:dH rs es ls ks=[]
       . rw[hz];ac_rfl;exact q xt ev es ks H9 s19 nxtH ⟨dxt,l8,d8,nl8H,nd8H,s9 _ _ hxt,s9 _ _ hl8,s9 _ _ hd8⟩ (UQ.same s9) G Wg hz
       . have : 0 < (dH rs es ls ks).length := List.length_pos_iff.mpr hz;ac_rfl;refine jm ?_;ac_rfl;exact⟨by show 1<=1000;decide,qe (.inr ⟨es,ks,G,Wg,hz⟩) _ s19⟩)
theorem Ie (T:TX):iR P w K mg base (eV P w) 7 "guess" (wJ K a):=(GF T).1
theorem Ar (T:TX):FE 8 "_law_table" (JP K a):=by
 refine a_ 7 T.BF gG ?_ ?_;ac_nf
 . obtain ⟨c, d, prs, rs, ls, rfl, hc, Te, az, r1, r450, S6, hd, qn, q⟩ := h;walk_at "h";have nd:=gG.nd;refine' aR ?_ ?_;walk_at "tS";walk_at "n";exact (LC rfl rfl rfl (N0 (i:=2) gG.nd rfl (Or.inl rfl) (Ie T) (hr.mono (by decide)) rfl (ah (pv 0) (ah (pv 1) ax))) T.iS rfl (λea=>(fE (c8 (i:=2) gG.nd rfl (Or.inl rfl) jq))));walk_at "m";walk_at "tS";walk_at "s";ac_rfl
   with_reducible refine K5 ?_
   ac_rfl;refine⟨c,V.ref d,prs,rs,ls,rfl,hc,Te,az,by lia,S6,.inr ⟨d,rfl,hd⟩,λ_ H1 s1=>⟨rfl,?_⟩,λt ev es ks H1 s1 nt V_ Tg G hks hz=>?_⟩
   . ac_rfl;exact qn H1 s1
   . obtain⟨dt, l, dd, nl, ndd, ht, hl, hdd⟩ := V_;have L:=JU hz hks;have hel:=G.len;have hE:=Oe L (DB G);ac_rfl;exact q t H1 s1 ⟨dt,l,dd,ev,es,ht,hl,hdd,Tg,hel,λoe ho e he=>((hE oe ho) e he).1⟩
variable {ns:List Int} {ls:List (Int×Int)}
theorem Jm (T:TX){a0 d lc t lb xm pt pd:Addr}{dv:List V}{es:List (Option Ent)}{S:MS}{ds:List Cp}(q:∀ (H':Hp),Q (V.bl true) H')(az:∀ r∈rs,jV r)(Vo:us.length=rs.length)(SS:prs.length=rs.length)(S6:dN ls)(nck:lc≠pk)(nrk:l≠pk)(hS:aq K H a0 (ns.map V.int))
   (MM:cM a H xm pk pt S) (O:cj S) (hSr:S.rows=rs) (R:Run S es ls) (W:Wd S.state) (X:S.state = "runs"->Th S ds) (TF:S.calls.length<=1) (WK:S.cells.length<=0) (TP:TabAt K a H pt pk es (au ls)) (hl:H l=some (.lst us)) (V2:pE H us rs) (hc:H lc=some (.lst (prs.map V.ref))) (hd:H d=some (.dK (au ls))) (hpd:H pd=some (.lst dv)) (hdv:dC pk H dv ds) (hdl:dv.length<=0) (jd:pd≠pk) :
   zL (oJ 0 (1+cellAt ns 11%60).toNat) (bh 8) (bR (d_ (dB (bF (e_ K) (bC P w K mg base bJ 1 (aae "word") E0 (aC 6) aO) (tC (V.str (aae "runs"))))) (fZ (bF (pD K false) (bC P w K mg base bJ 1 (aae "word") E0 (aC 6) aO) (kg (aD (tC (V.str (aae "ended"))) (aD (tC (V.str (aae "dropped"))) aO))))) di) (bR (dq (bF (dk K) (aC 1) (bC P w K mg base bJ 1 (aae "at") E0 (aC 6) aO)) (bh 9)) (bR (dq (bC P w K mg base bJ 1 (aae "boxes") E0 (aC 6) aO) (bh 10)) (bR (dq (DU (aD (bF (dP K) (bC P w K mg base bJ 1 (aae "at") E0 (aC 6) aO) (tC (V.int 1))) (aD (si (BH K) (aD (rJ (gO K) (aC 10) (fB (tC (V.int 4))) (fB (tC (V.int 7)))) aO)) (aD (bC P w K mg base bJ 1 (aae "pile") E0 (aC 6) aO) aO)))) (bh 11)) (bR (y4 (bC P w K mg base bJ 6 (aae "step") E0 (aC 6) aO)) (bR (d_ (dB (bF (fT K) (bF (dk K) (aC 9) (tC (V.int 0))) (tC (V.str (aae "call"))))) (dq (bF (dP K) (kg (aD (aC 11) aO)) (aC 7)) (bh 7)) di) (bR (d_ (dB (bF (fT K) (bF (dk K) (aC 9) (tC (V.int 0))) (tC (V.str (aae "back"))))) (bR (d_ (sO (oU K (cm (y7 a) E0 (aD (aC 6) (aD (aC 7) (aD (si (tU K) (aD (aC 3) aO)) aO)))))) (fZ (tC (V.bl false))) di) (dq (rJ (gO K) (aC 7) (fB (tC (V.int 1))) iu) (bh 7))) di) (d_ (dB (bF (fT K) (bF (dk K) (aC 9) (tC (V.int 0))) (tC (V.str (aae "drop"))))) (bR (d_ (sO (oU K (cm (za a) E0 (aD (aC 6) (aD (aC 7) (aD (aC 2) (aD (aC 10) (aD (bF (dk K) (aC 9) (tC (V.int 1))) aO)))))))) (fZ (tC (V.bl false))) di) (dq (rJ (gO K) (aC 7) (fB (bF (dP K) (tC (V.int 1)) (cm y6 E0 (aD (aC 7) (aD (aC 2) aO))))) iu) (bh 7))) di)))))))) { nx:=fZ (bF (e_ K) (bC P w K mg base bJ 1 (aae "word") E0 (aC 6) aO) (tC (V.str (aae "fault")))) { nx:=λx H'=>Q V.aA H',rt:=Q },rt:=({ nx:=λx H'=>Q V.aA H',rt:=Q }:Ends).rt } [some (V.ref a0),some (V.ref l),some (V.ref d),some (V.ref lc),some (V.ref t),some (V.ref lb),some (V.ref xm),some (V.ref pd),none,none,none,none] H:=by
 refine iP (λi Z H'=>∃ (S:MS) (ds:List Cp) (pd:Addr) (dv:List V) (v8 v9 v10 VS:Option V),Z = [some (.ref a0),some (.ref l),some (.ref d),some (.ref lc),some (.ref t),some (.ref lb),some (.ref xm),some (.ref pd),v8,v9,v10,VS]/\cM a H' xm pk pt S/\cj S/\S.rows=rs/\Run S es ls/\Wd S.state/\(S.state = "runs"->Th S ds)/\S.calls.length<=1+i/\S.cells.length<=5*i/\TabAt K a H' pt pk es (au ls)/\H' l=some (.lst us)/\pE H' us rs/\H' lc=some (.lst (prs.map V.ref))/\H' d=some (.dK (au ls))/\H' pd=some (.lst dv)/\dC pk H' dv ds/\dv.length<=i/\pd≠pk) ⟨S,ds,pd,dv,_,_,_,_,rfl,MM,O,hSr,R,W,X,TF,WK,TP,hl,V2,hc,hd,hpd,hdv,hdl,jd⟩ ?_ ?_
 . clear MM O hSr R W X TF WK TP hl V2 hc hd hpd hdv hdl jd hS;rintro i Z H1 hi ⟨S,ds,pd,dv,v8,v9,v10,VS,rfl,MM1,O,hSr,R,W,X,TF,WK,TP1,VB,htd1,Vq,Uv,Wa,hdv1,hdl,jd⟩;have hi40:i<60:=by lia
   obtain⟨dx2,pc2,ph2,pl2,fs2,prs2,cs2,N⟩:=id MM1;have gn:=N.f.no;have Tf:=N.hm;ac_rfl;refine aK Tf (gn _ (by nofun)) ((dU T).mono (by decide)) ?_;ac_rfl;refine⟨xm,dx2,fs2,_,rfl,Tf,N.f.state,?_⟩;by_cases hs:V.str S.state=V.str "runs"
   . have UK : S.state = "runs" := by injection hs
     have X0:=X UK;obtain⟨r,WA,TU⟩:=O.row UK;have a1:=O.r9 UK;have a2:=O.gm;have hr1:rs[S.ar.toNat]? = some r:=by rw[<- hSr];exact WA
     obtain⟨⟨rok,rh⟩,rg⟩:=az r (aaj hr1);have g0:=OB rok;have SV:S.ar.toNat<us.length:=by rw[Vo,<- hSr];lia
     obtain⟨pu,hpu,S4⟩:=htd1 _ _ _ (aaa SV) hr1;have Tx:b_ us S.ar=some (.ref pu):=by
       rw[show S.ar=((S.ar.toNat:Nat):Int) by lia];exact bw (by rw[aaa SV,hpu])
     have h8:=O.h8;have SO:=hdv1.1;obtain⟨x0,x1,x2,x3,x4,x5,x6,x7,e8⟩:∃ x0 x1 x2 x3 x4 x5 x6 x7,S.held=[x0,x1,x2,x3,x4,x5,x6,x7]:=Jr h8;have Uz:cu S.held (some 4) (some 7)=[gI S.held 4,gI S.held 5,gI S.held 6]:=by rw[e8];rfl
     clear e8;obtain⟨R5,U6,hcl5⟩:=HM R O S6 UK WA (by lia) (by lia) g0;have W5:Wd (S.bj es (au ls)).state:=by rw[kh UK WA];exact M0 W
     ac_rfl;refine aK Tf (gn _ (by nofun)) ((eQ T).mono (by decide)) ?_;ac_rfl;refine⟨xm,dx2,fs2,_,rfl,Tf,N.f.ar,?_⟩;ac_rfl;refine aK Tf (gn _ (by nofun)) ((fV T).mono (by decide)) ?_;ac_rfl;refine⟨xm,dx2,ph2,fs2,_,rfl,Tf,N.f.held,N.hh,λlh VM=>?_⟩;ac_rfl;refine aK (aj Tf VM) (gn _ (by nofun)) ((eQ T).mono (by decide)) ?_;ac_rfl;refine⟨xm,dx2,fs2,_,rfl,aj Tf VM,N.f.ar,?_⟩;ac_rfl;rename_i lx Vh;rw[Uz];refine zT (aq.of aa) λk1 nk1=>?_;have s3:ak H1 (upd (upd (upd H1 lh (.lst (S.held.map V.int))) lx (.lst ([gI S.held 4,gI S.held 5,gI S.held 6].map V.int))) k1 (.tup ([gI S.held 4,gI S.held 5,gI S.held 6].map V.int))):=(ae VM).trans ((ae Vh).trans (ae nk1));have t3:upd (upd (upd H1 lh (.lst (S.held.map V.int))) lx (.lst ([gI S.held 4,gI S.held 5,gI S.held 6].map V.int))) k1 (.tup ([gI S.held 4,gI S.held 5,gI S.held 6].map V.int)) k1=some (.tup [.int (gI S.held 4),.int (gI S.held 5),.int (gI S.held 6)]):=aa;have g3:upd (upd (upd H1 lh (.lst (S.held.map V.int))) lx (.lst ([gI S.held 4,gI S.held 5,gI S.held 6].map V.int))) k1 (.tup ([gI S.held 4,gI S.held 5,gI S.held 6].map V.int)) lh=some (.lst (S.held.map V.int)):=aj (aj aa (by rw[Uz] at *;exact Vh)) nk1;generalize upd (upd (upd H1 lh (.lst (S.held.map V.int))) lx (.lst ([gI S.held 4,gI S.held 5,gI S.held 6].map V.int))) k1 (.tup ([gI S.held 4,gI S.held 5,gI S.held 6].map V.int))=H3 at s3 t3 g3 ⊢;have hm3:=s3 _ _ Tf;ac_rfl;refine aK hm3 (gn _ (by nofun)) ((kz T).mono (by decide)) ?_;ac_rfl;refine⟨xm,dx2,pl2,fs2,_,rfl,hm3,N.f.cells,s3 _ _ N.hl,λlp Vi=>?_⟩;ac_rfl;rename_i t1 VJ;have s4:ak H1 (upd (upd H3 lp (.lst (S.cells.map V.int))) t1 (.tup [.int (S.ar+1),.ref k1,.ref lp])):=s3.trans ((ae Vi).trans (ae VJ));have h4:upd (upd H3 lp (.lst (S.cells.map V.int))) t1 (.tup [.int (S.ar+1),.ref k1,.ref lp]) lh=some (.lst (S.held.map V.int)):=aj (aj g3 Vi) VJ;have p4:upd (upd H3 lp (.lst (S.cells.map V.int))) t1 (.tup [.int (S.ar+1),.ref k1,.ref lp]) lp=some (.lst (S.cells.map V.int)):=aj aa VJ;have k4:upd (upd H3 lp (.lst (S.cells.map V.int))) t1 (.tup [.int (S.ar+1),.ref k1,.ref lp]) k1=some (.tup [.int (gI S.held 4),.int (gI S.held 5),.int (gI S.held 6)]):=aj (aj t3 Vi) VJ;have u4:upd (upd H3 lp (.lst (S.cells.map V.int))) t1 (.tup [.int (S.ar+1),.ref k1,.ref lp]) t1=some (.tup [.int (S.ar+1),.ref k1,.ref lp]):=aa;have x1:lh≠xm:=(af Tf VM).symm;have x2:lh≠pk:=(af N.hk VM).symm;have x3:lp≠pk:=(af (s3 _ _ N.hk) Vi).symm;generalize upd (upd H3 lp (.lst (S.cells.map V.int))) t1 (.tup [.int (S.ar+1),.ref k1,.ref lp])=H4 at s4 h4 p4 k4 u4 ⊢;have c4:nF pk H4 (.ref t1) ⟨S.ar+1,gI S.held 4,gI S.held 5,gI S.held 6,S.cells⟩:=⟨t1,k1,lp,rfl,u4,k4,p4,x3⟩
     have hm4:=s4 _ _ Tf;have WD:=s4 _ _ N.hk;clear t3 g3 s3 Vi VJ Vh nk1 VM p4 k4 u4 hm3 Uz;refine aK hm4 (gn _ (by nofun)) ((ub T).mono (by decide)) ?_;ac_rfl;refine⟨xm,pk,pt,S,es,au ls,rfl,MM1.to s4,O,TP1.same s4,GU ls,by lia,λH5 k5 M5=>?_⟩;have kt5:∀ (b:Addr) (xs:List V),H1 b=some (.tup xs)->H5 b=some (.tup xs):=λb xs e=>k5 _ _ (s4 _ _ e) (λz=>by rw[z,Tf] at e;cases e) (λz=>by rw[z,N.hk] at e;cases e);have q1:H5 l=some (.lst us):=k5 _ _ (s4 _ _ VB) (λz=>by rw[z,Tf] at VB;cases VB) nrk;have q2:H5 lh=some (.lst (S.held.map V.int)):=k5 _ _ h4 x1 x2;have q3:H5 pd=some (.lst dv):=k5 _ _ (s4 _ _ Wa) (λz=>by rw[z,Tf] at Wa;cases Wa) jd;have q4:=htd1.to kt5;have q5:dC pk H5 dv ds:=dC.kept k5 hm4 WD (hdv1.same s4);have q6:=kt5 _ _ S4;have q7:H5 lc=some (.lst (prs.map V.ref)):=k5 _ _ (s4 _ _ Vq) (λz=>by rw[z,Tf] at Vq;cases Vq) nck;have q8:H5 d=some (.dK (au ls)):=k5 _ _ (s4 _ _ Uv) (λz=>by rw[z,Tf] at Uv;cases Uv) (λz=>by rw[z,N.hk] at Uv;cases Uv);have c5:=c4.kept k5 hm4 WD;have TP5:=(TP1.same s4).kept (MM1.to s4) k5;clear s4 h4 k5 kt5 hm4 WD MM1 TP1 VB Vq Wa hdv1 htd1 Uv S4 Tf N x1 x2 x3 c4 X W;obtain⟨dx5,pc5,ph5,pl5,fs5,prs5,cs5,N5⟩:=id M5;have hk5:=N5.hk;have stc:=B8 S es (au ls);have hrws:(S.bj es (au ls)).rows=rs:=by rw[D_];exact hSr
     have tc:=Ff rh;have tb:=GL rh;have td:=G3 rh;have hce5:(S.bj es (au ls)).cells.length<=5*(i+1):=by lia
     have hz0:b_ (V.str r.ei.1::r.ei.2.map V.int) 0=some (V.str r.ei.1):=bw (xs:=V.str r.ei.1::r.ei.2.map V.int) (j:=0) rfl;have e5:S.bj es (au ls)=S.c7 es (au ls) r:=kh UK WA;clear hs;ac_rfl;rw[tc];cases hC:r.isCall with
     | true =>
       obtain⟨tt,rfl⟩:∃ tt,r=.call tt:=by cases r <;> first | exact⟨_,rfl⟩ | cases hC
       have X5:Th (S.bj es (au ls)) (⟨S.ar+1,gI S.held 4,gI S.held 5,gI S.held 6,S.cells⟩::ds):=by rw[e5];exact LF R O X0 WA
       ac_rfl;rw[tb,show(Rw.call tt).eu=false from rfl];rename_i l1 VW VU Uw;have sZ:ak H5 (upd (upd H5 l1 (.lst [.ref t1])) VU (.lst ([.ref t1]++dv))):=(ae VW).trans (ae Uw);have jd1:VU≠pk:=(af (aj hk5 VW) Uw).symm;have z0:upd (upd H5 l1 (.lst [.ref t1])) VU (.lst ([.ref t1]++dv)) VU=some (.lst (.ref t1::dv)):=aa;generalize upd (upd H5 l1 (.lst [.ref t1])) VU (.lst ([.ref t1]++dv))=H6 at sZ z0 ⊢;have q66:=sZ _ _ q6;have F6:∀ (v8 v9 v10 VS:Option V),∃ (S:MS) (ds:List Cp) (pd':Addr) (dv:List V) (w8 w9 w10 w11:Option V),[some (V.ref a0),some (V.ref l),some (V.ref d),some (V.ref lc),some (V.ref t),some (V.ref lb),some (V.ref xm),some (V.ref VU),v8,v9,v10,VS]=[some (V.ref a0),some (V.ref l),some (V.ref d),some (V.ref lc),some (V.ref t),some (V.ref lb),some (V.ref xm),some (V.ref pd'),w8,w9,w10,w11]/\cM a H6 xm pk pt S/\cj S/\S.rows=rs/\Run S es ls/\Wd S.state/\(S.state = "runs"->Th S ds)/\S.calls.length<=1+(i+1)/\S.cells.length<=5*(i+1)/\TabAt K a H6 pt pk es (au ls)/\H6 l=some (.lst us)/\pE H6 us rs/\H6 lc=some (.lst (prs.map V.ref))/\H6 d=some (.dK (au ls))/\H6 pd'=some (.lst dv)/\dC pk H6 dv ds/\dv.length<=i+1/\pd'≠pk:=λv8 v9 v10 VS=>⟨S.bj es (au ls),_,VU,.ref t1::dv,v8,v9,v10,VS,rfl,M5.to sZ,O.bj,hrws,R5,W5,λ_=>X5,by lia,hce5,TP5.same sZ,sZ _ _ q1,q4.to (λb xs e=>sZ b (.tup xs) e),sZ _ _ q7,sZ _ _ q8,z0,(dC.cons c5 q5).same sZ,by rw[aaA];lia,jd1⟩;clear sZ VW Uw q1 q2 q3 q4 q5 q6 q7 q8 M5 N5 TP5 z0 c5 X5;ac_rfl;rw[td,show(Rw.call tt).d6=false from rfl];ac_rfl;exact F6 _ _ _ _
     | false =>
       ac_rfl;rw[tb];cases hB:r.eu with
       | true =>
         obtain⟨tt,rfl⟩:∃ tt,r=.back tt:=by cases r <;> first | exact⟨_,rfl⟩ | cases hB
         obtain⟨b0,b1⟩:=Le R O X0 UK WA;rw[<- show S.bj es (au ls)=S.bf (.back tt) from e5] at b0 b1;ac_rfl
         try refine fj (aq.of q7) ?_
         try rw[aac,SS]
         ac_rfl;refine⟨xm,pd,pk,pt,_,S.bj es (au ls),dv,ds,rfl,M5,O.bj,q3,q5,by lia,λz=>?_,λd' ds' z=>?_,λH6 s6=>?_⟩
         . rw[<- hSr];exact b0 z
         . obtain⟨z1, z2, z3, z4, z5, z6, z7⟩ := b1 d' ds' z;exact⟨z1,by rw[z2];exact z3,by rw[z2];exact z4,by rw[z2];exact z5,z6⟩
         have X5:(S.bj es (au ls)).state = "runs"->Th (S.bj es (au ls)) (ds.drop 1):=λz=>by
           cases ds with
           | nil=>rw[(b0 rfl).1] at z;exact absurd z FQ
           | cons d' ds'=>exact(b1 d' ds' rfl).2.2.2.2.2.2
         have q36:=s6 _ _ q3;have q66:=s6 _ _ q6;ac_rfl;rename_i VU Uw;rw[td,show(Rw.back tt).d6=false from rfl];ac_rfl;rw[show fS dv (some 1) none=dv.drop 1 from xX dv 1] at *;have sZ:=s6.trans (ae (o:=HO.lst (dv.drop 1)) Uw);exact⟨S.bj es (au ls),ds.drop 1,VU,dv.drop 1,_,_,_,_,rfl,M5.to sZ,O.bj,hrws,R5,W5,X5,by lia,hce5,TP5.same sZ,sZ _ _ q1,q4.to (λb xs e=>sZ b (.tup xs) e),sZ _ _ q7,sZ _ _ q8,aa,(q5.Kc 1).same sZ,by rw[aaZ];lia,(af (s6 _ _ hk5) Uw).symm⟩
       | false =>
         ac_rfl;rw[td];cases hD:r.d6 with
         | true =>
           obtain⟨tt,rfl⟩:∃ tt,r=.drop tt:=by cases r <;> first | exact⟨_,rfl⟩ | cases hD
           obtain⟨d0,d1⟩:=LV (b:=tt) R O X0 S6 (by lia);rw[<- e5] at d0 d1;have hz1:b_ (V.str (Rw.drop tt).ei.1::(Rw.drop tt).ei.2.map V.int) 1=some (V.int tt):=rfl;ac_rfl;refine⟨xm,pd,d,lh,pk,pt,tt,S.bj es (au ls),S.held,dv,ds,ls,rfl,M5,O.bj,q3,q5,by lia,q8,q2,h8,rok.1,by have:=rok.2;lia,d0,λi' z=>?_,λH6 s6=>?_⟩
           . obtain⟨d', z1, z2, z3, z4, z5, z6⟩ := d1 i' z;exact⟨d',z1,z2,z3,z4,z5⟩
           have q36:=s6 _ _ q3;have q86:=s6 _ _ q8;ac_rfl;refine⟨pd,d,pk,dv,ds,ls,rfl,q36,q5.same s6,by lia,q86,?_⟩;obtain⟨kx,hkx,X5⟩:∃ kx:Nat,1+iV ds ls=(kx:Int)/\((S.bj es (au ls)).state = "runs"->Th (S.bj es (au ls)) (ds.drop kx)):=by
             cases hf:ds.findIdx? (kj ls) with
             | none=>exact⟨0,by unfold iV;rw[hf];rfl,λz=>by rw[(d0 hf).1] at z;exact absurd z A9⟩
             | some i' =>
               obtain⟨d',z1,z2,z3,z4,z5,z6⟩:=d1 i' hf;exact⟨i'+1,by unfold iV;rw[hf];show 1+(i':Int)=_;lia,λ_=>z6⟩
           ac_rfl;rw[hkx] at *;rename_i VU Uw;rw[xX dv kx] at *;have sZ:=s6.trans (ae (o:=HO.lst (dv.drop kx)) Uw);exact⟨S.bj es (au ls),ds.drop kx,VU,dv.drop kx,_,_,_,_,rfl,M5.to sZ,O.bj,hrws,R5,W5,X5,by lia,hce5,TP5.same sZ,sZ _ _ q1,q4.to (λb xs e=>sZ b (.tup xs) e),sZ _ _ q7,sZ _ _ q8,aa,(q5.Kc kx).same sZ,by rw[aaZ];lia,(af (s6 _ _ hk5) Uw).symm⟩
         | false =>
           have X5:Th (S.bj es (au ls)) ds:=by rw[e5,wG hD];exact IM R O X0 UK WA hC hB hD (λm z=>by rw[z] at rg g0;have:cz (.grow m)=m:=rfl;lia)
           ac_rfl;exact⟨S.bj es (au ls),ds,pd,dv,_,_,_,_,rfl,M5,O.bj,hrws,R5,W5,λ_=>X5,by lia,hce5,TP5,q1,q4,q7,q8,q3,q5,by lia,jd⟩
   . have hw := Ln W (λz => hs (by rw [z])) R.nf;ac_rfl;refine aK Tf (gn _ (by nofun)) ((dU T).mono (by decide)) ?_;ac_rfl;refine ⟨xm,dx2,fs2,_,rfl,Tf,N.f.state,?_⟩;rcases hw with e | e
     . rw[e];ac_rfl;refine d7 (aq.of aa) rfl (by nofun) ?_;rw[show eF _ _=true from by nofun];exact q _
     . rw[e];ac_rfl;refine d7 (aq.of aa) rfl (by nofun) ?_;rw[show eF _ _=true from by nofun];exact q _
 . clear MM O hSr R W X TF WK TP hl V2 hc hd hpd hdv hdl jd hS;rintro Z H1 ⟨S,ds,pd,dv,v8,v9,v10,VS,rfl,MM1,O,hSr,R,W,X,TF,WK,TP1,VB,htd1,Vq,Uv,Wa,hdv1,hdl,jd⟩;obtain⟨dx2,pc2,ph2,pl2,fs2,prs2,cs2,N⟩:=id MM1;have gn:=N.f.no;have Tf:=N.hm;have nf : ¬ V.str S.state=V.str "fault":=λz=>R.nf (by injection z);ac_rfl;refine aK Tf (gn _ (by nofun)) ((dU T).mono (by decide)) ?_;ac_rfl;refine⟨xm,dx2,fs2,_,rfl,Tf,N.f.state,?_⟩;ac_rfl;rw[decide_eq_false nf];exact q _
variable {d:Addr}
theorem LD (T:TX){a0 lc:Addr}(q:∀ (H':Hp),Q (V.bl true) H')(hS:aq K H a0 (ns.map V.int))(h63:ns.length<=63)(hc:H lc=some (.lst (prs.map V.ref)))(hr:bH a H prs rs)(az:∀ r∈rs,jV r)(r1 : 1<=rs.length)(r450:rs.length<=450)(hl:H l=some (.lst us))(V2:pE H us rs)(Vo:us.length=rs.length)(S6:dN ls)(hd:H d=some (.dK (au ls)))(TR:OO K a H t rs ls) :
   bh 4 (V.ref t) [some (V.ref a0),some (V.ref l),some (V.ref d),some (V.ref lc),none,none,none,none,none,none,none,none] H ({ nx:=bR (d_ (Kk (dB (bF pQ (aC 4) (tC V.aA))) (dB (bF (λx y H Q=>e_ K x y H Q∨lT K x y H Q) (cm (wX K a) E0 (aD (aC 3) (aD (aC 4) aO))) (kg aO)))) (fZ (tC (V.bl true))) di) (bR (uv 5 [aae "_law_k"] [(aae "_law_script",0)] (nq (aD (tC (V.int 7)) aO)) (bh 0) y8 (cm Jt E0 (aD (cm (ix K) E0 (aD (aC 1) (aD (bF (dP K) (tC (V.int 4)) (aC 0)) aO))) aO))) (bR (dq (vF a.aw (V.int 0) (mf a) E0 (aD (aC 3) (aD (aC 4) (aD (aC 5) aO)))) (bh 6)) (bR (dq (kg aO) (bh 7)) (bR (Ih (nq (aD (bF (dP K) (tC (V.int 1)) (bF (rI (λx j=>0<j) λi j=>V.int (i%j)) (cm (ix K) E0 (aD (aC 0) (aD (tC (V.int 11)) aO))) (tC (V.int 60)))) aO)) (bh 8) (bR (d_ (dB (bF (e_ K) (bC P w K mg base bJ 1 (aae "word") E0 (aC 6) aO) (tC (V.str (aae "runs"))))) (fZ (bF (pD K false) (bC P w K mg base bJ 1 (aae "word") E0 (aC 6) aO) (kg (aD (tC (V.str (aae "ended"))) (aD (tC (V.str (aae "dropped"))) aO))))) di) (bR (dq (bF (dk K) (aC 1) (bC P w K mg base bJ 1 (aae "at") E0 (aC 6) aO)) (bh 9)) (bR (dq (bC P w K mg base bJ 1 (aae "boxes") E0 (aC 6) aO) (bh 10)) (bR (dq (DU (aD (bF (dP K) (bC P w K mg base bJ 1 (aae "at") E0 (aC 6) aO) (tC (V.int 1))) (aD (si (BH K) (aD (rJ (gO K) (aC 10) (fB (tC (V.int 4))) (fB (tC (V.int 7)))) aO)) (aD (bC P w K mg base bJ 1 (aae "pile") E0 (aC 6) aO) aO)))) (bh 11)) (bR (y4 (bC P w K mg base bJ 6 (aae "step") E0 (aC 6) aO)) (bR (d_ (dB (bF (fT K) (bF (dk K) (aC 9) (tC (V.int 0))) (tC (V.str (aae "call"))))) (dq (bF (dP K) (kg (aD (aC 11) aO)) (aC 7)) (bh 7)) di) (bR (d_ (dB (bF (fT K) (bF (dk K) (aC 9) (tC (V.int 0))) (tC (V.str (aae "back"))))) (bR (d_ (sO (oU K (cm (y7 a) E0 (aD (aC 6) (aD (aC 7) (aD (si (tU K) (aD (aC 3) aO)) aO)))))) (fZ (tC (V.bl false))) di) (dq (rJ (gO K) (aC 7) (fB (tC (V.int 1))) iu) (bh 7))) di) (d_ (dB (bF (fT K) (bF (dk K) (aC 9) (tC (V.int 0))) (tC (V.str (aae "drop"))))) (bR (d_ (sO (oU K (cm (za a) E0 (aD (aC 6) (aD (aC 7) (aD (aC 2) (aD (aC 10) (aD (bF (dk K) (aC 9) (tC (V.int 1))) aO)))))))) (fZ (tC (V.bl false))) di) (dq (rJ (gO K) (aC 7) (fB (bF (dP K) (tC (V.int 1)) (cm y6 E0 (aD (aC 7) (aD (aC 2) aO))))) iu) (bh 7))) di))))))))) (fZ (bF (e_ K) (bC P w K mg base bJ 1 (aae "word") E0 (aC 6) aO) (tC (V.str (aae "fault"))))))))) { nx:=λx H'=>Q V.aA H',rt:=Q },rt:=({ nx:=λx H'=>Q V.aA H',rt:=Q }:Ends).rt }:Ends).nx:=by
 obtain⟨dt,lt,dd,ev,es,ht,SV,hdd,Tg,hel,hEN⟩:=TR;have hok2:∀ r∈rs,r.ok/\r.here:=λr hr=>(az r hr).1;have hevl:=Tg.1;have hrl:=hr.1;symm;refine⟨lc,t,prs,rs,ev,es,ls,rfl,hc,hr,⟨dt,lt,dd,ht,SV,hdd⟩,Tg,⟨hok2,λe he=>hEN (some e) he e rfl,by lia,by lia⟩,S6.1,S6.2.1,λp2 us2 TC HG sG UE hks2 Um=>?_⟩;by_cases hu:us2=[]
 . subst hu;have hz:dH rs es ls TC=[]:=List.length_eq_zero_iff.mp Um.1.symm;have L:=JU hz (hks2 hel).1;clear Um hks2;symm;rename_i lz Uo;refine C1 (aj UE Uo) aa ?_;have sZ:ak H (upd HG lz (.lst [])):=sG.trans (ae Uo);generalize upd HG lz (HO.lst [])=HZ at sZ ⊢;clear sG Uo UE;have hSZ:=aT sZ hS;have hcZ:=sZ _ _ hc;have hrZ:=hr.same sZ;have hlZ:=sZ _ _ hl;have htdZ:=V2.to (λb xs e=>sZ b (.tup xs) e);have hdZ:=sZ _ _ hd;have htZ:=sZ _ _ ht;have hltZ:=sZ _ _ SV;have hddZ:=sZ _ _ hdd;have hevZ:=Tg.same sZ;clear hS hc hr hl V2 hd ht SV hdd Tg;clear sZ;symm;refine eK (λi ys Z H2=>ak HZ H2/\(∃ v,Z = [v,some (.ref a0)])/\∃ bs:List Int,ys=bs.map V.int/\bs.length=i/\∀ x∈bs,isVal x) ⟨ak.refl _,⟨_,rfl⟩,[],rfl,rfl,λx hx=>(nomatch hx)⟩ ?_ ?_ ?_
   . rintro i ys Z H2 hi ⟨_,_,bs,rfl,hl,_⟩;rw[aac];walk_at"small"
   . rintro i ys Z H2 hi ⟨s2,⟨v,rfl⟩,bs,rfl,hbl,hbv⟩;have hS2:=aT s2 hSZ;symm;refine ⟨_,rfl,λv9 H3 s3 hv=>⟨s2.trans s3,⟨_,rfl⟩,bs++[v9],by rw [aaF];rfl,by rw [aab,hbl];rfl,λy hy=>?_⟩⟩;rcases List.mem_append.mp hy with z | z
     . exact hbv y z
     . have e := List.mem_singleton.mp z;subst e;exact hv
   rintro ys Z H2 ⟨s2,_,bs,rfl,hb7,hbv⟩;rw[show(7:Int).toNat=7 from rfl] at hb7;symm;rename_i lb nlb;have sB:=s2.trans (ae (o:=HO.lst (bs.map V.int)) nlb);have hlbB:upd H2 lb (.lst (bs.map V.int)) lb=some (.lst (bs.map V.int)):=aa;generalize upd H2 lb (.lst (bs.map V.int))=HB at sB hlbB ⊢;clear s2 nlb;have hSB:=aT sB hSZ;have hcB:=sB _ _ hcZ;have hrB:=hrZ.same sB;have hlB:=sB _ _ hlZ;have htdB:=htdZ.to (λb xs e=>sB b (.tup xs) e);have hdB:=sB _ _ hdZ;have htB:=sB _ _ htZ;have hltB:=sB _ _ hltZ;have hddB:=sB _ _ hddZ;have hevB:=hevZ.same sB;clear hSZ hcZ hrZ hlZ htdZ hdZ htZ hltZ hddZ hevZ;clear sB;intro xm dxm nxm ndxm nnem;refine Nc (prs:=prs) (rs:=rs) (bs:=bs) (es:=ev) (kvs:=au ls) nxm ndxm hcB hrB htB hltB hddB hlbB hb7 (by lia) (λpk pc pt ph pl fs cs H8 n1 n2 n3' n4 s8 M TN=>⟨rfl,?_⟩);obtain⟨dtm,lm,dm,hpt8,hlm8,hdm8,nlmpk,flm,fdm⟩:=TN;have nck:lc≠pk:=af hcB n1;have nrk:l≠pk:=af hlB n1;have hS8:=aT s8 hSB;have hc8:=s8 _ _ hcB;have hr8:=hrB.same s8;have hl8:=s8 _ _ hlB;have htd8:=htdB.to (λb xs e=>s8 b (.tup xs) e);have hd8:=s8 _ _ hdB;have ht8:=s8 _ _ htB;have hlt8:=s8 _ _ hltB;have hdd8:=s8 _ _ hddB;have UQ:=hevB.same s8;have hlb8:=s8 _ _ hlbB;clear hSB hcB hrB hlB htdB hdB htB hltB hddB hevB hlbB;clear s8 n1 n2 n3' n4 nxm ndxm nnem flm fdm;have TP:TabAt K a H8 pt pk es (au ls):=⟨ev,⟨dtm,lm,dm,hpt8,hlm8,hdm8,nlmpk⟩,UQ⟩
   have MM0:cM a H8 xm pk pt (ij rs bs 0):=⟨_,_,_,_,_,_,_,M⟩
   have W8:=M.hk;have O0:=Ja hok2 r450 (by lia) hb7 hbv;have R0:=Fc L (by lia) hb7;clear M hpt8 hlm8 hdm8;symm;rename_i pd npd;have s9:ak H8 (upd H8 pd (.lst [])):=ae npd;have c0:upd H8 pd (.lst []) pd=some (.lst []):=aa;have jd:pd≠pk:=(af W8 npd).symm;generalize upd H8 pd (.lst [])=H9 at s9 c0 ⊢;have hS9:=aT s9 hS8;have S0:=Jm T (a0:=a0) (d:=d) (lb:=lb) (ns:=ns) (t:=t) (ds:=[]) q az Vo hrl S6 nck nrk hS9 (MM0.to s9) O0 rfl R0 (Dx _ _) (λ_=>HU hb7) (aah _) (aah _) (TP.same s9) (s9 _ _ hl8) (htd8.to (λb xs e=>s9 b (.tup xs) e)) (s9 _ _ hc8) (s9 _ _ hd8) c0 ⟨rfl,λi v d e1 e2=>by cases e1⟩ (aah _) jd;clear s9 c0 jd MM0 TP hS8 hc8 hr8 hl8 htd8 hd8 ht8 hlt8 hdd8 UQ hlb8 W8 T;symm;exact S0
 . have hu1 : 1 <= us2.length := by
     cases us2 with
     | nil=>exact(hu rfl).elim
     | cons=>exact ade (aaX _)
   symm;rename_i lz Uo;refine Dm (aj UE Uo) aa (by lia) ?_;symm;exact q _
theorem Bm (T:TX){a0:Addr}(q:∀ (H':Hp),Q (V.bl true) H')(hS:aq K H a0 (ns.map V.int))(h63:ns.length<=63)(hl:H l=some (.lst us))(u1 : 1<=us.length)(u450:us.length<=450)(To:aZ jV H us)(hd:H d=some (.dK (au ls)))(S6:dN ls) :
   iE (xO K l) (bh 0) y8 (cm (He a) E0 (aD (aC 0) aO)) (λys H3=>∀ (p:Addr),H3 p=none->bh 3 (V.ref p) [some (V.ref a0),some (V.ref l),some (V.ref d),none,none,none,none,none,none,none,none,none] (upd H3 p (HO.lst ys)) ({ nx:=bR (dq (cm (JP K a) E0 (aD (aC 3) (aD (aC 2) aO))) (bh 4)) (bR (d_ (Kk (dB (bF pQ (aC 4) (tC V.aA))) (dB (bF (λx y H Q=>e_ K x y H Q∨lT K x y H Q) (cm (wX K a) E0 (aD (aC 3) (aD (aC 4) aO))) (kg aO)))) (fZ (tC (V.bl true))) di) (bR (uv 5 [aae "_law_k"] [(aae "_law_script",0)] (nq (aD (tC (V.int 7)) aO)) (bh 0) y8 (cm Jt E0 (aD (cm (ix K) E0 (aD (aC 1) (aD (bF (dP K) (tC (V.int 4)) (aC 0)) aO))) aO))) (bR (dq (vF a.aw (V.int 0) (mf a) E0 (aD (aC 3) (aD (aC 4) (aD (aC 5) aO)))) (bh 6)) (bR (dq (kg aO) (bh 7)) (bR (Ih (nq (aD (bF (dP K) (tC (V.int 1)) (bF (rI (λx j=>0<j) λi j=>V.int (i%j)) (cm (ix K) E0 (aD (aC 0) (aD (tC (V.int 11)) aO))) (tC (V.int 60)))) aO)) (bh 8) (bR (d_ (dB (bF (e_ K) (bC P w K mg base bJ 1 (aae "word") E0 (aC 6) aO) (tC (V.str (aae "runs"))))) (fZ (bF (pD K false) (bC P w K mg base bJ 1 (aae "word") E0 (aC 6) aO) (kg (aD (tC (V.str (aae "ended"))) (aD (tC (V.str (aae "dropped"))) aO))))) di) (bR (dq (bF (dk K) (aC 1) (bC P w K mg base bJ 1 (aae "at") E0 (aC 6) aO)) (bh 9)) (bR (dq (bC P w K mg base bJ 1 (aae "boxes") E0 (aC 6) aO) (bh 10)) (bR (dq (DU (aD (bF (dP K) (bC P w K mg base bJ 1 (aae "at") E0 (aC 6) aO) (tC (V.int 1))) (aD (si (BH K) (aD (rJ (gO K) (aC 10) (fB (tC (V.int 4))) (fB (tC (V.int 7)))) aO)) (aD (bC P w K mg base bJ 1 (aae "pile") E0 (aC 6) aO) aO)))) (bh 11)) (bR (y4 (bC P w K mg base bJ 6 (aae "step") E0 (aC 6) aO)) (bR (d_ (dB (bF (fT K) (bF (dk K) (aC 9) (tC (V.int 0))) (tC (V.str (aae "call"))))) (dq (bF (dP K) (kg (aD (aC 11) aO)) (aC 7)) (bh 7)) di) (bR (d_ (dB (bF (fT K) (bF (dk K) (aC 9) (tC (V.int 0))) (tC (V.str (aae "back"))))) (bR (d_ (sO (oU K (cm (y7 a) E0 (aD (aC 6) (aD (aC 7) (aD (si (tU K) (aD (aC 3) aO)) aO)))))) (fZ (tC (V.bl false))) di) (dq (rJ (gO K) (aC 7) (fB (tC (V.int 1))) iu) (bh 7))) di) (d_ (dB (bF (fT K) (bF (dk K) (aC 9) (tC (V.int 0))) (tC (V.str (aae "drop"))))) (bR (d_ (sO (oU K (cm (za a) E0 (aD (aC 6) (aD (aC 7) (aD (aC 2) (aD (aC 10) (aD (bF (dk K) (aC 9) (tC (V.int 1))) aO)))))))) (fZ (tC (V.bl false))) di) (dq (rJ (gO K) (aC 7) (fB (bF (dP K) (tC (V.int 1)) (cm y6 E0 (aD (aC 7) (aD (aC 2) aO))))) iu) (bh 7))) di))))))))) (fZ (bF (e_ K) (bC P w K mg base bJ 1 (aae "word") E0 (aC 6) aO) (tC (V.str (aae "fault")))))))))) { nx:=λx H'=>Q V.aA H',rt:=Q },rt:=({ nx:=λx H'=>Q V.aA H',rt:=Q }:Ends).rt }:Ends).nx) (lF [aae "_law_told"] [] [some (V.ref a0),some (V.ref l),some (V.ref d),none,none,none,none,none,none,none,none,none]) H:=by
 refine gf (K:=K) (a:=l) (xs:=us) (λi ys Z H2=>(∃ v,Z = [v])/\ak H H2/\∃ (prs:List Addr) (rs:List Rw),ys=prs.map V.ref/\prs.length=i/\bH a H2 prs rs/\(∀ r∈rs,jV r)/\pE H us rs) ⟨⟨_,rfl⟩,ak.refl _,[],[],rfl,rfl,bH.nil,(λ_ z=>by cases z),(λ_ _ _ _ z=>by cases z)⟩ (λi ys Z H2 hi ⟨_,s2,prs,rs,e,e2,_⟩=>⟨aq.of (s2 _ _ hl),by rw[e,aac,e2,aaI];lia⟩) ?_ ?_
 . rintro i u ys Z H2 hu ⟨⟨v,rfl⟩,s2,prs,rs,rfl,e2,Te,az,V2⟩;obtain ⟨r,td,ok⟩:=To u (aaj hu);have hrl:=Te.1;symm;refine ⟨_,r,rfl,td.same s2,ok,λx H3 s3 _ hx=>⟨⟨_,rfl⟩,s2.trans s3,prs++[x],rs++[r],by rw [aaF];rfl,by rw [aab,e2];rfl,(Te.same s3).snoc hx,λr' hr'=>?_,V2.snoc (by lia) hu td⟩⟩;rcases List.mem_append.mp hr' with z | z
   . exact az r' z
   . have e : r' = r := by simpa using z
     rw[e];exact ok
 rintro ys Z H2 ⟨_,s2,prs,rs,rfl,e2,Te,az,V2⟩;intro lc Vk;have s3:=s2.trans (ae Vk (o:=.lst (prs.map V.ref)));have hr3:=Te.same (ae Vk (o:=.lst (prs.map V.ref)));have hc3:(upd H2 lc (.lst (prs.map V.ref))) lc=some (.lst (prs.map V.ref)):=aa;generalize upd H2 lc (HO.lst (prs.map V.ref))=H3 at s3 hr3 hc3 ⊢;have hd3:=s3 _ _ hd;have hl3:=s3 _ _ hl;have hS3:=aT s3 hS;have td3:=V2.to (λb xs e=>s3 b (.tup xs) e);have hrl:=Te.1;have hok2:∀ r∈rs,r.ok/\r.here:=λr hr=>(az r hr).1;clear s2 s3 hl hd To hS Te Vk V2;symm;refine⟨lc,d,prs,rs,ls,rfl,hc3,hr3,hok2,by lia,by lia,S6,hd3,λH4 s4=>?_,λt H4 s4 TR=>?_⟩
 . symm;exact q _
 . exact LD T (d:=d) q (aT s4 hS3) h63 (s4 _ _ hc3) (hr3.same s4) az (by lia) (by lia) (s4 _ _ hl3) (td3.to (λb xs e=>s4 b (.tup xs) e)) (by lia) S6 (s4 _ _ hd3) TR
end
section
theorem Mh {fa:Addr}{fd:aa3}(T:TX)(F:eC K "law" "law" gX fa fd):c6 P w K mg base bJ 9 fa fd ["_law_script"] (qG K):=by
 refine F.ok (k:=8) mx (λvs H Q E h=>?_) (λSN A outer s H vs Q E hr h=>?_)
 . obtain⟨a0, ns, rfl, _⟩ := h;rfl
 . obtain ⟨a0, ns, rfl, hS, h63, q⟩ := h;walk_at "h";have nd:=mx.nd;refine' aR ?_ ?_;walk_at "tS";walk_at "n";exact (fw (i:=3) mx.nd rfl rfl (own:=["_law_told"]) (fr:=[]) rfl ⟨rfl,(by walk_at "clok"),(by walk_at "frok"),rfl,(by nofun),(by nofun),rfl⟩ (dR (K:=K) rfl (pv 1)) (λ_ _ _ _=>(bO (i:=0) (show aa6 [("_law_told" : Str)] from by nofun) rfl (Or.inl rfl))) (λ_ _ _ _=>c_) (λ_ _ _ _=>(be (EF T) (hr.mono (by decide)) bQ rfl (ah (pv 0) ax))));walk_at "c";walk_at "n";walk_at "f";exact (PW.pt (zc (dS xc (pv 4) jq (dI _)) (Bo (dS (CV (K:=K) rfl hr.units) (be (vp T) (hr.mono (by decide)) bQ rfl (ah (pv 3) (ah (pv 4) ax))) (mI ax) (dI _)))));walk_at "tB";exact cB;walk_at "n";exact (fw (i:=5) mx.nd rfl rfl (own:=["_law_k"]) (fr:=[("_law_script",0)]) rfl ⟨rfl,(by walk_at "clok"),(by walk_at "frok"),rfl,(by nofun),(by nofun),rfl⟩ (fo rfl T.f9 (ah aL ax)) (λ_ _ _ _=>(bO (i:=0) (show aa6 [("_law_k" : Str),("_law_script" : Str)] from by nofun) rfl (Or.inl rfl))) (λ_ _ _ _=>c_) (λ_ _ _ _=>(be (Bh T) (hr.mono (by decide)) bQ rfl (ah (be (hV T) (hr.mono (by decide)) bQ rfl (ah (pv 1) (ah (cF (dG (K:=K) rfl) aL (pv 0)) ax))) ax))));walk_at "n";exact (c8 (i:=6) mx.nd rfl (Or.inl rfl) (Ho (CB T) (hr.mono (by decide)) bQ rfl (ah (pv 3) (ah (pv 4) (ah (pv 5) ax)))));walk_at "c";walk_at "n";walk_at "g";walk_at "tI";walk_at "tG";walk_at "c";walk_at "c";walk_at "c";walk_at "n";exact (c8 (i:=11) mx.nd rfl (Or.inl rfl) (mH (ah (cF (dG (K:=K) rfl) (gq (P:=P) (w:=w) (K:=K) (mg:=mg) (base:=base) (k:=1) ⟨rfl,rfl,rfl,rfl,rfl⟩ (pv 6) (hr.mono (by decide)) bQ) aL) (ah (iK (xI (K:=K) rfl) rfl T.CT C4 (ah (sQ (Hz (K:=K) rfl) (pv 10) (lI aL) (lI aL)) ax)) (ah (gq (P:=P) (w:=w) (K:=K) (mg:=mg) (base:=base) (k:=1) ⟨rfl,rfl,rfl,rfl,rfl⟩ (pv 6) (hr.mono (by decide)) bQ) ax)))));walk_at "c";walk_at "c";walk_at "c";walk_at "m";walk_at "tS";exact λ_=>rfl;walk_at "m";walk_at "tS";walk_at "s";symm;refine ky (λhx=>?_) (λhx=>?_)
   . symm;refine⟨a0,ns,rfl,hS,h63,λt l d us ls H1 s1 ht hl0 VC hld hl u1 u12 To hd S6=>?_⟩;have S0:=Bm T q (aT s1 hS) h63 hl u1 (by lia) To hd S6;have hS1:=aT s1 hS;clear s1 hl0 VC hld To;symm;exact S0
   . symm;refine⟨a0,ns,rfl,hS,h63,λt l d us ls H1 s1 ht hl0 VC hld hl u1 u450 To hd S6=>?_⟩;have S0:=Bm T q (aT s1 hS) h63 hl u1 u450 To hd S6;have hS1:=aT s1 hS;clear s1 hl0 VC hld To;symm;exact S0
end
theorem law_fn {P:Program}{w:World}{K:W.Frag}{mg:Str->Option Value}{base:Heap}{a:bE}{fa:Addr}{fd:aa3}(T:Txt K mg a)(F:eC K "law" "law" gX fa fd):c6 P w K mg base bJ 9 fa fd ["_law_script"] (qG K):=Np (λ_ _ T F=>Mh T F) ⟨P,w,K,mg,base,a⟩ _ _ T F
theorem ie {K:W.Frag}{x qual:Str}{st:Stmt}{f da:Addr}{n:Nat}{oc dc:Value}{od an dd:Option Addr}{Tj dl:Array (Option Value)}{kV SU pm SN ct:Value}(l:K.lookup f=some ⟨oc,od,.func (W.fnOf x qual (aY st) (aP st) (ag st) (.ref da) kV SU pm an SN ct),Tj⟩)
   (d:K.lookup da=some ⟨dc,dd,.seq #[.none] n,dl⟩) (c:abN K SN qual=true) (k:abc K (.ref f)=true):fb K x qual st f (W.fnOf x qual (aY st) (aP st) (ag st) (.ref da) kV SU pm an SN ct):=L8 l ⟨d,n,rfl⟩ c k
theorem GG {K:W.Frag}{x qual:Str}{st:Stmt}{f:Addr}{fd:aa3}{ps:List Str}(F:fb K x qual st f fd)
   (h:∀ (da:Addr) (kV SU pm:Value) (an:Option Addr) (SN ct:Value) (us:List Value),us.length=ps.length->∃ k:Option (Array Value)->Sem (List (Str×Value)),abR (W.fnOf x qual (aY st) (aP st) (ag st) (.ref da) kV SU pm an SN ct) ⟨us,[]⟩=acr (.ref da) >>= k/\k (some #[.none])=pure (ps.zip us)):Binds K fd ps []:=by
 obtain⟨oc,od,da,kV,SU,pm,an,SN,ct,Tj,o,n,rfl,lk,Tp,ld,ed⟩:=F.ex;intro s us KX hl;rw[aaL] at hl ⊢;obtain⟨k,h1,h2⟩:=h da kV SU pm an SN ct us hl;exact .of_defaults rfl (KX _ _ ld) ed h1 h2
section
variable {K:W.Frag} {h:Heap} {mg:Str->Option Value} {x qual:Str} {st:Stmt} {f C da:Addr} {n:Nat} {oc dc:Value} {od an dd:Option Addr} {Tj dl:Array (Option Value)} {kV SU pm SN ct:Value} {ps:List Str}
theorem tF (X:K.In h)(G:h.Ns aa4 mg)(a:W.nsIn K aa4 x=some (some (.ref f)))(l:K.lookup f=some ⟨oc,od,.func (W.fnOf x qual (aY st) (aP st) (ag st) .none kV SU pm an SN ct),Tj⟩)(c:abN K SN qual=true)(k:abc K (.ref f)=true)(b:∀ (kV SU pm:Value) (an:Option Addr) (SN ct:Value) (us:List Value),us.length=ps.length->abR (W.fnOf x qual (aY st) (aP st) (ag st) .none kV SU pm an SN ct) ⟨us,[]⟩=pure (ps.zip us)):∃ f fd,eC K x qual st f fd/\mg x=some (.ref f)/\Binds K fd ps []:=⟨_,_,gS l c k,W.mg_of X G a,(gS l c k).binds b⟩
theorem tM (a:aa_ K (.ref C) x=some (some (.ref f)))(i:W.isFn K (.ref f)=true)(l:K.lookup f=some ⟨oc,od,.func (W.fnOf x qual (aY st) (aP st) (ag st) .none kV SU pm an SN ct),Tj⟩)(c:abN K SN qual=true)(k:abc K (.ref f)=true)(b:∀ (kV SU pm:Value) (an:Option Addr) (SN ct:Value) (us:List Value),us.length=ps.length->abR (W.fnOf x qual (aY st) (aP st) (ag st) .none kV SU pm an SN ct) ⟨us,[]⟩=pure (ps.zip us)):∃ f fd,eC K x qual st f fd/\BC K C x f/\Binds K fd ps []:=⟨_,_,gS l c k,⟨a,i,k⟩,(gS l c k).binds b⟩
theorem tI (m:W.makesIn K C=true)(kc:abc K (.ref C)=true)(a:aa_ K (.ref C) "__init__" = some (some (.ref f)))(i:W.isFn K (.ref f)=true)(l:K.lookup f=some ⟨oc,od,.func (W.fnOf "__init__" qual (aY st) (aP st) (ag st) .none kV SU pm an SN ct),Tj⟩)(c:abN K SN qual=true)(k:abc K (.ref f)=true)(b:∀ (kV SU pm:Value) (an:Option Addr) (SN ct:Value) (us:List Value),us.length=ps.length->abR (W.fnOf "__init__" qual (aY st) (aP st) (ag st) .none kV SU pm an SN ct) ⟨us,[]⟩=pure (ps.zip us)):∃ f fd,eC K "__init__" qual st f fd/\Mk K C f/\Binds K fd ps []:=⟨_,_,gS l c k,⟨m,a,i,kc⟩,(gS l c k).binds b⟩
theorem Sq (m:W.makesIn K C=true)(kc:abc K (.ref C)=true)(a:aa_ K (.ref C) "__init__" = some (some (.ref f)))(i:W.isFn K (.ref f)=true)(l:K.lookup f=some ⟨oc,od,.func (W.fnOf "__init__" qual (aY st) (aP st) (ag st) (.ref da) kV SU pm an SN ct),Tj⟩)(d:K.lookup da=some ⟨dc,dd,.seq #[.none] n,dl⟩)(c:abN K SN qual=true)(k:abc K (.ref f)=true)(b:∀ (da:Addr) (kV SU pm:Value) (an:Option Addr) (SN ct:Value) (us:List Value),us.length=ps.length->∃ k:Option (Array Value)->Sem (List (Str×Value)),abR (W.fnOf "__init__" qual (aY st) (aP st) (ag st) (.ref da) kV SU pm an SN ct) ⟨us,[]⟩=acr (.ref da) >>= k/\k (some #[.none])=pure (ps.zip us))(b2:∀ (da:Addr) (kV SU pm:Value) (an:Option Addr) (SN ct:Value) (us:List Value),us.length+1=ps.length->∃ k:Option (Array Value)->Sem (List (Str×Value)),abR (W.fnOf "__init__" qual (aY st) (aP st) (ag st) (.ref da) kV SU pm an SN ct) ⟨us,[]⟩=acr (.ref da) >>= k/\k (some #[.none])=pure (ps.zip (us++[.none]))):∃ f fd,fb K "__init__" qual st f fd/\Mk K C f/\Binds K fd ps []/\Binds K fd ps [.none]:=⟨_,_,ie l d c k,⟨m,a,i,kc⟩,GG (ie l d c k) b,(ie l d c k).uU b2⟩
theorem SD (X:K.In h)(G:h.Ns aa4 mg)(a:W.nsIn K aa4 x=some (some (.ref f)))(l:K.lookup f=some ⟨oc,od,.func (W.fnOf x qual (aY st) (aP st) (ag st) (.ref da) kV SU pm an SN ct),Tj⟩)(d:K.lookup da=some ⟨dc,dd,.seq #[.none] n,dl⟩)(c:abN K SN qual=true)(k:abc K (.ref f)=true)(b:∀ (da:Addr) (kV SU pm:Value) (an:Option Addr) (SN ct:Value) (us:List Value),us.length=ps.length->∃ k:Option (Array Value)->Sem (List (Str×Value)),abR (W.fnOf x qual (aY st) (aP st) (ag st) (.ref da) kV SU pm an SN ct) ⟨us,[]⟩=acr (.ref da) >>= k/\k (some #[.none])=pure (ps.zip us))(b2:∀ (da:Addr) (kV SU pm:Value) (an:Option Addr) (SN ct:Value) (us:List Value),us.length+1=ps.length->∃ k:Option (Array Value)->Sem (List (Str×Value)),abR (W.fnOf x qual (aY st) (aP st) (ag st) (.ref da) kV SU pm an SN ct) ⟨us,[]⟩=acr (.ref da) >>= k/\k (some #[.none])=pure (ps.zip (us++[.none]))):∃ f fd,fb K x qual st f fd/\mg x=some (.ref f)/\Binds K fd ps []/\Binds K fd ps [.none]:=⟨_,_,ie l d c k,W.mg_of X G a,GG (ie l d c k) b,(ie l d c k).uU b2⟩
theorem Si {nn:Int}{tk:Tok}(m:W.makesIn K C=true)(kc:abc K (.ref C)=true)(a:aa_ K (.ref C) "__init__" = some (some (.ref f)))(i:W.isFn K (.ref f)=true)(l:K.lookup f=some ⟨oc,od,.func (W.fnOf "__init__" qual (aY st) (aP st) (ag st) (.ref da) kV SU pm an SN ct),Tj⟩)(d:K.lookup da=some ⟨dc,dd,.seq #[.int nn tk] n,dl⟩)(c:abN K SN qual=true)(k:abc K (.ref f)=true)(b:∀ (da:Addr) (kV SU pm:Value) (an:Option Addr) (SN ct:Value) (us:List Value),us.length=ps.length->∃ k:Option (Array Value)->Sem (List (Str×Value)),abR (W.fnOf "__init__" qual (aY st) (aP st) (ag st) (.ref da) kV SU pm an SN ct) ⟨us,[]⟩=acr (.ref da) >>= k/\k (some #[.int nn tk])=pure (ps.zip us))(b2:∀ (da:Addr) (kV SU pm:Value) (an:Option Addr) (SN ct:Value) (us:List Value),us.length+1=ps.length->∃ k:Option (Array Value)->Sem (List (Str×Value)),abR (W.fnOf "__init__" qual (aY st) (aP st) (ag st) (.ref da) kV SU pm an SN ct) ⟨us,[]⟩=acr (.ref da) >>= k/\k (some #[.int nn tk])=pure (ps.zip (us++[.int nn tk]))):∃ f fd dv,lg K dv "__init__" qual st f fd/\Mk K C f/\Binds K fd ps []/\Binds K fd ps [dv]/\RelV (.int nn) dv:=⟨_,_,_,wA l d c k,⟨m,a,i,kc⟩,(wA l d c k).binds b,(wA l d c k).uU b2,⟨_,rfl⟩⟩
theorem tX (X:K.In h)(G:h.Ns aa4 mg)(cc:W.nsIn K aa4 x=some (some (.ref C)))(a:aa_ K (.ref C) "__init__" = some (some (.ref f)))(l:K.lookup f=some ⟨oc,od,.func (W.fnOf "__init__" qual (aY st) (aP st) (ag st) .none kV SU pm an SN ct),Tj⟩)(c:abN K SN qual=true)(k:abc K (.ref f)=true)(xw:qD K C f=true)(b:∀ (kV SU pm:Value) (an:Option Addr) (SN ct:Value) (us:List Value),us.length=ps.length->abR (W.fnOf "__init__" qual (aY st) (aP st) (ag st) .none kV SU pm an SN ct) ⟨us,[]⟩=pure (ps.zip us)):∃ f fd,eC K "__init__" qual st f fd/\kU K mg x C f/\Binds K fd ps []:=⟨_,_,gS l c k,⟨W.mg_of X G cc,xw⟩,(gS l c k).binds b⟩
theorem Sf (X:K.In h)(G:h.Ns aa4 mg)(cc:W.nsIn K aa4 x=some (some (.ref C)))(a:aa_ K (.ref C) "__init__" = some (some (.ref f)))(xw:qD K C f=true):∃ f,kU K mg x C f:=⟨_,W.mg_of X G cc,xw⟩
theorem tS {a:Addr}{its:Array Value}{sl:Array (Option Value)}(hz:its.size<=aal)(l:K.lookup a=some ⟨.type "tuple",od,.seq its n,sl⟩)(v:aI xs its.toList):∀ H,aJ K H a xs:=Q9 l hz v
end
variable {α : Type}
theorem MO {P:List α->Prop}(f:∀ x0,P [x0]):∀ us:List α,us.length=1->P us
 | [x0],_=>f x0
theorem R4 {P:List α->Prop}(f:∀ x0,P [x0]):∀ us:List α,us.length+1=2->P us:=λus h=>MO f us (ac5 h)
theorem ln2 {P:List α->Prop}(f:∀ x0 x1,P [x0,x1]):∀ us:List α,us.length=2->P us
 | [x0,x1],_=>f x0 x1
theorem SJ {P:List α->Prop}(f:∀ x0 x1,P [x0,x1]):∀ us:List α,us.length+1=3->P us:=λus h=>ln2 f us (ac5 h)
theorem QT {P:List α->Prop}(f:∀ x0 x1 x2,P [x0,x1,x2]):∀ us:List α,us.length=3->P us
 | [x0,x1,x2],_=>f x0 x1 x2
theorem N2 {P:List α->Prop}(f:∀ x0 x1 x2 x3,P [x0,x1,x2,x3]):∀ us:List α,us.length=4->P us
 | [x0,x1,x2,x3],_=>f x0 x1 x2 x3
theorem Su {P:List α->Prop}(f:∀ x0 x1 x2 x3,P [x0,x1,x2,x3]):∀ us:List α,us.length+1=5->P us:=λus h=>N2 f us (ac5 h)
theorem QR {P:List α->Prop}(f:∀ x0 x1 x2 x3 x4,P [x0,x1,x2,x3,x4]):∀ us:List α,us.length=5->P us
 | [x0,x1,x2,x3,x4],_=>f x0 x1 x2 x3 x4
theorem tL {K:W.Frag}{h:Heap}{mg:Str->Option Value}{f fa:Addr}{oc:Value}{od an:Option Addr}{Tj:Array (Option Value)}{kV SU pm SN ct:Value}(X:K.In h)(G:h.Ns aa4 mg)(e:mg "law" = some (.ref fa))(a:W.nsIn K aa4 "law" = some (some (.ref f)))(l:K.lookup f=some ⟨oc,od,.func (W.fnOf "law" "law" (aY gX) (aP gX) (ag gX) .none kV SU pm an SN ct),Tj⟩)(c:abN K SN "law" = true)(k:abc K (.ref f)=true):∃ fd,eC K "law" "law" gX fa fd/\∀ (s:Shared) (v:Value),BindsTo s fd ⟨[v],[]⟩ [("_law_script",v)]:=by
 cases e.symm.trans (W.mg_of X G a)
 exact⟨_,gS l c k,λs v=>.of_eq rfl⟩
theorem walk {l:W.OpenLaw}{q:Program}{Uq:List Str}{XP:(Str->Option Value)->Heap->Prop}{YP:World->Heap->Prop}{d:DefRec}{K:Params->W.Frag}(hn:l.most=some 63)(hdf:d.params.defaults=[])
   (hY:∀ (w:World) (h:Heap),YP w h->(K w.params).In h)
   (F:∀ (w:World) (mg:Str->Option Value) (fa:Addr) (h:Heap),(K w.params).In h->h.Ns aa4 mg->mg d.name=some (.ref fa) ->
     ∃ fd:aa3,(∀ (s:Shared) (u:Value),BindsTo s fd ⟨[u],[]⟩ [("_law_script",u)])/\∀ base:Heap,(K w.params).In base->base.Ns aa4 mg->c6 l.prog w (K w.params) mg base bJ 9 fa fd ["_law_script"] (qG (K w.params))) :
   W.WalkO q Uq XP YP l.row.toRowW d [] (λf vs=>PySem.call f vs) :=
 L2.K0 (n:=63) (k:=9) (x:="_law_script") (CX:=λ_=>bJ) (sp:=λw=>qG (K w.params)) hn (by decide) hdf ⟨rfl,by decide,by decide,rfl⟩ hY F (λ_ _ a ns hl _ hS=>⟨a,ns,rfl,hS,hl,λ_=>rfl⟩) λ_ _ _ _ _ z=>z
local macro_rules | `(tactic| walk_at "k") => `(tactic| first | k_is | kit_is | rfl | kernel_rfl)
local macro_rules | `(tactic| walk_at "b") => `(tactic| (first | (intro _ _ _ _ _ _; first | (refine FB.ln2 ?_; intro _ _; rfl) | (refine FB.MO ?_; intro _; rfl) | (refine FB.QT ?_; intro _ _ _; rfl) | (refine FB.N2 ?_; intro _ _ _ _; rfl) | (refine FB.ln0 ?_; rfl) | (refine FB.QR ?_; intro _ _ _ _ _; rfl) | (refine FB.ln6 ?_; intro _ _ _ _ _ _; rfl)) | (intro _ _ _ _ _ _ _; first | exact FB.ln0 ⟨_, rfl, rfl⟩ | exact FB.MO (λ_ => ⟨_, rfl, rfl⟩) | exact FB.ln2 (λ_ _ => ⟨_, rfl, rfl⟩) | exact FB.QT (λ_ _ _ => ⟨_, rfl, rfl⟩) | exact FB.N2 (λ_ _ _ _ => ⟨_, rfl, rfl⟩) | exact FB.QR (λ_ _ _ _ _ => ⟨_, rfl, rfl⟩) | exact FB.ln6 (λ_ _ _ _ _ _ => ⟨_, rfl, rfl⟩) | exact FB.lm0 ⟨_, rfl, rfl⟩ | exact FB.R4 (λ_ => ⟨_, rfl, rfl⟩) | exact FB.SJ (λ_ _ => ⟨_, rfl, rfl⟩) | exact FB.lm3 (λ_ _ _ => ⟨_, rfl, rfl⟩) | exact FB.Su (λ_ _ _ _ => ⟨_, rfl, rfl⟩) | exact FB.lm5 (λ_ _ _ _ _ => ⟨_, rfl, rfl⟩) | exact FB.lm6 (λ_ _ _ _ _ _ => ⟨_, rfl, rfl⟩))))
local macro_rules | `(tactic| walk_at "T") => `(tactic| first | ((with_reducible refine W.mg_none_of (by assumption) (by assumption) ?_); walk_at "k") | ((with_reducible refine W.mg_of (by assumption) (by assumption) ?_); walk_at "k") | ((with_reducible refine' ⟨_, W.mg_of (by assumption) (by assumption) ?gg⟩); (case gg => walk_at "k")) | ((with_reducible refine' FB.tF (by assumption) (by assumption) ?a ?l ?c ?k ?b); (case a => walk_at "k"); (case l => walk_at "k"); (case c => walk_at "k"); (case k => walk_at "k"); (case b => walk_at "b")) | ((with_reducible refine' FB.tM ?a ?i ?l ?c ?k ?b); (case a => walk_at "k"); (case i => walk_at "k"); (case l => walk_at "k"); (case c => walk_at "k"); (case k => walk_at "k"); (case b => walk_at "b")) | ((with_reducible refine' FB.tI ?m ?kc ?a ?i ?l ?c ?k ?b); (case m => walk_at "k"); (case kc => walk_at "k"); (case a => walk_at "k"); (case i => walk_at "k"); (case l => walk_at "k"); (case c => walk_at "k"); (case k => walk_at "k"); (case b => walk_at "b")) | ((with_reducible refine' FB.Sq ?m ?kc ?a ?i ?l ?d ?c ?k ?b ?b2); (case m => walk_at "k"); (case kc => walk_at "k"); (case a => walk_at "k"); (case i => walk_at "k"); (case l => walk_at "k"); (case d => walk_at "k"); (case c => walk_at "k"); (case k => walk_at "k"); (case b => walk_at "b"); (case b2 => walk_at "b")) | ((with_reducible refine' FB.SD (by assumption) (by assumption) ?a ?l ?d ?c ?k ?b ?b2); (case a => walk_at "k"); (case l => walk_at "k"); (case d => walk_at "k"); (case c => walk_at "k"); (case k => walk_at "k"); (case b => walk_at "b"); (case b2 => walk_at "b")) | ((with_reducible refine' FB.Si ?m ?kc ?a ?i ?l ?d ?c ?k ?b ?b2); (case m => walk_at "k"); (case kc => walk_at "k"); (case a => walk_at "k"); (case i => walk_at "k"); (case l => walk_at "k"); (case d => walk_at "k"); (case c => walk_at "k"); (case k => walk_at "k"); (case b => walk_at "b"); (case b2 => walk_at "b")) | ((with_reducible refine' FB.tX (by assumption) (by assumption) ?cc ?a ?l ?c ?k ?xw ?b); (case cc => walk_at "k"); (case a => walk_at "k"); (case l => walk_at "k"); (case c => walk_at "k"); (case k => walk_at "k"); (case xw => walk_at "k"); (case b => walk_at "b")) | ((with_reducible refine' FB.Sf (by assumption) (by assumption) ?cc ?a ?xw); (case cc => walk_at "k"); (case a => walk_at "k"); (case xw => walk_at "k")) | (unfold L2.aX; walk_at "k") | ((with_reducible show acj _ _ _ = _); walk_at "k") | ((with_reducible show L2.eg _ _); constructor <;> walk_at "k") | ((with_reducible show aa_ _ _ _ = _ /\ _); constructor <;> walk_at "k") | ((with_reducible refine ⟨W.mg_of (by assumption) (by assumption) ?_, ?_, ?_, ?_⟩) <;> walk_at "k") | ((with_reducible refine ⟨W.mg_of (by assumption) (by assumption) ?_, ?_⟩) <;> walk_at "k") | ((with_reducible refine ⟨?_, ?_, ?_, ?_, ?_, ?_, ?_, ?_⟩) <;> walk_at "k") | ((with_reducible refine ⟨?_, ?_, ?_, ?_⟩) <;> walk_at "k") | ((with_reducible refine ⟨?_, ?_⟩) <;> walk_at "k") | (unfold L2.aX; walk_at "k") | walk_at "k")
set_option maxRecDepth 100000 in
set_option maxHeartbeats 0 in
theorem Pm:PySem.Challenge.rw_frameback_k92_whole_all_as_at_the_call.Holds:=by
 refine hd ?_
 k_fill
 refine FB.walk (l:=PySem.Challenge.rw_frameback_k92_whole_all_as_at_the_call) rfl rfl (λw h Y=>W.kIn_of Y) ?F
 case F =>
   intro w mg fa h KX G hmg;have T:∃ a:FB.bE,FB.Txt (L2.JL KX) mg a:=by
     dsimp only[L2.JL];refine'⟨⟨0,_,_,_,0,0,0,_,_,_,_,_,_,_,_,_,0,0,_,_,_,0,_,0,_,_,0,0,0,_,0,0,_,_,0,0⟩,?T⟩;(case T =>
       constructor
       (case oA=>walk_at"T")
       (case jo=>exact FB.tS (its:=#[.int 4 _,.int 5 _,.int 6 _]) (aa2 rfl) (by walk_at"k") (.cons ⟨_,rfl⟩ (.cons ⟨_,rfl⟩ (.cons ⟨_,rfl⟩ .nil))))
       (case rM=>walk_at"T")
       (case kY=>exact FB.tS (its:=#[.str "back" _,.int 4 _,.int 5 _,.int 6 _]) (aa2 rfl) (by walk_at"k") (.cons ⟨_,rfl⟩ (.cons ⟨_,rfl⟩ (.cons ⟨_,rfl⟩ (.cons ⟨_,rfl⟩ .nil)))))
       (case lR=>walk_at"T")
       (case lX=>exact⟨_,FB.tS (its:=#[.int 0 _,.int 128 _,.ref _]) (aa2 rfl) (by walk_at"k") (.cons ⟨_,rfl⟩ (.cons ⟨_,rfl⟩ (.cons rfl .nil))),FB.tS (its:=#[.int 16 _,.int 32 _,.int 64 _]) (aa2 rfl) (by walk_at"k") (.cons ⟨_,rfl⟩ (.cons ⟨_,rfl⟩ (.cons ⟨_,rfl⟩ .nil)))⟩)
       all_goals walk_at"T")
   have B:∃ fd:aa3,L2.eC (L2.JL KX) "law" "law" FB.gX fa fd/\∀ (s:Shared) (v:Value),BindsTo s fd ⟨[v],[]⟩ [("_law_script",v)]:=by
     dsimp only[L2.JL];refine' FB.tL KX G hmg ?l1 ?l2 ?l3 ?l4;(case l1=>walk_at"k")
     (case l2=>walk_at"k")
     (case l3=>walk_at"k")
     (case l4=>walk_at"k")
   obtain⟨a,T⟩:=T;obtain⟨fd,FF,B⟩:=B;exact⟨fd,B,λbase _ _=>FB.law_fn T FF⟩
end FB
theorem PySem.Challenge.cw_frameback_k92_whole_all_as_at_the_call_holds : PySem.Challenge.rw_frameback_k92_whole_all_as_at_the_call.Holds :=
 FB.Pm
