import PyProof.Rows.All
import Wide.All
import OpenK.AllK
import Wide.FinOn
import Lean
import PyProof.EqAt
import PyProof.EqKinds
import PyProof.TupleCall
import PySem.Challenge.RW_frameback_k91_whole_the_reader_tells_the
set_option Elab.async false
set_option linter.all false
set_option compiler.extract_closed false
set_option maxRecDepth 100000
namespace FB
open PySem PySem.W PyProof.Rows
end FB
namespace PySem.W.Fast
local macro_rules | `(command| #version) => do
  let f := fun (n : Lean.Name) => let i := Lean.mkIdent (.mkSimple s!"tw{n.hash.toNat}"); `(theorem $i:ident : True := trivial)
  let mut r : Array Lean.Syntax := #[← f `PySem.Challenge.pw_frameback_k91_whole_the_reader_tells_the]
  for (k, a, b) in [("heap",39,39),("heap",46,46),("heap",1279,1279),("o",43,46),("o",49,609),("o",611,1167),("o",1171,1278),("sts",49,49),("sts",71,71),("sts",86,86),("sts",101,101),("sts",137,137),("sts",167,167),("sts",211,211),("sts",254,254),("sts",297,297),("sts",326,326),("sts",355,355),("sts",398,398),("sts",448,448),("sts",477,477),("sts",513,513),("sts",552,552),("sts",609,609),("sts",611,611),("sts",661,661),("sts",711,711),("sts",761,761),("sts",804,804),("sts",855,855),("sts",933,933),("sts",967,967),("sts",1171,1171),("sts",1251,1251),("tree",47,47),("tree",70,70),("tree",85,85),("tree",100,100),("tree",136,136),("tree",166,166),("tree",210,210),("tree",253,253),("tree",296,296),("tree",325,325),("tree",354,354),("tree",397,397),("tree",447,447),("tree",476,476),("tree",512,512),("tree",551,551),("tree",608,609),("tree",660,660),("tree",710,710),("tree",760,760),("tree",803,803),("tree",854,854),("tree",932,932),("tree",966,966),("tree",1081,1081),("tree",1167,1167),("tree",1250,1250),("tree",1278,1278),("view",39,39)] do
    for i in [a:b + 1] do
      r := r.push (← f (.str `FB.hd s!"{k}_{i}"))
  return Lean.mkNullNode r
#version
end PySem.W.Fast
open List renaming getElem?_eq_getElem→aaa,length_append→aab,length_map→aac,getElem?_map→aah,mem_of_getElem?→aak,size_toArray→aao,getElem?_append_right→aaq,getD_eq_getElem?_getD→aar,getElem?_append_left→aas,replicate→aau,mem_append_right→aay,length_take→aaA,length_replicate→aaC,map_append→aaE,length_singleton→aaF,length_cons→aaG,append_nil→aaL,getElem?_set_self→aaN,getElem?_set_ne→aaO,mem_cons→aaP,map_cons→aaQ,not_mem_nil→aaR,getElem_mem→aaX,length_set→aaZ,take_length→aa0,mem_append_left→aa5,Nodup→aa6,length_reverse→aa7,mem_cons_of_mem→abb,map_map→abd,lookup_cons→abe,replicate_succ→abu,length_drop→abz,any_cons→abA,lookup→abC,find?_cons→abE,take_add_one→abF,filterMap_cons→abH,getElem?_replicate→abI,getElem?_eq_none→abS,map→abX,mem_of_mem_take→abY,range→ab_,mem_cons_self→acd,flatten_cons→acn,append_assoc→aco,all_cons→acF,length_nil→acI,mem_or_eq_of_mem_set→acU,cons_ne_nil→ada,take_of_length_le→adg,getElem?_reverse→adm,nodup_nil→adx,filterMap_map→adP
open PySem renaming wpAny_bind→aad,starEach→aai,wpAny_pure→aaj,sizeLine→aal,wpAny_mono→aaH,sizeLine_eq→aaI,compareOp→aaU,bootBuiltins→aaW,FuncData→aa3,mainGlobals→aa4,wpAny_holding→aa_,wpAny_Call_Name_kw→abf,wpAny_truthy_bool→abj,Spec→abr,wpAny_newObj_type→abw,wpAny_field→aby,binaryOp→abD,wpAny_execs_nil→abK,wpAny_pyIter_list→abL,bindArgs→abW,keywordEach→abZ,codeAny_mono→ab0,wpAny_passesOwn→ab1,attributeBase→ab3,mem_of_lookup→ab4,sysModules→aci,seqItems?→acr,wpAny_standAt→acs,wpAny_callSpecial?_slot→acv,wpAny_loadPart_at→acC,wpAny_call_entry→acK,codeAny_call_builtin→acO,wpAny_call→acP,assignEach→acQ,swapsWith→acV,getMethod→acW,sliceBounds→acX,excClassObj→acY,callWith→ac2,backToKw→ac3,ExcBaseFacts→ac4,wpAny_setField_rec→ac6,wpAny_setField→ac9,wpAny_seqItems→ac_,behindInMarks→ado,wpAny_execs_cons→adu,wpAny_specialOf→adG,letOwnedTupleGo→adH,builtinLookup_eq_fast→adJ,typeLookup→adM
open PySem.Str renaming ofString→aae,empty→adn
open PySem.Heap renaming get?_push_of_some→aaf,lt_size→aam,get?_push_size→aat,get?_update_other→aaY,get?_update_self→aa9,size_push→abP,SameBut→aca,MadeExcOf→acS,get?_none_of_le→adv
open Nat renaming le_refl→aag,ne_of_lt→aaw,lt_of_lt_of_le→aaz,le_trans→aaK,testBit_and→aaS,zero_le→aaT,le_of_ble_eq_true→aa2,lt_of_le_of_lt→abk,le_succ→abm,eq_of_testBit_eq→abp,lt_irrefl→abB,testBit_two_pow→abM,ne_of_gt→abU,testBit_zero→ab6,testBit_succ→ab7,lt_succ_self→ab8,le_add_right→ab9,not_lt_zero→acg,lt_succ_of_lt→acu,le_of_eq→acx,zero_testBit→acD,mod_eq_of_lt→acE,pow_le_pow_right→acG,le_add_left→acL,and_le_left→acM,succ_le_succ→ade,and_le_right→adf,zero_add→adp,le_of_lt→adq,min_eq_left→ads,pow_lt_pow_right→adB,testBit_or→adD,lt_two_pow_self→adK
open True renaming intro→aan
open Bool renaming false_ne_true→aap,and_eq_true→aaM,false_eq_true→ace,not_eq_true'→ac1,false_or→ac5,eq_iff_iff→adl,or_false→adO
open PySem.Builtin renaming bitNot→aav,bitAnd→aaJ,bitXor→adk,bitOr→ady
open Option.some renaming inj→aax
open PySem.Value renaming ref→Tg,none→abq,int→abt,type→acZ,bool→adi,str→adF
open Int renaming toNat_natCast→aaD,toNat_of_nonneg→aa1,emod_lt_of_pos→aba,eq_ofNat_of_zero_le→abc,emod_nonneg→abi,natCast_nonneg→abl,le_refl→acJ,natAbs_natCast→acT
open False renaming elim→aaV
open PyProof.Rows renaming callWith_type1→aa8,subscriptTail_builtinR→adz
open PySem.W renaming findIn→abg,keepIn→abh,codeIn→abR,emptyDict→acb,kitOne→acj,kia_one→ack,hideAll→acm,instObj→ac8,callWith_K→adw
open PySem.Builtin.Int renaming intBits→abn
open PySem.Builtin.SmallTypes renaming nextOf→abo
open PySem.F renaming excBase_ValueError→abv,plainAttrs_list→abG
open Option renaming toList_some→abx,map_eq_some_iff→abN,isSome_some→adE
open PySem.Builtin.List renaming listExtendWith→abJ,listTooLong→abV,listSubscript?→acq
open Lean.Macro renaming throwUnsupported→abO
open PySem.Builtin.Slice renaming slicePlaces→abQ,sliceAdjust→acA
open PySem.Builtin.Tuple renaming tupleExact→abT
open PySem.AutoSeq1 renaming wpAny_loadPart'→ab2
open Array renaming length_toList→ab5,getElem?_toList→adh
open PySem.Obj renaming mapFields→acf,data_mapFields→ach,mapSeq→acH,isFreed_of_fields→adt
open Decidable renaming of_not_not→acp
open Lean renaming TSyntax→acw,mkIdent→adj
open PySem.PassesOwn renaming never→acy,leaving→adA
open ForInStep renaming yield→acz
open PySem.Calls renaming evalArgs_plain→acB,callWith_builtin→adb,spliced_cons→adL
open BitVec renaming toNat_ofNat→acN
open PySem.NameKind renaming free→acR
open Sum.inl renaming inj→ac0
open PySem.Heap.SameBut renaming update→ac7
open PySem.Paired renaming length→adC
open Nat.succ renaming inj→adI
open PySem.PyData renaming eqv→adN
open PySem.Code renaming quiet_builtin→adQ
namespace FB
open PySem PySem.W PyProof.Rows
set_option maxRecDepth 100000 in
set_option maxHeartbeats 0 in
open_top hd for PySem.Challenge.rw_frameback_k91_whole_the_reader_tells_the
end FB
local macro_rules|`(tactic|nofun)=>`(tactic|decide +kernel)
local macro_rules|`(tactic|ac_nf)=>`(tactic|walk_at "in")
local macro_rules|`(tactic|bv_omega)=>`(tactic|walk_at "hlk")
variable {G:Prop}
theorem exE2.{u0,u1} {a0:Sort u0} {a1:Sort u1} {P:a0->a1->Prop} (h:∃ x0 x1,P x0 x1) (k:∀ x0 x1,P x0 x1->G):G:=h.elim λx0 h=>h.elim λx1 h=>k x0 x1 h
theorem exI2.{u0,u1} {a0:Sort u0} {a1:Sort u1} {P:a0->a1->Prop} (x0:a0) (x1:a1) (h:P x0 x1):∃ x0 x1,P x0 x1:=.intro x0 ( .intro x1 h)
theorem exE3.{u0,u1,u2} {a0:Sort u0} {a1:Sort u1} {a2:Sort u2} {P:a0->a1->a2->Prop} (h:∃ x0 x1 x2,P x0 x1 x2) (k:∀ x0 x1 x2,P x0 x1 x2->G):G:=h.elim λx0 h=>h.elim λx1 h=>h.elim λx2 h=>k x0 x1 x2 h
theorem exI3.{u0,u1,u2} {a0:Sort u0} {a1:Sort u1} {a2:Sort u2} {P:a0->a1->a2->Prop} (x0:a0) (x1:a1) (x2:a2) (h:P x0 x1 x2):∃ x0 x1 x2,P x0 x1 x2:=.intro x0 ( .intro x1 ( .intro x2 h))
theorem exE4.{u0,u1,u2,u3} {a0:Sort u0} {a1:Sort u1} {a2:Sort u2} {a3:Sort u3} {P:a0->a1->a2->a3->Prop} (h:∃ x0 x1 x2 x3,P x0 x1 x2 x3) (k:∀ x0 x1 x2 x3,P x0 x1 x2 x3->G):G:=h.elim λx0 h=>h.elim λx1 h=>h.elim λx2 h=>h.elim λx3 h=>k x0 x1 x2 x3 h
theorem exI4.{u0,u1,u2,u3} {a0:Sort u0} {a1:Sort u1} {a2:Sort u2} {a3:Sort u3} {P:a0->a1->a2->a3->Prop} (x0:a0) (x1:a1) (x2:a2) (x3:a3) (h:P x0 x1 x2 x3):∃ x0 x1 x2 x3,P x0 x1 x2 x3:=.intro x0 ( .intro x1 ( .intro x2 ( .intro x3 h)))
theorem exE5.{u0,u1,u2,u3,u4} {a0:Sort u0} {a1:Sort u1} {a2:Sort u2} {a3:Sort u3} {a4:Sort u4} {P:a0->a1->a2->a3->a4->Prop} (h:∃ x0 x1 x2 x3 x4,P x0 x1 x2 x3 x4) (k:∀ x0 x1 x2 x3 x4,P x0 x1 x2 x3 x4->G):G:=h.elim λx0 h=>h.elim λx1 h=>h.elim λx2 h=>h.elim λx3 h=>h.elim λx4 h=>k x0 x1 x2 x3 x4 h
theorem exI5.{u0,u1,u2,u3,u4} {a0:Sort u0} {a1:Sort u1} {a2:Sort u2} {a3:Sort u3} {a4:Sort u4} {P:a0->a1->a2->a3->a4->Prop} (x0:a0) (x1:a1) (x2:a2) (x3:a3) (x4:a4) (h:P x0 x1 x2 x3 x4):∃ x0 x1 x2 x3 x4,P x0 x1 x2 x3 x4:=.intro x0 ( .intro x1 ( .intro x2 ( .intro x3 ( .intro x4 h))))
theorem exE6.{u0,u1,u2,u3,u4,u5} {a0:Sort u0} {a1:Sort u1} {a2:Sort u2} {a3:Sort u3} {a4:Sort u4} {a5:Sort u5} {P:a0->a1->a2->a3->a4->a5->Prop} (h:∃ x0 x1 x2 x3 x4 x5,P x0 x1 x2 x3 x4 x5) (k:∀ x0 x1 x2 x3 x4 x5,P x0 x1 x2 x3 x4 x5->G):G:=h.elim λx0 h=>h.elim λx1 h=>h.elim λx2 h=>h.elim λx3 h=>h.elim λx4 h=>h.elim λx5 h=>k x0 x1 x2 x3 x4 x5 h
theorem exI6.{u0,u1,u2,u3,u4,u5} {a0:Sort u0} {a1:Sort u1} {a2:Sort u2} {a3:Sort u3} {a4:Sort u4} {a5:Sort u5} {P:a0->a1->a2->a3->a4->a5->Prop} (x0:a0) (x1:a1) (x2:a2) (x3:a3) (x4:a4) (x5:a5) (h:P x0 x1 x2 x3 x4 x5):∃ x0 x1 x2 x3 x4 x5,P x0 x1 x2 x3 x4 x5:=.intro x0 ( .intro x1 ( .intro x2 ( .intro x3 ( .intro x4 ( .intro x5 h)))))
theorem exE7.{u0,u1,u2,u3,u4,u5,u6} {a0:Sort u0} {a1:Sort u1} {a2:Sort u2} {a3:Sort u3} {a4:Sort u4} {a5:Sort u5} {a6:Sort u6} {P:a0->a1->a2->a3->a4->a5->a6->Prop} (h:∃ x0 x1 x2 x3 x4 x5 x6,P x0 x1 x2 x3 x4 x5 x6) (k:∀ x0 x1 x2 x3 x4 x5 x6,P x0 x1 x2 x3 x4 x5 x6->G):G:=h.elim λx0 h=>h.elim λx1 h=>h.elim λx2 h=>h.elim λx3 h=>h.elim λx4 h=>h.elim λx5 h=>h.elim λx6 h=>k x0 x1 x2 x3 x4 x5 x6 h
theorem exI7.{u0,u1,u2,u3,u4,u5,u6} {a0:Sort u0} {a1:Sort u1} {a2:Sort u2} {a3:Sort u3} {a4:Sort u4} {a5:Sort u5} {a6:Sort u6} {P:a0->a1->a2->a3->a4->a5->a6->Prop} (x0:a0) (x1:a1) (x2:a2) (x3:a3) (x4:a4) (x5:a5) (x6:a6) (h:P x0 x1 x2 x3 x4 x5 x6):∃ x0 x1 x2 x3 x4 x5 x6,P x0 x1 x2 x3 x4 x5 x6:=.intro x0 ( .intro x1 ( .intro x2 ( .intro x3 ( .intro x4 ( .intro x5 ( .intro x6 h))))))
theorem exE8.{u0,u1,u2,u3,u4,u5,u6,u7} {a0:Sort u0} {a1:Sort u1} {a2:Sort u2} {a3:Sort u3} {a4:Sort u4} {a5:Sort u5} {a6:Sort u6} {a7:Sort u7} {P:a0->a1->a2->a3->a4->a5->a6->a7->Prop} (h:∃ x0 x1 x2 x3 x4 x5 x6 x7,P x0 x1 x2 x3 x4 x5 x6 x7) (k:∀ x0 x1 x2 x3 x4 x5 x6 x7,P x0 x1 x2 x3 x4 x5 x6 x7->G):G:=h.elim λx0 h=>h.elim λx1 h=>h.elim λx2 h=>h.elim λx3 h=>h.elim λx4 h=>h.elim λx5 h=>h.elim λx6 h=>h.elim λx7 h=>k x0 x1 x2 x3 x4 x5 x6 x7 h
theorem exI8.{u0,u1,u2,u3,u4,u5,u6,u7} {a0:Sort u0} {a1:Sort u1} {a2:Sort u2} {a3:Sort u3} {a4:Sort u4} {a5:Sort u5} {a6:Sort u6} {a7:Sort u7} {P:a0->a1->a2->a3->a4->a5->a6->a7->Prop} (x0:a0) (x1:a1) (x2:a2) (x3:a3) (x4:a4) (x5:a5) (x6:a6) (x7:a7) (h:P x0 x1 x2 x3 x4 x5 x6 x7):∃ x0 x1 x2 x3 x4 x5 x6 x7,P x0 x1 x2 x3 x4 x5 x6 x7:=.intro x0 ( .intro x1 ( .intro x2 ( .intro x3 ( .intro x4 ( .intro x5 ( .intro x6 ( .intro x7 h)))))))
variable {p0 p1 p2:Prop}
theorem anE3 (h:p0/\p1/\p2)(k:p0->p1->p2->G):G:=k h.1 h.2.1 h.2.2
theorem anI3 (h0:p0)(h1:p1)(h2:p2):p0/\p1/\p2:=.intro h0 (.intro h1 h2)
variable {p3:Prop}
theorem anE4 (h:p0/\p1/\p2/\p3)(k:p0->p1->p2->p3->G):G:=k h.1 h.2.1 h.2.2.1 h.2.2.2
theorem anI4 (h0:p0)(h1:p1)(h2:p2)(h3:p3):p0/\p1/\p2/\p3:=.intro h0 (.intro h1 (.intro h2 h3))
variable {p4:Prop}
theorem anE5 (h:p0/\p1/\p2/\p3/\p4)(k:p0->p1->p2->p3->p4->G):G:=k h.1 h.2.1 h.2.2.1 h.2.2.2.1 h.2.2.2.2
theorem anI5 (h0:p0)(h1:p1)(h2:p2)(h3:p3)(h4:p4):p0/\p1/\p2/\p3/\p4:=.intro h0 (.intro h1 (.intro h2 (.intro h3 h4)))
variable {p5:Prop}
theorem anE6 (h:p0/\p1/\p2/\p3/\p4/\p5)(k:p0->p1->p2->p3->p4->p5->G):G:=k h.1 h.2.1 h.2.2.1 h.2.2.2.1 h.2.2.2.2.1 h.2.2.2.2.2
theorem anI6 (h0:p0)(h1:p1)(h2:p2)(h3:p3)(h4:p4)(h5:p5):p0/\p1/\p2/\p3/\p4/\p5:=.intro h0 (.intro h1 (.intro h2 (.intro h3 (.intro h4 h5))))
variable {p6:Prop}
theorem anE7 (h:p0/\p1/\p2/\p3/\p4/\p5/\p6)(k:p0->p1->p2->p3->p4->p5->p6->G):G:=k h.1 h.2.1 h.2.2.1 h.2.2.2.1 h.2.2.2.2.1 h.2.2.2.2.2.1 h.2.2.2.2.2.2
theorem anI7 (h0:p0)(h1:p1)(h2:p2)(h3:p3)(h4:p4)(h5:p5)(h6:p6):p0/\p1/\p2/\p3/\p4/\p5/\p6:=.intro h0 (.intro h1 (.intro h2 (.intro h3 (.intro h4 (.intro h5 h6)))))
theorem anE8 (h:p0/\p1/\p2/\p3/\p4/\p5/\p6/\p7)(k:p0->p1->p2->p3->p4->p5->p6->p7->G):G:=k h.1 h.2.1 h.2.2.1 h.2.2.2.1 h.2.2.2.2.1 h.2.2.2.2.2.1 h.2.2.2.2.2.2.1 h.2.2.2.2.2.2.2
theorem anI8 (h0:p0)(h1:p1)(h2:p2)(h3:p3)(h4:p4)(h5:p5)(h6:p6)(h7:p7):p0/\p1/\p2/\p3/\p4/\p5/\p6/\p7:=.intro h0 (.intro h1 (.intro h2 (.intro h3 (.intro h4 (.intro h5 (.intro h6 h7))))))
set_option hygiene false
local macro_rules | `(tactic| obtain ⟨$ps,*⟩ := $e:term) => do
 let ps:=ps.getElems
 let N:=ps.size
 if N<3 then abO
 let z:=λ(i:Nat)=>do return adj (<- Lean.Macro.addMacroScope (.mkSimple s!"z{i}"))
 let one := λ(i : Nat) (p : Lean.Syntax) => show Lean.MacroM (acw `ident × Option (acw `tactic)) from do
   let y <- z i
   if p[1].getNumArgs == 0 && p[0][0].getNumArgs == 1 && p[0][0][0].getKind == ``Lean.Parser.Tactic.rcasesPat.one then
     if p[0][0][0][0].getId == `rfl then return (y, some (<- `(tactic| first | subst $y:ident | cases $y:ident)))
     return (⟨p[0][0][0][0]⟩,none)
   if p[1].getNumArgs == 0 && p[0][0].getNumArgs == 1 && p[0][0][0].getKind == ``Lean.Parser.Tactic.rcasesPat.ignore then return (y,none)
   return (y, some (<- `(tactic| obtain $(⟨p[0]⟩):rcasesPatMed := $y:ident)))
 let clr <- if e.raw.isIdent then `(tactic| try clear $(⟨e.raw⟩):ident) else `(tactic| skip)
 let mut alts:Array (acw `tactic):=#[]
 for j in [0:14] do
   let ex:=j<7
   let k:=if ex then 8 - j else 15 - j
   if k + 1 <= N then
     let mut bs:Array (acw `ident):=#[]
     let mut ts:Array (acw `tactic):=#[]
     for i in [0:k] do
       let (b,t) <- one i ps[i]!
       bs:=bs.push b
       if let some t:=t then ts:=ts.push t
     if N == k + 1 then
       let (b,t) <- one k ps[k]!
       bs:=bs.push b
       if let some t:=t then ts:=ts.push t
     else
       let y <- z k
       bs:=bs.push y
       ts := ts.push (<- `(tactic| obtain ⟨$(ps.extract k N),*⟩ := $y:ident))
     let f:=adj (.mkSimple (if ex then s!"exE{k}" else s!"anE{k + 1}"))
     let t <- `(tactic| (refine $f $e ?_; $clr:tactic; intro $bs*; $[$ts:tactic];*))
     alts:=alts.push t
 `(tactic| first $[| $alts:tactic]* | rcases $e:term with ⟨$ps,*⟩)
local macro_rules | `(tactic| rintro $ps*) => do
 let tup:=λ(p:Lean.Syntax)=>p.getKind == ``Lean.Parser.Tactic.rintroPat.one && p[0].getKind == ``Lean.Parser.Tactic.rcasesPat.tuple
 unless ps.any (λp=>tup p && p.raw[0][1].getNumArgs ≥ 5) do abO
 let mut ts:Array (acw `tactic):=#[]
 for p in ps do
   if tup p then
     let y:=adj (<- Lean.Macro.addMacroScope `zi)
     let q:Lean.Syntax:=Lean.mkNode ``Lean.Parser.Tactic.rcasesPatMed #[Lean.mkNullNode #[p.raw[0]]]
     ts := ts.push (<- `(tactic| (intro $y:ident; obtain $(⟨q⟩):rcasesPatMed := $y:ident)))
   else ts := ts.push (<- `(tactic| rintro $p))
 `(tactic| ($[$ts:tactic];*))
local macro_rules
 | `(tactic| refine ⟨$xs,*⟩) => do
   let a:=xs.getElems
   if a.size<3 then abO
   let mut r:Array (acw `tactic):=#[]
   for j in [0:8] do
     let n:=if j == 7 then 0 else 8 - j
     if n + 1 <= a.size then
       let b:=a.extract n a.size
       let f:=adj (.mkSimple s!"exI{n}")
       let g:=adj (.mkSimple s!"anI{b.size}")
       if b.size ≥ 3 && b.size <= 8 then
         r := r.push (<- if n == 0 then `(tactic| refine $g $b*) else `(tactic| refine $f $(a.extract 0 n)* ($g $b*)))
       if n > 0 then
         let l <- if b.size == 1 then pure b[0]! else `(⟨$b,*⟩)
         r := r.push (<- `(tactic| refine $f $(a.extract 0 n)* $l))
   `(tactic| first $[| $r:tactic]* | refine (⟨$xs,*⟩))
 | `(tactic| exact ⟨$xs,*⟩) => do
   if xs.getElems.size<3 then abO
   `(tactic| (refine ⟨$xs,*⟩; done))
set_option hygiene true
namespace L2
theorem bR {α β : Type}{A B C : α->β->Prop}{R:Prop}(h:∃ a b,A a b/\B a b/\C a b)(k:∀ a b,A a b->B a b->C a b->R):R:=h.elim λ_ h=>h.elim λ_ h=>k _ _ h.1 h.2.1 h.2.2
theorem om {β : Type}{A B : β->Prop}{R:Prop}(h:∃ b,A b/\B b)(k:∀ b,A b->B b->R):R:=h.elim λ_ h=>k _ h.1 h.2
open PySem PySem.Spec PyProof.Rows
abbrev Key:=Sum Int Str
def qp:Key->Value->Bool
 | .inl k,v=>Value.isInt k v
 | .inr x,v=>Value.isStrOf x v
def RD (w:World):Key->Int
 | .inl k=>hashInt k
 | .inr x=>hashStr w x
theorem cE:∀ {k:Key} {v:Value},qp k v=true->(∃ i t,k=Sum.inl i/\v=abt i t)∨(∃ x t,k=Sum.inr x/\v=adF x t)
 | .inl i, v, h => by
   obtain⟨t,e⟩:=Value.isInt_shape (k:=i) (v:=v) h;exact .inl ⟨i,t,rfl,e⟩
 | .inr x, v, h => by
   obtain⟨t,e⟩:=Value.isStrOf_shape (x:=x) (v:=v) h;exact .inr ⟨x,t,rfl,e⟩
theorem Gv (i:Int)(t:Tok):qp (.inl i) (.int i t)=true:=by simp[qp,Value.isInt]
theorem Fd (x:Str)(t:Tok):qp (.inr x) (.str x t)=true:=by simp[qp,Value.isStrOf]
theorem Pl (a b:Int):decide ((Sum.inl a:Key)=Sum.inl b)=(a == b):=by
 by_cases e:a=b
 . subst e;simp
 . have h : ¬ (Sum.inl a : Key) = Sum.inl b := λq => e (ac0 q);rw[decide_eq_false h];exact(beq_eq_false_iff_ne.mpr e).symm
theorem OW (a b:Str):decide ((Sum.inr a:Key)=Sum.inr b)=decide (a=b):=by
 by_cases e:a=b
 . subst e;simp
 . have h : ¬ (Sum.inr a : Key) = Sum.inr b := λq => e (Sum.inr.inj q);rw[decide_eq_false h,decide_eq_false e]
theorem OP (a:Int)(b:Str):decide ((Sum.inl a:Key)=Sum.inr b)=false:=decide_eq_false (λq=>nomatch q)
theorem Of (a:Str)(b:Int):decide ((Sum.inr a:Key)=Sum.inl b)=false:=decide_eq_false (λq=>nomatch q)
def c4 (prog:Program)(w:World):PySem.KeyKind prog w Key where
 is:=qp
 hash:=RD w
 inj:=λv a b ha hb=>by
   rcases cE ha with ⟨i,t,rfl,rfl⟩ | ⟨x,t,rfl,rfl⟩
   . rcases cE hb with ⟨j,u,rfl,e⟩ | ⟨y,u,rfl,e⟩
     . injection e with e1 _;rw[e1]
     . exact nomatch e
   . rcases cE hb with ⟨j,u,rfl,e⟩ | ⟨y,u,rfl,e⟩
     . exact nomatch e
     . injection e with e1 _;rw[e1]
 byValue:=λk v h=>by
   rcases cE h with ⟨i,t,rfl,rfl⟩ | ⟨x,t,rfl,rfl⟩ <;> rfl
 pyHash:=λhv h=>by
   rcases cE hv with ⟨i,t,rfl,rfl⟩ | ⟨x,t,rfl,rfl⟩
   . exact wpAny_pyHash_int h
   . exact wpAny_pyHash_str h
 eqBool:=λhu hv h=>by
   rcases cE hu with ⟨i,t,rfl,rfl⟩ | ⟨x,t,rfl,rfl⟩
   . rcases cE hv with ⟨j,u,rfl,rfl⟩ | ⟨y,u,rfl,rfl⟩
     . rw[Pl] at h;exact wpAny_eqBool_int h
     . rw[OP] at h;exact SeqAt.EqAt.int_str i t y u _ _ _ _ h
   . rcases cE hv with ⟨j,u,rfl,rfl⟩ | ⟨y,u,rfl,rfl⟩
     . rw[Of] at h;exact SeqAt.EqAt.str_int x t j u _ _ _ _ h
     . rw[OW] at h;exact wpAny_eqBool_str h
 «strs»:=λk x t v h=>by
   rcases cE h with ⟨i,u,rfl,e⟩ | ⟨y,u,rfl,e⟩
   . exact nomatch e
   . injection e with e1 _;subst e1;cases v <;> rfl
theorem B2 (prog:Program)(w:World)(i:Int)(t:Tok):(c4 prog w).is (.inl i) (.int i t)=true:=Gv i t
theorem B9 (prog:Program)(w:World)(x:Str)(t:Tok):(c4 prog w).is (.inr x) (.str x t)=true:=Fd x t
open PySem PySem.Spec PyProof.Rows
inductive V where
 | aC | bl (b:Bool) | int (i:Int) | str (x:Str) | byt (b:Array UInt8) | zH (b:UInt64) | ref (a:Addr) | ty (n:String)
 deriving DecidableEq
def RelV:V->Value->Prop
 | .aC,u=>u=abq
 | .bl b,u=>u=adi b
 | .int i,u=>∃ t,u=abt i t
 | .str x,u=>∃ t,u=adF x t
 | .byt b,u=>∃ t,u=Value.bytes b t
 | .zH b,u=>∃ t,u=Value.float b t
 | .ref a,u=>u=Tg a
 | .ty n,u=>u=acZ n
abbrev aL:List V->List Value->Prop:=Paired RelV
variable {us:List Value}
theorem aL.length (r:aL xs us):xs.length=us.length:=adC r
theorem aL.get:∀ {xs:List V} {us:List Value} {i:Nat} {x:V},aL xs us->xs[i]? = some x->∃ u,us[i]? = some u/\RelV x u
 | _,_,_,_,.nil,e=>by simp at e
 | _,_,0,_,.cons r _,e=>by simp at e;subst e;exact⟨_,rfl,r⟩
 | _, _, i + 1, x, .cons _ t, e => by
   obtain⟨u,h1,h2⟩:=aL.get (i:=i) (x:=x) t (by simpa using e);exact⟨u,by simpa using h1,h2⟩
variable {u:Value}
theorem aL.set (r:RelV x u):∀ {xs:List V} {us:List Value} (i:Nat),aL xs us->aL (xs.set i x) (us.set i u)
 | _,_,_,.nil=>.nil
 | _,_,0,.cons _ t=>.cons r t
 | _,_,i+1,.cons q t=>.cons q (aL.set r i t)
theorem aL.append:∀ {xs ys:List V} {us ws:List Value},aL xs us->aL ys ws->aL (xs++ys) (us++ws)
 | _,_,_,_,.nil,s=>s
 | _,_,_,_,.cons r t,s=>.cons r (aL.append t s)
theorem aL.take:∀ {xs:List V} {us:List Value} (n:Nat),aL xs us->aL (xs.take n) (us.take n)
 | _,_,0,_=>.nil
 | _,_,_+1,.nil=>.nil
 | _,_,n+1,.cons r t=>.cons r (aL.take n t)
theorem aL.drop:∀ {xs:List V} {us:List Value} (n:Nat),aL xs us->aL (xs.drop n) (us.drop n)
 | _,_,0,r=>r
 | _,_,_+1,.nil=>.nil
 | _,_,n+1,.cons _ t=>aL.drop n t
def fh:Option V->Option Value->Prop
 | some v,some u=>RelV v u
 | none,none=>True
 | _,_=>False
def KV {κ : Type}:List (κ×V)->List (κ×Value)->Prop:=Paired λ(p : κ×V) (q : κ×Value)=>p.1=q.1/\RelV p.2 q.2
def kV:Key->V
 | .inl i=>.int i
 | .inr x=>.str x
inductive HO where
 | lst (xs:List V)
 | tup (xs:List V)
 | dK (kvs:List (Key×V)) | dT (kvs:List (List Key×V))
 | set (S:Int->Bool) (n:Nat)
 | ins (C dx:Addr) (fs:List (Str×V))
 | own (x:Addr)
 | xd (fs:List (Str×V))
 | met (f x:Addr)
 | N3 (lo hi:Int)
 | ky (o:Obj) (u:HO)
 | zj (ps:Array Value)
 | ext (φ : Heap->Prop)
abbrev Hp:=Addr->Option HO
def upd (H:Hp)(a:Addr)(o:HO):Hp:=λb=>if b=a then some o else H b
variable {o:HO} {H:Hp}
theorem aa:upd H a o a=some o:=by unfold upd;rw[if_pos rfl]
variable {b:Addr}
theorem ak (h:b≠a):upd H a o b=H b:=by unfold upd;rw[if_neg h]
theorem KW {a:Addr}{u:HO}:upd (upd H a o) a u=upd H a u:=by
 funext b;unfold upd;split <;> rfl
theorem J3 {a:Addr}{u:HO}(h:H a=some o)(h':H b=some u)(d:o≠u):a≠b:=by
 intro e;subst e;rw[h] at h';exact d (aax h')
theorem ag (h:H a=some o)(h':H b=none):a≠b:=by
 intro e;subst e;rw[h] at h';cases h'
section
variable (P:Program) (w:World)
def b8 (H:Hp)(h:Heap)(a:Addr):HO->Prop
 | .lst xs=>xs.length<=aal/\∃ (its:List Value) (n:Nat),aL xs its/\h.get? a=some { cls:=.type "list",data:=.seq its.toArray n }
 | .tup xs=>xs.length<=aal/\∃ its:List Value,aL xs its/\IsTup h a its.toArray
 | .dK kvs=>kvs.length<=aal/\(a == aci)=false/\∃ vs,KV kvs vs/\h.DictOf (c4 P w) a vs
 | .dT kvs=>kvs.length<=aal/\(a == aci)=false/\∃ xs:List (List Key×Addr×Value),
     Paired (λ(p:List Key×V) (q:List Key×Addr×Value)=>p.1=q.1/\H q.2.1=some (.tup (p.1.map kV))/\RelV p.2 q.2.2) kvs xs /\
     ∃ o es ep,h.get? a=some o/\o.ExactDict/\o.data=.dict es ep/\es.toList=xs.map (entryOfKey (tupleKind (c4 P w)))/\(xs.map (·.1)).Nodup
 | .set S n=>h.SetOf (intKind P w) a S n
 | .ins C dx fs=>H dx=some (.own a)/\fs.length<=1000/\dx≠a/\h.get? a=some (ac8 C dx) /\
     ∃ mA,h.Ns1 dx mA/\(∀ f,fh (fs.lookup f) (mA f))/\PySem.Within mA (fs.map (·.1))
 | .own _=>∃ o,h.get? a=some o
 | .xd fs=>∃ mA,h.Ns1 a mA/\∀ f,fh (fs.lookup f) (mA f)
 | .N3 lo hi=>∃ t u v,h.get? a=some { cls:=.type "range",data:=.fields #[.int lo t,.int hi u,.int 1 v] }
 | .ky o u=>h.get? a=some o/\b8 H h a u
 | .zj ps=>h.get? a=some { cls:=.none,data:=.fields ps }
 | .met f x=>h.get? a=some (W.methodObj (.ref f) (.ref x))
 | .ext φ=>φ h/\(∃ o,h.get? a=some o)/\∀ h1 h2:Heap,φ h1->(∀ o,h1.get? a=some o->h2.get? a=some o)->φ h2
def dh (H:Hp)(h:Heap):Prop:=∀ a o,H a=some o->b8 P w H h a o
end
section
variable {P:Program} {w:World} {H H':Hp} {h h':Heap} {a:Addr} {o:HO}
theorem b8.lt (x:b8 P w H h a o):a<h.objs.size:=by
 cases o with
 | lst xs=>obtain⟨_,_,_,_,e⟩:=x;exact aam e
 | tup xs=>obtain⟨_,_,_,p⟩:=x;exact p.lt
 | dK kvs=>obtain⟨_,_,_,_,o,_,_,e,_⟩:=x;exact aam e
 | dT kvs=>obtain⟨_,_,_,_,o,_,_,e,_⟩:=x;exact aam e
 | set S n=>obtain⟨o,_,_,_,e,_⟩:=x;exact aam e
 | ins C dx fs=>obtain⟨_,_,_,e,_⟩:=x;exact aam e
 | own y=>obtain⟨_,e⟩:=x;exact aam e
 | xd fs=>obtain⟨_,⟨_,_,_,e,_⟩,_⟩:=x;exact aam e
 | N3 lo hi=>obtain⟨_,_,_,e⟩:=x;exact aam e
 | ky ob u=>obtain⟨e,_⟩:=x;exact aam e
 | zj ps=>exact aam (show h.get? a=some _ from x)
 | met f y=>exact aam (show h.get? a=some _ from x)
 | ext φ=>obtain⟨_,⟨_,e⟩,_⟩:=x;exact aam e
theorem Paired.Iz {α β : Type}{F G : α->β->Prop}:∀ {l₁ : List α} {l₂ : List β},Paired F l₁ l₂->(∀ a b,F a b->G a b)->Paired G l₁ l₂
 | _,_,.nil,_=>.nil
 | _,_,.cons r t,f=>.cons (f _ _ r) (Paired.Iz t f)
theorem b8.iV (x:b8 P w H h a o)(k:∀ b u,(b=a∨H b=some (.own a))->h.get? b=some u->h'.get? b=some u)
   (ho:∀ b,H b=some (.own a)->H' b=some (.own a)) (ht:∀ b xs,H b=some (.tup xs)->H' b=some (.tup xs)):b8 P w H' h' a o:=by
 induction o with
 | lst xs=>obtain⟨z,its,n,r,e⟩:=x;exact⟨z,its,n,r,k _ _ (.inl rfl) e⟩
 | tup xs=>obtain⟨z,its,r,ob,e,c⟩:=x;exact⟨z,its,r,ob,k _ _ (.inl rfl) e,c⟩
 | dK kvs=>obtain⟨z,y,vs,r,ob,es,ep,e,c⟩:=x;exact⟨z,y,vs,r,ob,es,ep,k _ _ (.inl rfl) e,c⟩
 | dT kvs =>
   obtain⟨z,y,xs,r,ob,es,ep,e,c⟩:=x;exact⟨z,y,xs,Paired.Iz r λp q z=>⟨z.1,ht _ _ z.2.1,z.2.2⟩,ob,es,ep,k _ _ (.inl rfl) e,c⟩
 | set S n=>obtain⟨ob,es,ep,t,e,c⟩:=x;exact⟨ob,es,ep,t,k _ _ (.inl rfl) e,c⟩
 | ins C dx fs =>
   obtain⟨d,z,ne,e,mA,⟨od,es,ep,e2,c⟩,r⟩:=x;exact⟨ho _ d,z,ne,k _ _ (.inl rfl) e,mA,⟨od,es,ep,k _ _ (.inr d) e2,c⟩,r⟩
 | own y=>obtain⟨ob,e⟩:=x;exact⟨ob,k _ _ (.inl rfl) e⟩
 | xd fs=>obtain⟨mA,⟨od,es,ep,e,c⟩,r⟩:=x;exact⟨mA,⟨od,es,ep,k _ _ (.inl rfl) e,c⟩,r⟩
 | N3 lo hi=>obtain⟨t,u,v,e⟩:=x;exact⟨t,u,v,k _ _ (.inl rfl) e⟩
 | ky ob u ih=>obtain⟨e,q⟩:=x;exact⟨k _ _ (.inl rfl) e,ih q⟩
 | zj ps =>
   have e:h.get? a=some { cls:=.none,data:=.fields ps }:=x;show h'.get? a=some { cls:=.none,data:=.fields ps };exact k a _ (.inl rfl) e
 | met f y =>
   have e:h.get? a=some (W.methodObj (.ref f) (.ref y)):=x;show h'.get? a=some (W.methodObj (.ref f) (.ref y));exact k a _ (.inl rfl) e
 | ext φ=>obtain⟨p,⟨o,e⟩,st⟩:=x;exact⟨st _ _ p λo q=>k _ _ (.inl rfl) q,⟨o,k _ _ (.inl rfl) e⟩,st⟩
theorem dh.lt (x:dh P w H h)(e:H a=some o):a<h.objs.size:=(x a o e).lt
theorem dh.fresh (x:dh P w H h)(e:h.objs.size<=a):H a=none:=by
 cases q:H a with
 | none=>rfl
 | some u=>exact absurd (aaz (x.lt q) e) (abB _)
theorem dh.kept (x:dh P w H h)(k:∀ b u,h.get? b=some u->h'.get? b=some u):dh P w H h':=λa o e =>
 (x a o e).iV (λb u _ q=>k b u q) (λ_ q=>q) λ_ _ q=>q
theorem dh.laid (x:dh P w H h)(k:∀ b u,h.get? b=some u->h'.get? b=some u)(hp:h.objs.size<=a)(new:b8 P w (upd H a o) h' a o):dh P w (upd H a o) h':=λb u e=>by
 have hn:=x.fresh hp;by_cases hb:b=a
 . subst hb;rw[aa] at e;cases e;exact new
 . rw[ak hb] at e;exact(x b u e).iV (λc v _ q=>k c v q) (λc q=>by rw[ak (ag q hn)];exact q) λc xs q=>by rw[ak (ag q hn)];exact q
end
def Rd (H:Hp)(a:Addr)(u:HO):Prop:=H a=some u∨∃ o,H a=some (.ky o u)
variable {h:Heap}
theorem Rd.ok {P:Program}{w:World}{a:Addr}{u:HO}(r:Rd H a u)(x:dh P w H h):b8 P w H h a u:=by
 rcases r with r | ⟨o,r⟩
 . exact x a u r
 . obtain⟨_, q⟩ := x a _ r;exact q
def Gd:Option HO->Prop
 | some (.lst _)=>True
 | some (.dK _)=>True
 | some (.dT _)=>True
 | some (.set _ _)=>True
 | some (.ins _ _ _)=>True
 | some (.ext _)=>True
 | _=>False
section
variable {P:Program} {w:World} {H:Hp} {h h':Heap} {x e:Addr} {o':HO}
theorem dh.write (ok:dh P w H h)(mu:Gd (H x))(he:e=x∨H e=some (.own x))(k:∀ b u,b≠e->h.get? b=some u->h'.get? b=some u)(heo:∃ u,h'.get? e=some u)
   (new:b8 P w (upd H x o') h' x o'):dh P w (upd H x o') h':=λb u q=>by
 have nown:∀ c y,H c=some (.own y)->c≠x:=λc y r z=>by subst z;rw[r] at mu;exact mu
 have ntup:∀ c xs,H c=some (.tup xs)->c≠x:=λc xs r z=>by subst z;rw[r] at mu;exact mu
 by_cases hb:b=x
 . subst hb;rw[aa] at q;cases q;exact new
 . rw[ak hb] at q;by_cases W7:b=e
   . have q' : H b = some (.own x) := by
       rcases he with z | z
       . exact absurd (W7.trans z) hb
       . rw[W7];exact z
     rw[q] at q';cases q';obtain⟨v,hv⟩:=heo;exact⟨v,by rw[W7];exact hv⟩
   . refine (ok b u q).iV (λc v hc r => k c v ?_ r) (λc r => by rw [ak (nown c b r)]; exact r) λc xs r => by rw [ak (ntup c xs r)]; exact r
     rcases hc with rfl | hc
     . exact W7
     . rintro rfl;rcases he with z | z
       . exact nown c b hc z
       . rw[hc] at z;cases z;exact hb rfl
end
structure Un (fs ex:List Addr)(H H':Hp)(h h':Heap):Prop where
 keep:∀ b o,h.get? b=some o->H b=none->b ∉ fs->b ∉ ex->h'.get? b=some o
 slot:∀ b o,h.get? b=some o->H b=none->b∈fs->b ∉ ex->∃ sl,h'.get? b=some { o with slots:=sl }
 free:∀ b o,h.get? b=some o->H b=none->b ∉ ex->H' b=none
 there:∀ b o,h.get? b=some o->b ∉ ex->∃ o',h'.get? b=some o'
 jC:∀ b xs,H b=some (.tup xs)->H' b=some (.tup xs)
 iO:∀ b o u,H b=some (.ky o u)->H' b=some (.ky o u)
 jV:∀ b ps,H b=some (.zj ps)->∃ Wi,H' b=some (.zj (ps++Wi))
section
variable {fs U_ ex ex':List Addr} {H H1 H2:Hp} {h h1 h2 h':Heap} {a x e:Addr} {o:HO}
theorem Un.any (u:Un fs ex H H1 h h1)(q:h.get? b=some ob)(n:H b=none)(hx:b ∉ ex):∃ sl,h1.get? b=some { ob with slots:=sl }:=by
 by_cases hb:b∈fs
 . exact u.slot b ob q n hb hx
 . exact⟨ob.slots,u.keep b ob q n hb hx⟩
theorem Un.kept (k:∀ b u,h.get? b=some u->h'.get? b=some u):Un fs ex H H h h' :=
 ⟨λb ob q _ _ _=>k b ob q,λb ob q _ _ _=>⟨ob.slots,k b ob q⟩,λ_ _ _ n _=>n,λb ob q _=>⟨ob,k b ob q⟩,λ_ _ q=>q,λ_ _ _ q=>q,λ_ ps q=>⟨#[],by rw[q];simp⟩⟩
theorem Un.refl:Un fs ex H H h h:=Un.kept λ_ _ q=>q
theorem Un.laid (k:∀ b u,h.get? b=some u->h'.get? b=some u)(hp:h.objs.size<=a)(hn:H a=none):Un fs ex H (upd H a o) h h' where
 keep:=λb u q _ _ _=>k b u q
 slot:=λb u q _ _ _=>⟨u.slots,k b u q⟩
 free:=λb u q n _=>by rw[ak (aaw (aaz (aam q) hp))];exact n
 there:=λb u q _=>⟨u,k b u q⟩
 jC:=λb xs q=>by rw[ak (ag q hn)];exact q
 iO:=λb u xs q=>by rw[ak (ag q hn)];exact q
 jV:=λb ps q=>⟨#[],by rw[ak (ag q hn),q];simp⟩
theorem Un.write (mu:Gd (H x))(he:e=x∨H e=some (.own x))(k:∀ b u,b≠e->h.get? b=some u->h'.get? b=some u)(heo:∃ u,h'.get? e=some u):Un fs ex H (upd H x o) h h':=by
 have hx:∀ b,H b=none->b≠x:=λb n z=>by subst z;rw[n] at mu;exact mu
 have hb:∀ b,H b=none->b≠e:=λb n z=>by
   subst z;rcases he with r | r
   . exact hx b n r
   . rw[n] at r;cases r
 have hm:∀ b u,H b=some u->¬ Gd (some u)->b≠x:=λb u q nm z=>by subst z;rw[q] at mu;exact nm mu
 refine ⟨λb u q n _ _ => k b u (hb b n) q, λb u q n _ _ => ⟨u.slots, k b u (hb b n) q⟩, λb u q n _ => by rw [ak (hx b n)]; exact n, λb u q _ => ?_,
   λb xs q=>by rw[ak (hm b _ q λz=>z)];exact q,λb u xs q=>by rw[ak (hm b _ q λz=>z)];exact q,λb ps q=>⟨#[],by rw[ak (hm b _ q λz=>z),q];simp⟩⟩
 by_cases W7:b=e
 . subst W7;exact heo
 . exact⟨u,k b u W7 q⟩
end
def J2 (h:Heap)(H:Hp):List Addr:=(ab_ h.objs.size).filter λa=>(H a).isSome
def nv (h:Heap)(H:Hp):Heap:=acm h (J2 h H)
theorem Gg (h:Heap)(H:Hp):(nv h H).objs.size=h.objs.size:=W.hideAll_size _ _
theorem Iy {o:Obj}(e:h.get? b=some o)(n:H b=none):(nv h H).get? b=some o :=
 W.hideAll_get _ e λhm=>by
   have q:(H b).isSome=true:=(List.mem_filter.mp hm).2;rw[n] at q;simp at q
theorem Md {o:Obj}(e:(nv h H).get? b=some o):h.get? b=some o/\H b=none:=by
 have e':h.get? b=some o:=W.of_hideAll (J2 h H) e;refine⟨e',?_⟩;cases q:H b with
 | none=>rfl
 | some x =>
   have hm:b∈J2 h H:=List.mem_filter.mpr ⟨List.mem_range.mpr (aam e'),by simp[q]⟩;have z:(nv h H).get? b=none:=W.hideAll_none (J2 h H) hm;rw[z] at e;cases e
structure Mod (K:W.Frag)(mg:Str->Option Value)(base:Heap):Prop where
 uL:K.In base
 glob:base.Ns aa4 mg
 blt:∃ mb,base.Ns builtinsNs mb/\∀ x:Str,x ≠ "__name__"->mb x=aaW x
 nolimit:base.NoLimit
structure Cx where
 prog:Program
 w:World
 K:W.Frag
 mg:Str->Option Value
 base:Heap
 A:Around
 N:List Str
 s₀ : Shared
 H₀ : Hp
 env:Env
 outer:List Env
 stack:List Env
 ex:List Addr
 fn:Str->Bool
 calm:Bool
 pn:List (Addr×Obj)
 xe:Value->Shared->Prop
def cS (l:List Env):List Addr:=l.filterMap (·.frame)
abbrev Cx.fs (X:Cx):List Addr:=cS X.outer
def Ny (sc:Scope)(x:Str):Prop:=sc.names.lookup x=some .local∨sc.names.lookup x=some .cell∨sc.names.lookup x=some .free
def Loc (sc:Scope)(x:Str):Prop:=sc.names.lookup x=some .local∨sc.names.lookup x=some .cell
def Look (env:Env)(h:Heap)(m:Str->Option Value)(x:Str)(u:Value):Prop :=
 (env.kindOf x=some .local/\m x=some u)∨((env.kindOf x=some .cell∨env.kindOf x=some .free)/\∃ c,env.cells.lookup x=some c/\h.IsCell c (some u))
structure Cx.Ok (X:Cx):Prop where
 mod:Mod X.K X.mg X.base
 kind:X.env.scope.kind=.function
 glob:X.env.globals=aa4
 blt:X.env.builtins=builtinsNs
 above:X.s₀.heap.objs.size<=X.env.locals
 inj:∀ x y c,X.env.cells.lookup x=some c->X.env.cells.lookup y=some c->x=y
 has:∀ x,(X.env.kindOf x=some .cell∨X.env.kindOf x=some .free)->∃ c,X.env.cells.lookup x=some c
 Ax:∀ x c,X.fn x=true->X.env.cells.lookup x=some c->X.s₀.heap.objs.size<=c
 hd:X.calm=true->X.A.handled=none
 frames:X.A.frames=some X.stack
 Dq:X.stack=X.outer∨(X.stack=X.env::X.outer/\X.env.frame=some X.env.locals)
 JI:∀ b∈X.ex,b≠X.env.locals/\∀ x c,X.env.cells.lookup x=some c->c≠b
 bs:∀ b o,X.base.get? b=some o->X.s₀.heap.get? b=some o/\X.H₀ b=none
 rH:X.base.objs.size<=X.s₀.heap.objs.size
 sS:∀ b o,X.base.get? b=some o->b ∉ X.ex
 wZ:∀ b∈X.ex,b ∉ X.fs
 gv:X.s₀.heap.FunFrames X.base X.outer
 uR:∀ b∈X.fs,X.H₀ b=none
structure Inv (X:Cx)(gV:List (Addr×Obj))(Z : List (Option V))(H:Hp)(s:Shared):Prop where
 ok:X.Ok
 os:s.os=X.s₀.os
 bare:AllBare s.gens
 base:Un X.fs X.ex X.H₀ H X.s₀.heap s.heap
 loc:∃ m,s.heap.Ns X.env.locals m/\∀ (i:Nat) (x:Str) (v:V),X.N[i]? = some x->Z[i]? = some (some v)->Ny X.env.scope x->∃ u,RelV v u/\Look X.env s.heap m x u
 cell:∀ x c,X.env.cells.lookup x=some c->∃ v,s.heap.IsCell c v
 free:H X.env.locals=none
 fN:∀ x c,X.env.cells.lookup x=some c->H c=none
 pin:∀ p∈X.pn++gV,s.heap.get? p.1=some p.2/\H p.1=none/\p.1≠X.env.locals/\p.1 ∉ X.fs/\∀ v,p.2.data≠.cell v
 aA:dh X.prog X.w H s.heap
 len : Z.length=X.N.length
section
variable {X:Cx} {gV:List (Addr×Obj)} {Z : List (Option V)} {H H':Hp} {s:Shared} {h':Heap}
theorem Cx.Ok.Ry (ok:X.Ok){o:Obj}(e:X.base.get? b=some o):b ∉ X.fs:=λhb=>by
 have:=(ok.gv.mem hb).1
 rw[e] at this;cases this
theorem Inv.bs (I:Inv X gV Z H s):∀ b o,X.base.get? b=some o->s.heap.get? b=some o/\H b=none:=λb o e =>
 ⟨I.base.keep b o (I.ok.bs b o e).1 (I.ok.bs b o e).2 (I.ok.Ry e) (I.ok.sS b o e),I.base.free b o (I.ok.bs b o e).1 (I.ok.bs b o e).2 (I.ok.sS b o e)⟩
theorem Inv.bk (I:Inv X gV Z H s):∀ b o,X.base.get? b=some o->s.heap.get? b=some o:=λb o e=>(I.bs b o e).1
theorem Inv.mod (I:Inv X gV Z H s):Mod X.K X.mg X.base:=I.ok.mod
theorem Inv.df (I:Inv X gV Z H s):X.K.In s.heap:=I.ok.mod.uL.keeps I.bk
theorem Inv.lt (I:Inv X gV Z H s):X.env.locals<s.heap.objs.size:=let ⟨_,hn,_⟩:=I.loc;hn.lt
theorem Inv.sz (I:Inv X gV Z H s):X.s₀.heap.objs.size<=s.heap.objs.size:=aaK I.ok.above (adq I.lt)
theorem Inv.MX (I:Inv X gV Z H s)(h:s.heap.objs.size<=a):a ∉ X.fs:=λhb=>by
 obtain⟨_,o,ho,_⟩:=I.ok.gv.mem hb;exact absurd (aaz (aam ho) (aaK I.sz h)) (abB _)
theorem Inv.zI (I:Inv X gV Z H s):∀ x c,X.env.cells.lookup x=some c->c≠X.env.locals:=λx c e z=>by
 obtain⟨v,o,ho,hd⟩:=I.cell x c e;obtain⟨m,⟨o',es,ep,VM,W4,_⟩,_⟩:=I.loc;rw[z,VM] at ho;cases ho;rw[W4] at hd;cases hd
theorem Inv.gv (I:Inv X gV Z H s):s.heap.FunFrames X.base X.outer:=by
 have all:∀ (l:List Env),(∀ b∈cS l,b∈X.fs)->X.s₀.heap.FunFrames X.base l->s.heap.FunFrames X.base l:=by
   intro l
   induction l with
   | nil=>intro _ _;trivial
   | cons env r ih =>
     intro hs hl;obtain⟨hk,⟨L,o,hf,hn,ho,hd⟩,hr⟩:=hl;have hL:L∈X.fs:=hs L (by unfold cS;rw[abH,hf];exact acd);obtain⟨sl,e⟩:=I.base.slot L o ho (I.ok.uR L hL) hL λz=>I.ok.wZ L z hL;exact⟨hk,⟨L,_,hf,hn,e,hd⟩,ih (λb hb=>hs b (by unfold cS;rw[abH,hf];exact abb _ hb)) hr⟩
 exact all X.outer (λ_ hb=>hb) I.ok.gv
theorem Inv.stack (I:Inv X gV Z H s):s.heap.FunFrames X.base X.stack:=by
 rcases I.ok.Dq with e | ⟨e,hf⟩
 . rw[e];exact I.gv
 . rw[e];obtain⟨m,hn,_⟩:=I.loc;refine .cons (by rw[I.ok.kind];decide) hf hn ?_ I.gv;exact adv (aaK I.ok.rH I.ok.above)
theorem Inv.oH (I:Inv X gV Z H s):∀ b∈cS X.stack,b∈X.env.locals::X.fs:=λb hb=>by
 rcases I.ok.Dq with e | ⟨e,hf⟩
 . rw[e] at hb;exact abb _ hb
 . rw[e] at hb;unfold cS at hb;rw[abH,hf] at hb;exact hb
theorem Inv.mv (I:Inv X gV Z H s):∀ b∈cS X.stack,H b=none:=λb hb=>by
 rcases List.mem_cons.mp (I.oH b hb) with e | hb
 . rw[e];exact I.free
 . obtain⟨_, o, ho, _⟩ := I.ok.gv.mem hb;exact I.base.free b o ho (I.ok.uR b hb) λz=>I.ok.wZ b z hb
theorem Inv.step {g':Array GenState}{t':Nat}{d':Drawn}{ch:List Addr}(I:Inv X gV Z H s)
   (W5:∀ b∈ch,(b∈X.ex∨X.s₀.heap.objs.size<=b)/\b≠X.env.locals/\(∀ x c,X.env.cells.lookup x=some c->c≠b)/\∀ p∈X.pn++gV,p.1≠b)
   (keep:∀ b o,b≠X.env.locals->b ∉ X.fs->b ∉ ch->s.heap.get? b=some o->H b=none->h'.get? b=some o)
   (slot:∀ b o,b≠X.env.locals->b∈X.fs->b ∉ ch->s.heap.get? b=some o->H b=none->∃ sl,h'.get? b=some { o with slots:=sl }) (free:∀ b o,b ∉ ch->s.heap.get? b=some o->H b=none->H' b=none)
   (there:∀ b o,b ∉ ch->s.heap.get? b=some o->∃ o',h'.get? b=some o')
   (jC:∀ b xs,H b=some (.tup xs)->H' b=some (.tup xs)) (iO:∀ b o u,H b=some (.ky o u)->H' b=some (.ky o u)) (jV:∀ b ps,H b=some (.zj ps)->∃ Wi,H' b=some (.zj (ps++Wi)))
   (ns:∀ m,s.heap.Ns X.env.locals m->h'.Ns X.env.locals m) (aA:dh X.prog X.w H' h') (hg:AllBare g') :
   Inv X gV Z H' { s with heap:=h',gens:=g',drawn:=d',toks:=t' }:=by
 have neL:∀ b o,X.s₀.heap.get? b=some o->b≠X.env.locals:=λb o e=>aaw (aaz (aam e) I.ok.above);have neC:∀ b o,X.s₀.heap.get? b=some o->b ∉ X.ex->b ∉ ch:=λb o e hx hb=>by
   rcases(W5 b hb).1 with z | z
   . exact hx z
   . exact absurd (aaz (aam e) z) (abB _)
 have cellK:∀ x c,X.env.cells.lookup x=some c->∀ v,s.heap.IsCell c v->h'.IsCell c v:=λx c e v zq=>om zq λo ho hd=>by
   have nch:c ∉ ch:=λz=>(W5 c z).2.2.1 x c e rfl;by_cases hc:c∈X.fs
   . obtain⟨sl, q⟩ := slot c o (I.zI x c e) hc nch ho (I.fN x c e);exact⟨_,q,hd⟩
   . exact⟨o,keep c o (I.zI x c e) hc nch ho (I.fN x c e),hd⟩
 refine⟨I.ok,I.os,hg,⟨λb o e n hb hx=>?_,λb o e n hb hx=>?_,λb o e n hx=>?_,λb o e hx=>?_,λb xs e=>jC b xs (I.base.jC b xs e),λb o xs e=>iO b o xs (I.base.iO b o xs e),λb ps e=>?_⟩,?_,λx c e=>?_,?_,λx c e=>?_,λp hp=>?_,aA,I.len⟩
 . exact keep b o (neL b o e) hb (neC b o e hx) (I.base.keep b o e n hb hx) (I.base.free b o e n hx)
 . obtain⟨sl, e1⟩ := I.base.slot b o e n hb hx;obtain⟨sl',e2⟩:=slot b _ (neL b o e) hb (neC b o e hx) e1 (I.base.free b o e n hx);exact⟨sl',e2⟩
 . obtain⟨o', e1⟩ := I.base.there b o e hx;exact free b o' (neC b o e hx) e1 (I.base.free b o e n hx)
 . obtain⟨o', e1⟩ := I.base.there b o e hx;exact there b o' (neC b o e hx) e1
 . obtain⟨m1, e1⟩ := I.base.jV b ps e;obtain⟨m2,e2⟩:=jV b _ e1;exact⟨m1++m2,by rw[e2,Array.append_assoc]⟩
 . obtain ⟨m, hn, hl⟩ := I.loc;refine ⟨m,ns m hn,λi x v e1 e2 e3=>?_⟩;obtain ⟨u,r,l⟩:=hl i x v e1 e2 e3;refine ⟨u,r,?_⟩;rcases l with l | ⟨k,c,e,z⟩
   . exact .inl l
   . exact .inr ⟨k,c,e,cellK x c e _ z⟩
 . obtain⟨v, z⟩ := I.cell x c e;exact⟨v,cellK x c e v z⟩
 . obtain⟨m, ⟨o, _, _, ho, _⟩, _⟩ := I.loc;exact free _ o (λz=>(W5 _ z).2.1 rfl) ho I.free
 . obtain⟨v, o, ho, hd⟩ := I.cell x c e;exact free c o (λz=>(W5 c z).2.2.1 x c e rfl) ho (I.fN x c e)
 . obtain⟨e, n, ne, nf, d⟩ := I.pin p hp;have nch:p.1 ∉ ch:=λz=>(W5 p.1 z).2.2.2 p hp rfl;exact⟨keep p.1 p.2 ne nf nch e n,free p.1 p.2 nch e n,ne,nf,d⟩
variable {t':Nat}
theorem Inv.un (I:Inv X gV Z H s)(u:Un X.fs [] H H' s.heap h')(aA:dh X.prog X.w H' h'):Inv X gV Z H' { s with heap:=h',toks:=t' }:=by
 obtain⟨m,⟨o,es,ep,ho,r⟩,_⟩:=id I.loc;obtain⟨sl,hL⟩:=u.any ho I.free (by simp);exact I.step (g':=s.gens) (d':=s.drawn) (ch:=[]) (λ_ z=>nomatch z) (λb o _ hb _ e n=>u.keep b o e n hb (by simp)) (λb o _ hb _ e n=>u.slot b o e n hb (by simp)) (λb o _ e n=>u.free b o e n (by simp)) (λb o _ e=>u.there b o e (by simp)) u.jC u.iO u.jV (λm' hm=>by
   obtain⟨o',es',ep',VM,r'⟩:=hm;rw[ho] at VM;cases VM;exact⟨_,es',ep',hL,r'⟩) aA I.bare
theorem Inv.call {t':Nat}(I:Inv X gV Z H s)(u:Un (cS X.stack) ch H H' s.heap h')(aA:dh X.prog X.w H' h')(hg:AllBare g')
   (W5:∀ b∈ch,(b∈X.ex∨X.s₀.heap.objs.size<=b)/\b≠X.env.locals/\(∀ x c,X.env.cells.lookup x=some c->c≠b)/\∀ p∈X.pn++gV,p.1≠b) :
   Inv X gV Z H' { s with heap:=h',gens:=g',drawn:=d',toks:=t' }:=by
 obtain⟨m,⟨o,es,ep,ho,r⟩,_⟩:=id I.loc;obtain⟨sl,hL⟩:=u.any ho I.free λz=>(W5 _ z).2.1 rfl;exact I.step (ch:=ch) W5 (λb o hL hb hc e n=>u.keep b o e n (λz=>(List.mem_cons.mp (I.oH b z)).elim hL hb) hc) (λb o _ _ hc e n=>u.any e n hc) (λb o hc e n=>u.free b o e n hc) (λb o hc e=>u.there b o e hc) u.jC u.iO u.jV (λm' hm=>by
   obtain⟨o',es',ep',VM,r'⟩:=hm;rw[ho] at VM;cases VM;exact⟨_,es',ep',hL,r'⟩) aA hg
theorem Inv.turned {t':Nat}(I:Inv X gV Z H s)(k:∀ b o,b≠it->s.heap.get? b=some o->h'.get? b=some o)(hn:H it=none)(hL:it≠X.env.locals)
   (h1:it∈X.ex∨X.s₀.heap.objs.size<=it) (h2:∀ x c,X.env.cells.lookup x=some c->c≠it) (h3:∀ p∈X.pn++gV,p.1≠it):Inv X gV Z H { s with heap:=h',toks:=t' }:=by
 have nit:∀ b u,H b=some u->b≠it:=λb u e z=>by rw[z,hn] at e;cases e
 refine I.step (g' := s.gens) (d' := s.drawn) (ch := [it]) (λb hb => ?_) (λb o _ _ hc e _ => k b o (λz => hc (by simp [z])) e) (λb o _ _ hc e _ => ⟨o.slots, k b o (λz => hc (by simp [z])) e⟩) (λ_ _ _ _ n => n)
   (λb o hc e=>⟨o,k b o (λz=>hc (by simp[z])) e⟩) (λ_ _ e=>e) (λ_ _ _ e=>e) (λb ps e=>⟨#[],by rw[e];simp⟩) (λm hm=>?_) (λb u e=>?_) I.bare
 . have e : b = it := by simpa using hb
   subst e;exact⟨h1,hL,h2,h3⟩
 . obtain⟨o, es, ep, ho, r⟩ := hm;exact⟨o,es,ep,k _ o (Ne.symm hL) ho,r⟩
 . refine (I.aA b u e).iV (λc v hc q=>k c v ?_ q) (λ_ q=>q) λ_ _ q=>q;rcases hc with z | z
   . rw[z];exact nit b u e
   . exact nit c _ z
theorem Inv.tok (I:Inv X gV Z H s)(t:Nat):Inv X gV Z H { s with toks:=t }:=I.un (h':=s.heap) (t':=t) Un.refl I.aA
theorem Inv.kept (I:Inv X gV Z H s)(k:∀ b u,s.heap.get? b=some u->h'.get? b=some u):Inv X gV Z H { s with heap:=h',toks:=t' }:=I.un (Un.kept k) (I.aA.kept k)
theorem Inv.laid {t':Nat}(I:Inv X gV Z H s)(k:∀ b u,s.heap.get? b=some u->h'.get? b=some u)(hp:s.heap.objs.size<=a)(new:b8 X.prog X.w (upd H a o) h' a o) :
   Inv X gV Z (upd H a o) { s with heap:=h',toks:=t' }:=I.un (Un.laid k hp (I.aA.fresh hp)) (I.aA.laid k hp new)
theorem Inv.write {o:HO}{t':Nat}(I:Inv X gV Z H s)(mu:Gd (H x))(he:e=x∨H e=some (.own x))(k:∀ b u,b≠e->s.heap.get? b=some u->h'.get? b=some u)(heo:∃ u,h'.get? e=some u)
   (new:b8 X.prog X.w (upd H x o) h' x o):Inv X gV Z (upd H x o) { s with heap:=h',toks:=t' }:=I.un (Un.write mu he k heo) (I.aA.write mu he k heo new)
theorem Inv.qF (I:Inv X gV Z H s)(h:∀ p∈pins',s.heap.get? p.1=some p.2/\H p.1=none/\p.1≠X.env.locals/\p.1 ∉ X.fs/\∀ v,p.2.data≠.cell v):Inv X pins' Z H s :=
 ⟨I.ok,I.os,I.bare,I.base,I.loc,I.cell,I.free,I.fN,λp hp=>(List.mem_append.mp hp).elim (λz=>I.pin p (aa5 _ z)) (h p),I.aA,I.len⟩
variable {x:Str} {i:Nat}
theorem Bp {N:List Str}(hN:N.Nodup){j:Nat}(a:N[i]? = some x)(b:N[j]? = some x):i=j:=by
 obtain⟨h1,e1⟩:=List.getElem?_eq_some_iff.mp a;obtain⟨h2,e2⟩:=List.getElem?_eq_some_iff.mp b;exact(List.getElem_inj hN).mp (e1.trans e2.symm)
theorem xO (I:Inv X gV Z H s)(hN:X.N.Nodup)(hi:X.N[i]? = some x)(hx:Loc X.env.scope x)(r:RelV v u)
   (h:∀ s',Inv X gV (Z.set i (some v)) H s'->(∃ a,aca a s.heap s'.heap/\(a=X.env.locals∨X.env.cells.lookup x=some a))->Q () s') (hf:X.fn x=true∨X.env.scope.names.lookup x=some .local:=by first | exact .inl rfl | exact .inr rfl | assumption):wpAny M A (storeName X.env x u) Q E s:=by
 obtain⟨m,hn,hl⟩:=id I.loc;have hcls:(X.env.scope.kind == .class || (X.env.scope.kind == .module && X.env.locals != X.env.globals))=false:=by rw[I.ok.kind];rfl
 have hiZ : i < Z.length:=by rw[I.len];exact(List.getElem?_eq_some_iff.mp hi).1
 have zI:=I.zI;have UR:∀ {a:Addr} {h':Heap},(∃ o,s.heap.get? a=some o/\H a=none)->aca a s.heap h'->dh X.prog X.w H h':=λ{a h'} ha hs b ob e=>by
   obtain⟨_,_,hfree⟩:=ha;refine(I.aA b ob e).iV (λc w' hc q=>(hs.2 c ?_).trans q) (λ_ q=>q) λ_ _ q=>q;rintro rfl;rcases hc with rfl | hc
   . rw[hfree] at e;cases e
   . rw[hfree] at hc;cases hc
 rcases hx with hk | hk
 . refine wpAny_storeName_local hk hn (λh' hn' hs=>?_) hcls;obtain ⟨oL,_,_,hoL,_⟩:=id hn;refine h _ ⟨I.ok,I.os,I.bare,⟨λb o e n hb hx=>?_,λb o e n hb hx=>?_,I.base.free,λb o e hx=>?_,I.base.jC,I.base.iO,I.base.jV⟩,⟨_,hn',λj y v' e1 e2 e3=>?_⟩,λy c e=>?_,I.free,I.fN,λp hp=>?_,UR ⟨oL,hoL,I.free⟩ hs,by simpa using I.len⟩ ⟨_,hs,.inl rfl⟩
   . exact(hs.2 b (aaw (aaz (aam e) I.ok.above))).trans (I.base.keep b o e n hb hx)
   . obtain⟨sl, e1⟩ := I.base.slot b o e n hb hx;exact⟨sl,(hs.2 b (aaw (aaz (aam e) I.ok.above))).trans e1⟩
   . obtain⟨o', e1⟩ := I.base.there b o e hx;exact⟨o',(hs.2 b (aaw (aaz (aam e) I.ok.above))).trans e1⟩
   . by_cases hj:j=i
     . subst hj;rw[hi] at e1;cases e1;rw[aaN hiZ] at e2;cases e2
       exact⟨u,r,.inl ⟨hk,by simp⟩⟩
     . rw[aaO (Ne.symm hj)] at e2;obtain⟨u',r',q⟩:=hl j y v' e1 e2 e3;refine⟨u',r',?_⟩;rcases q with ⟨k,e⟩ | ⟨k,c,e,z⟩
       . refine .inl ⟨k,?_⟩
         have:y≠x:=λe=>hj (Bp hN e1 (e ▸ hi))
         simp[this,e]
       . exact .inr ⟨k,c,e,z.sameBut hs (zI y c e)⟩
   . obtain⟨w', z⟩ := I.cell y c e;exact⟨w',z.sameBut hs (zI y c e)⟩
   . obtain⟨e, n, ne, nf, d⟩ := I.pin p hp;exact⟨(hs.2 p.1 ne).trans e,n,ne,nf,d⟩
 . have hfn : X.fn x = true := by
     rcases hf with z | z
     . exact z
     . rw[z] at hk;cases hk
   obtain⟨c,hc⟩:=I.ok.has x (.inl hk);obtain⟨w',z⟩:=I.cell x c hc;refine wpAny_storeName_cell I.ok.kind hk hc z (λh' hc' hs=>?_);obtain⟨oc,hoc,hocd⟩:=id z;refine h { s with heap:=h' } ⟨I.ok,I.os,I.bare,⟨λb o e n hb hx=>?_,λb o e n hb hx=>?_,I.base.free,λb o e hx=>?_,I.base.jC,I.base.iO,I.base.jV⟩,⟨m,hn.sameBut hs (Ne.symm (zI x c hc)),λj y v' e1 e2 e3=>?_⟩,λy c' e=>?_,I.free,I.fN,λp hp=>?_,UR ⟨oc,hoc,I.fN x c hc⟩ hs,by simpa using I.len⟩ ⟨c,hs,.inr hc⟩
   . exact(hs.2 b (aaw (aaz (aam e) (I.ok.Ax x c hfn hc)))).trans (I.base.keep b o e n hb hx)
   . obtain⟨sl, e1⟩ := I.base.slot b o e n hb hx;exact⟨sl,(hs.2 b (aaw (aaz (aam e) (I.ok.Ax x c hfn hc)))).trans e1⟩
   . obtain⟨o', e1⟩ := I.base.there b o e hx;exact⟨o',(hs.2 b (aaw (aaz (aam e) (I.ok.Ax x c hfn hc)))).trans e1⟩
   . by_cases hj:j=i
     . subst hj;rw[hi] at e1;cases e1;rw[aaN hiZ] at e2;cases e2
       exact⟨u,r,.inr ⟨.inl hk,c,hc,hc'⟩⟩
     . rw[aaO (Ne.symm hj)] at e2;obtain⟨u',r',q⟩:=hl j y v' e1 e2 e3;refine⟨u',r',?_⟩;rcases q with q | ⟨k,c',e,z'⟩
       . exact .inl q
       . refine .inr ⟨k,c',e,z'.sameBut hs ?_⟩;rintro rfl;exact hj (Bp hN e1 (I.ok.inj _ _ _ e hc ▸ hi))
   . by_cases hcc:c'=c
     . subst hcc;exact⟨_,hc'⟩
     . obtain⟨w2, z2⟩ := I.cell y c' e;exact⟨w2,z2.sameBut hs hcc⟩
   . obtain⟨e, n, ne, nf, d⟩ := I.pin p hp;refine⟨(hs.2 p.1 ?_).trans e,n,ne,nf,d⟩;intro q;rw[q,hoc] at e;have q':oc=p.2:=aax e;exact d w' (by rw[<- q'];exact hocd)
theorem nj (I:Inv X gV Z H s)(hN:X.N.Nodup)(hi:X.N[i]? = some x)(hx:Loc X.env.scope x)(r:RelV v u)
   (h:∀ s',Inv X gV (Z.set i (some v)) H s'->Q () s') (hf:X.fn x=true∨X.env.scope.names.lookup x=some .local:=by first | exact .inl rfl | exact .inr rfl | assumption):wpAny M A (storeName X.env x u) Q E s :=
 xO I hN hi hx r (λs' I' _=>h s' I') hf
theorem Inv.uz (I:Inv X gV Z H s)(ho:s'.os=s.os)(u:Un (cS X.stack) ch H H' s.heap s'.heap)(aA:dh X.prog X.w H' s'.heap)(hg:AllBare s'.gens)
   (W5:∀ b∈ch,(b∈X.ex∨X.s₀.heap.objs.size<=b)/\b≠X.env.locals/\(∀ x c,X.env.cells.lookup x=some c->c≠b)/\∀ p∈X.pn++gV,p.1≠b):Inv X gV Z H' s':=by
 obtain⟨h',g',d',t',o'⟩:=s';have e:o'=s.os:=ho;subst e;exact I.call (g':=g') (t':=t') (d':=d') u aA hg W5
end
abbrev XK:=Value->Option Addr->Hp->Prop
abbrev St:=List (Option V)
abbrev VK:=V->Hp->Prop
abbrev TE:=St->Hp->VK->Prop
abbrev TT:=St->Hp->(Bool->Hp->Prop)->Prop
abbrev TA:=St->Hp->(List V->Hp->Prop)->Prop
structure Ends where
 nx:St->Hp->Prop
 rt:VK
 bk:St->Hp->Prop:=λ_ _=>False
 ct:St->Hp->Prop:=λ_ _=>False
abbrev TS:=Ends->St->Hp->Prop
def EP (X:Cx)(gV:List (Addr×Obj))(Z : St)(Q:VK)(u:Value)(s':Shared):Prop:=∃ v H',Inv X gV Z H' s'/\RelV v u/\Q v H'
def TP (X:Cx)(gV:List (Addr×Obj))(Z : St)(Q:Bool->Hp->Prop)(b:Bool)(s':Shared):Prop:=∃ H',Inv X gV Z H' s'/\Q b H'
def AP (X:Cx)(gV:List (Addr×Obj))(Z : St)(Q:List V->Hp->Prop)(us:List Value)(s':Shared):Prop:=∃ vs H',Inv X gV Z H' s'/\aL vs us/\Q vs H'
def SP (X:Cx)(gV:List (Addr×Obj))(D:Ends)(f:Flow)(s':Shared):Prop :=
 match f with
 | .next=>∃ Z' H',Inv X gV Z' H' s'/\D.nx Z' H'
 | .brk=>∃ Z' H',Inv X gV Z' H' s'/\D.bk Z' H'
 | .cont=>∃ Z' H',Inv X gV Z' H' s'/\D.ct Z' H'
 | .ret u=>∃ v Z' H',Inv X gV Z' H' s'/\RelV v u/\D.rt v H'
def PE (X:Cx)(e:Expr)(t:TE):Prop :=
 ∀ (gV:List (Addr×Obj)) (s:Shared) (Z : St) (H:Hp) (Q:VK),Inv X gV Z H s->t Z H Q->wpAny (model X.prog X.w) X.A (eval e X.env) (EP X gV Z Q) X.xe s
def PT (X:Cx)(e:Expr)(t:TT):Prop :=
 ∀ (gV:List (Addr×Obj)) (s:Shared) (Z : St) (H:Hp) (Q:Bool->Hp->Prop),Inv X gV Z H s->t Z H Q->wpAny (model X.prog X.w) X.A (isTrue e X.env (eval e X.env)) (TP X gV Z Q) X.xe s
def PW (X:Cx)(e:Expr)(t:TT):Prop :=
 ∀ (TQ:Sem Value) (gV:List (Addr×Obj)) (s:Shared) (Z : St) (H:Hp) (Q:Bool->Hp->Prop),Inv X gV Z H s->t Z H Q->wpAny (model X.prog X.w) X.A (isTrue e X.env TQ) (TP X gV Z Q) X.xe s
variable {e:Expr}
theorem PW.pt (h:PW X e t):PT X e t:=h _
def PA (X:Cx)(es:List Expr)(t:TA):Prop :=
 ∀ (pos:Pos) (gV:List (Addr×Obj)) (s:Shared) (Z : St) (H:Hp) (Q:List V->Hp->Prop),Inv X gV Z H s->t Z H Q->wpAny (model X.prog X.w) X.A (spliced (backTo pos (aai es X.env))) (AP X gV Z Q) X.xe s
def PS (X:Cx)(st:Stmt)(t:TS):Prop :=
 ∀ (gV:List (Addr×Obj)) (s:Shared) (Z : St) (H:Hp) (D:Ends),Inv X gV Z H s->t D Z H->wpAny (model X.prog X.w) X.A (exec st X.env) (SP X gV D) X.xe s
def gj (X:Cx)(st:List Stmt)(t:TS):Prop :=
 ∀ (gV:List (Addr×Obj)) (s:Shared) (Z : St) (H:Hp) (D:Ends),Inv X gV Z H s->t D Z H->wpAny (model X.prog X.w) X.A (execs st X.env) (SP X gV D) X.xe s
variable {s:Shared} {E:Value->Shared->Prop} {A:Around} {M:Model}
theorem aR (h:wpAny M A t Q E s)(hQ:∀ a s,Q a s->Q' a s):wpAny M A t Q' E s:=aaH h hQ λ_ _ x=>x
section
variable {X:Cx}
@[reducible] def RL:Option V->(V->Prop)->Prop
 | some v,k=>k v
 | none,_=>False
@[reducible] def Ib:St->Nat->(V->Prop)->Prop
 | [],_,_=>False
 | o::_,0,k=>RL o k
 | _::r,n+1,k=>Ib r n k
@[reducible] def Ig:St->Nat->V->(St->Prop)->Prop
 | [],_,_,k=>k []
 | _::r,0,v,k=>k (some v::r)
 | o::r,n+1,v,k=>Ig r n v λr'=>k (o::r')
@[reducible] def JH:V->(Bool->Prop)->Prop
 | .bl b,k=>k b
 | _,_=>False
@[reducible] def Gh:V->(Int->Prop)->Prop
 | .int b,k=>k b
 | _,_=>False
@[reducible] def MJ:V->(V->Prop)->Prop
 | .int i,k=>k (.int i)
 | .bl b,k=>k (.bl b)
 | v,k=>k v
@[reducible] def Dw:List V->Nat->Prop->Prop
 | [],_,p=>p
 | _::r,n+1,p=>Dw r n p
 | _::_,0,_=>False
theorem Gb (h:MJ x k):k x:=by cases x <;> exact h
theorem qM:∀ {xs:List V} {n:Nat} {p:Prop},Dw xs n p->xs.length<=n/\p
 | [],_,_,h=>⟨aaT _,h⟩
 | _::r,n+1,p,h=>⟨ade (qM (xs:=r) (n:=n) (p:=p) h).1,(qM (xs:=r) (n:=n) (p:=p) h).2⟩
theorem Dn:∀ {Z : St} {i:Nat} {k:V->Prop},Ib Z i k->∃ v,Z[i]? = some (some v)/\k v
 | some v::_,0,_,h=>⟨v,rfl,h⟩
 | _ :: r, n + 1, k, h => by
   obtain⟨v,e,q⟩:=Dn (Z:=r) (i:=n) (k:=k) h;exact⟨v,by rw[List.getElem?_cons_succ];exact e,q⟩
theorem qR:∀ (Z : St) (i:Nat) (v:V) (k:St->Prop),Ig Z i v k ↔ k (Z.set i (some v))
 | [],_,_,_=>Iff.rfl
 | _::_,0,_,_=>Iff.rfl
 | o::r,n+1,v,k=>qR r n v λr'=>k (o::r')
theorem vt (h:JH x k):∃ b,x=.bl b/\k b:=by
 cases x with
 | bl b=>exact⟨b,rfl,h⟩
 | _=>exact h.elim
theorem uS (h:Gh x k):∃ b,x=.int b/\k b:=by
 cases x with
 | int b=>exact⟨b,rfl,h⟩
 | _=>exact h.elim
variable {x:Str} {i:Nat}
@[reducible] def az (i:Nat):TE:=λZ H Q=>Ib Z i λv=>Q v H
@[reducible] def tC (v:V):TE:=λ_ H Q=>Q v H
theorem F1 (hN:X.N[i]? = some x)(hv:Ny X.env.scope x)(hd:(x == ("__debug__" : Str))=false:=by decide)(Ud:(x == ("__classdict__" : Str))=false:=by decide):PE X (.Name x pos) (az i):=by
 intro gV s Z H Q I h;obtain⟨v,e,h⟩:=Dn h;obtain⟨m,hn,hl⟩:=I.loc;obtain⟨u,r,l⟩:=hl i x v hN e hv;have Td:EP X gV Z Q u s:=⟨v,H,I,r,h⟩
 rcases l with ⟨hk,hm⟩ | ⟨hk,c,hc,hcell⟩
 . exact wpAny_Name (wpAny_loadName_local I.ok.kind hk hn hm Td) hd
 . rcases hk with hk | hk
   . exact wpAny_Name (wpAny_loadName_cell I.ok.kind hk hc hcell Td) hd
   . exact wpAny_Name (wpAny_loadName_free I.ok.kind hk hc hcell Td Ud) hd
theorem aW {i j pos}:PE X (.Constant (.int i) j pos) (tC (.int i)):=λ_ _ _ H _ I h=>wpAny_Constant_int ⟨.int i,H,I.tok _,⟨_,rfl⟩,h⟩
theorem JU {b j pos}:PE X (.Constant (.bool b) j pos) (tC (.bl b)):=λ_ _ _ H _ I h=>Constant_bool ⟨.bl b,H,I,rfl,h⟩
theorem jT:PE X (.Constant .none j pos) (tC .aC):=λ_ _ _ H _ I h=>Constant_none ⟨.aC,H,I,rfl,h⟩
theorem gA {x j pos}:PE X (.Constant (.str x) j pos) (tC (.str x)):=λ_ _ _ H _ I h=>Calls.Constant_str ⟨.str x,H,I.tok _,⟨_,rfl⟩,h⟩
def Gl (X:Cx)(x:Str):Prop:=X.env.kindOf x=some .globalImplicit
variable {Z : St} {gV:List (Addr×Obj)}
theorem eS {E:Value->Shared->Prop}(I:Inv X gV Z H s)(hg:Gl X x)(hm:X.mg x=some u)(h:Q u s)
   (hd:(x == ("__debug__" : Str))=false:=by decide):wpAny (model X.prog X.w) X.A (eval (.Name x pos) X.env) Q E s :=
 Calls.Name_function_global I.ok.kind hg (Calls.loadGlobal_global (by rw[I.ok.glob];exact I.mod.glob.keeps I.bk) hm h) hd
theorem iM {E:Value->Shared->Prop}(I:Inv X gV Z H s)(hg:Gl X x)(hm:X.mg x=none)(hv:aaW x=some u)(h:Q u s)
   (hn:x ≠ "__name__":=by decide) (hd:(x == ("__debug__" : Str))=false:=by decide):wpAny (model X.prog X.w) X.A (eval (.Name x pos) X.env) Q E s:=by
 obtain⟨mb,h1,h2⟩:=I.mod.blt;exact Calls.Name_function_global I.ok.kind hg (Calls.loadGlobal_builtin (by rw[I.ok.glob];exact I.mod.glob.keeps I.bk) hm (by rw[I.ok.blt];exact h1.keeps I.bk) ((h2 x hn).trans hv) h) hd
theorem f_ (hg:Gl X x)(hm:X.mg x=some u)(r:RelV v u)(hd:(x == ("__debug__" : Str))=false:=by decide):PE X (.Name x pos) (tC v) :=
 λ_ _ _ H _ I h=>eS I hg hm ⟨v,H,I,r,h⟩ hd
variable {a b:Expr} {ta tb:TE} {pos:Pos}
def PC (X:Cx)(op:CmpOp)(a b:Expr)(t:TE):Prop :=
 ∀ (gV:List (Addr×Obj)) (s:Shared) (Z : St) (H:Hp) (Q:VK),Inv X gV Z H s->t Z H Q ->
   wpAny (model X.prog X.w) X.A (eval a X.env) (λv s₁=>wpAny (model X.prog X.w) X.A (eval b X.env) (λu s₂=>wpAny (model X.prog X.w) X.A (aaU op v u) (EP X gV Z Q) X.xe s₂) X.xe s₁) X.xe s
def tB (t:TE):TT:=λZ H Q=>t Z H λx H1=>∃ c,x=.bl c/\Q c H1
variable {op:CmpOp}
theorem zw {t:TE}(h:PC X op a b t)(h1:ado op b=false:=by first | exact nobehind _ (by decide) (by decide) | rfl):PT X (.Compare a [op] [b] pos) (tB t):=by
 intro gV s Z H Q I hw;refine wpAny_isTrue_Compare1 (aR (h gV s Z H _ I hw) λv s1 h1=>aR h1 λu s2 h2=>aR h2 λc s3 zq=>bR zq λx H1 I1 r1 q1=>?_) h1;obtain⟨d,rfl,q⟩:=q1;cases r1
 exact abj ⟨H1,I1,q⟩
variable {tA WI:TT} {rest:List Expr}
@[reducible] def OF (t u:TT):TT:=λZ H Q=>t Z H λc H1=>if c=true then u Z H1 Q else Q false H1
@[reducible] def KH (t u:TT):TT:=λZ H Q=>t Z H λc H1=>if c=true then Q true H1 else u Z H1 Q
@[reducible] def EF (t:TT):TT:=λZ H Q=>t Z H λc H1=>Q (!c) H1
theorem mq (ha:PT X a tA):PW X (.BoolOp .And [a] pos) tA:=by
 intro wh gV s Z H Q I h;refine isTrue_and (aR (ha gV s Z H Q I h) λc s1 e=>?_);cases c with
 | true=>exact isTrue_and_nil e
 | false=>exact e
theorem G3 (ha:PT X a tA):PW X (.BoolOp .Or [a] pos) tA:=by
 intro wh gV s Z H Q I h;refine isTrue_or (aR (ha gV s Z H Q I h) λc s1 e=>?_);cases c with
 | false=>exact isTrue_or_nil e
 | true=>exact e
theorem mG (ha:PT X a tA)(hb:PW X (.BoolOp .And (b::rest) pos) WI):PW X (.BoolOp .And (a::b::rest) pos) (OF tA WI):=by
 intro wh gV s Z H Q I h;refine isTrue_and (aR (ha gV s Z H _ I h) λc s1 zq=>om zq λH1 I1 q1=>?_);cases c with
 | true=>exact hb wh gV s1 Z H1 Q I1 q1
 | false=>exact⟨H1,I1,q1⟩
theorem D8 (ha:PT X a tA)(hb:PW X (.BoolOp .Or (b::rest) pos) WI):PW X (.BoolOp .Or (a::b::rest) pos) (KH tA WI):=by
 intro wh gV s Z H Q I h;refine isTrue_or (aR (ha gV s Z H _ I h) λc s1 zq=>om zq λH1 I1 q1=>?_);cases c with
 | true=>exact⟨H1,I1,q1⟩
 | false=>exact hb wh gV s1 Z H1 Q I1 q1
theorem Oy (ha:PT X a tA):PT X (.UnaryOp .Not a pos) (EF tA):=by
 intro gV s Z H Q I h;exact isTrue_not (ha gV s Z H (λc H1=>Q (!c) H1) I h)
@[reducible] def PV (ta tb:TE):TE:=λZ H Q=>ta Z H λx H1=>JH x λc=>if c=true then tb Z H1 Q else Q (.bl false) H1
@[reducible] def Rl (ta tb:TE):TE:=λZ H Q=>ta Z H λx H1=>JH x λc=>if c=true then Q (.bl true) H1 else tb Z H1 Q
theorem Gj {op}{t:TE}(h:PE X a t):PE X (.BoolOp op [a] pos) t:=λgV s Z H Q I hw=>BoolOp_one (h gV s Z H Q I hw)
theorem MW (ha:PE X a ta)(hb:PE X (.BoolOp .And (b::rest) pos) tb):PE X (.BoolOp .And (a::b::rest) pos) (PV ta tb):=by
 intro gV s Z H Q I h;refine BoolOp_and (aR (ha gV s Z H _ I h) λv s1 zq=>bR zq λx H1 I1 r1 q1=>?_);obtain⟨c,rfl,q1⟩:=vt q1;cases r1
 refine abj ?_;cases c with
 | true=>exact hb gV s1 Z H1 Q I1 q1
 | false=>exact⟨.bl false,H1,I1,rfl,q1⟩
theorem Ku (ha:PE X a ta)(hb:PE X (.BoolOp .Or (b::rest) pos) tb):PE X (.BoolOp .Or (a::b::rest) pos) (Rl ta tb):=by
 intro gV s Z H Q I h;refine BoolOp_or (aR (ha gV s Z H _ I h) λv s1 zq=>bR zq λx H1 I1 r1 q1=>?_);obtain⟨c,rfl,q1⟩:=vt q1;cases r1
 refine abj ?_;cases c with
 | false=>exact hb gV s1 Z H1 Q I1 q1
 | true=>exact⟨.bl true,H1,I1,rfl,q1⟩
@[reducible] def SA (t:TT) (ta tb:TE):TE:=λZ H Q=>t Z H λc H1=>if c=true then ta Z H1 Q else tb Z H1 Q
theorem tw {c:Expr}(hc:PT X c tA)(ha:PE X a ta)(hb:PE X b tb):PE X (.IfExp c a b pos) (SA tA ta tb):=by
 intro gV s Z H Q I h;refine wpAny_IfExp (aR (hc gV s Z H _ I h) λd s1 zq=>om zq λH1 I1 q1=>?_);cases d with
 | true=>exact ha gV s1 Z H1 Q I1 q1
 | false=>exact hb gV s1 Z H1 Q I1 q1
end
def ar (K:W.Frag)(H:Hp)(a:Addr)(xs:List V):Prop :=
 Rd H a (.lst xs) ∨
   ∃ (o:Obj) (its:Array Value) (n:Nat),K.lookup a=some o/\o.cls=.type "list"/\o.dict=none/\o.data=.seq its n/\its.size<=aal/\aL xs its.toList
def aI (K:W.Frag)(H:Hp)(a:Addr)(xs:List V):Prop :=
 Rd H a (.tup xs) ∨
   ∃ (o:Obj) (its:Array Value) (n:Nat),K.lookup a=some o/\o.cls=.type "tuple"/\o.data=.seq its n/\its.size<=aal/\aL xs its.toList
def RZ:Value->Option V
 | .none=>some .aC
 | .bool b=>some (.bl b)
 | .int i _=>some (.int i)
 | .str x _=>some (.str x)
 | .bytes b _=>some (.byt b)
 | .float b _=>some (.zH b)
 | .ref a=>some (.ref a)
 | .type n=>some (.ty n)
 | _=>none
theorem RelV.abs (r:RelV x u):RZ u=some x:=by
 cases x with
 | aC=>cases r;rfl
 | bl _=>cases r;rfl
 | int _=>obtain⟨t,rfl⟩:=r;rfl
 | str _=>obtain⟨t,rfl⟩:=r;rfl
 | byt _=>obtain⟨t,rfl⟩:=r;rfl
 | zH _=>obtain⟨t,rfl⟩:=r;rfl
 | ref _=>cases r;rfl
 | ty _=>cases r;rfl
theorem RelV.inj (r:RelV x u)(q:RelV y u):x=y:=aax (r.abs.symm.trans q.abs)
theorem aL.inj:∀ {xs ys:List V} {us:List Value},aL xs us->aL ys us->xs=ys
 | _,_,_,.nil,.nil=>rfl
 | _,_,_,.cons r t,.cons r' t'=>by rw[r.inj r',aL.inj t t']
section
variable {X:Cx} {gV:List (Addr×Obj)} {Z : St} {H:Hp} {s:Shared} {a:Addr} {xs ys:List V}
theorem ar.of {K:W.Frag}(h:H a=some (.lst xs)):ar K H a xs:=.inl (.inl h)
theorem aI.of {K:W.Frag}(h:H a=some (.tup xs)):aI K H a xs:=.inl (.inl h)
theorem Inv.list (I:Inv X gV Z H s)(h:ar X.K H a xs):∃ its:List Value,aL xs its/\PlainL s.heap a its.toArray/\xs.length<=aal:=by
 rcases h with h | ⟨o,its,n,hk,hc,hd,hs,hz,r⟩
 . obtain⟨z, its, n, r, e⟩ := h.ok I.aA;exact⟨its,r,⟨_,n,e,rfl,rfl,rfl⟩,z⟩
 . refine⟨its.toList, r, ⟨o, n, I.df a o hk, hc, hd, by simpa using hs⟩, ?_⟩;have e:=r.length;simp only[ab5] at e;omega
theorem Inv.tuple (I:Inv X gV Z H s)(h:aI X.K H a xs):∃ its:List Value,aL xs its/\IsTup s.heap a its.toArray/\xs.length<=aal:=by
 rcases h with h | ⟨o,its,n,hk,hc,hs,hz,r⟩
 . obtain⟨z, its, r, p⟩ := h.ok I.aA;exact⟨its,r,p,z⟩
 . refine⟨its.toList, r, ⟨o, I.df a o hk, hc, n, by simpa using hs⟩, ?_⟩;have e:=r.length;simp only[ab5] at e;omega
theorem Inv.sN (I:Inv X gV Z H s)(h:ar X.K H a xs)(h':ar X.K H a ys):xs=ys:=by
 obtain⟨its,r,⟨o,n,e,_,_,d⟩,_⟩:=I.list h;obtain⟨its',r',⟨o',n',e',_,_,d'⟩,_⟩:=I.list h';rw[e] at e';cases e';rw[d] at d';injection d' with d1 _
 have:its=its':=by simpa using congrArg Array.toList d1
 subst this;exact r.inj r'
theorem Inv.xl (I:Inv X gV Z H s)(h:aI X.K H a xs)(h':aI X.K H a ys):xs=ys:=by
 obtain⟨its,r,⟨o,e,_,n,d⟩,_⟩:=I.tuple h;obtain⟨its',r',⟨o',e',_,n',d'⟩,_⟩:=I.tuple h';rw[e] at e';cases e';rw[d] at d';injection d' with d1 _
 have:its=its':=by simpa using congrArg Array.toList d1
 subst this;exact r.inj r'
end
abbrev Cx.fP (X:Cx)(E:Value->Shared->Prop):Cx:={ X with xe:=E }
abbrev Cx.eY (X:Cx):Cx:=X.fP λ_ _=>False
theorem Cx.Ok.fP {X:Cx}(ok:X.Ok)(E:Value->Shared->Prop):(X.fP E).Ok :=
 ⟨ok.mod,ok.kind,ok.glob,ok.blt,ok.above,ok.inj,ok.has,ok.Ax,ok.hd,ok.frames,ok.Dq,ok.JI,ok.bs,ok.rH,ok.sS,ok.wZ,ok.gv,ok.uR⟩
theorem Cx.Ok.eg {X:Cx}(ok:(X.fP E).Ok):X.Ok :=
 ⟨ok.mod,ok.kind,ok.glob,ok.blt,ok.above,ok.inj,ok.has,ok.Ax,ok.hd,ok.frames,ok.Dq,ok.JI,ok.bs,ok.rH,ok.sS,ok.wZ,ok.gv,ok.uR⟩
section
variable {X:Cx} {gV:List (Addr×Obj)} {Z : St} {H:Hp} {s:Shared} {E:Value->Shared->Prop}
theorem Inv.fP (I:Inv X gV Z H s)(E:Value->Shared->Prop):Inv (X.fP E) gV Z H s:=⟨I.ok.fP E,I.os,I.bare,I.base,I.loc,I.cell,I.free,I.fN,I.pin,I.aA,I.len⟩
theorem Inv.eg (I:Inv (X.fP E) gV Z H s):Inv X gV Z H s:=⟨I.ok.eg,I.os,I.bare,I.base,I.loc,I.cell,I.free,I.fN,I.pin,I.aA,I.len⟩
theorem SP.eg (h:SP (X.fP E) gV D f s'):SP X gV D f s':=by
 cases f with
 | next=>obtain⟨Z',H',I,q⟩:=h;exact⟨Z',H',I.eg,q⟩
 | brk=>obtain⟨Z',H',I,q⟩:=h;exact⟨Z',H',I.eg,q⟩
 | cont=>obtain⟨Z',H',I,q⟩:=h;exact⟨Z',H',I.eg,q⟩
 | ret u=>obtain⟨v,Z',H',I,r,q⟩:=h;exact⟨v,Z',H',I.eg,r,q⟩
theorem PT.eY {t:TT}(h:PT X.eY e t):PT X e t:=λgV s Z H Q I hw =>
 aaH (h gV s Z H Q (I.fP _) hw) (λ_ _ zq=>om zq λH' I' q=>⟨H',I'.eg,q⟩) λ_ _ z=>aaV z
theorem gj.eY {st:List Stmt}{t:TS}(h:gj X.eY st t):gj X st t:=λgV s Z H D I hw =>
 aaH (h gV s Z H D (I.fP _) hw) (λ_ _ q=>q.eg) λ_ _ z=>aaV z
end
section
variable {X:Cx} {st:Stmt} {rest:List Stmt} {t u:TS} {e:Expr} {te:TE} {pos:Pos}
@[reducible] def dJ:TS:=λD Z H=>D.nx Z H
@[reducible] def bY (t u:TS):TS:=λD Z H=>t { D with nx:=u D } Z H
theorem cL:gj X [] dJ:=λ_ _ Z H _ I h=>abK ⟨Z,H,I,h⟩
theorem aV (h1:PS X st t)(h2:gj X rest u):gj X (st::rest) (bY t u):=by
 intro gV s Z H D I h;refine adu (aR (h1 gV s Z H { D with nx:=u D } I h) λf s1 q=>?_);cases f with
 | next =>
   obtain⟨Z',H',I',q⟩:=q;exact h2 gV s1 Z' H' D I' q
 | ret v=>exact q
 | brk=>exact q
 | cont=>exact q
theorem fv (h1:PS X st t):gj X [st] t:=by
 intro gV s Z H D I h;refine adu (aR (h1 gV s Z H D I h) λf s1 q=>?_);cases f with
 | next=>exact abK q
 | ret v=>exact q
 | brk=>exact q
 | cont=>exact q
variable {Z : St} {gV:List (Addr×Obj)}
theorem Inv.quiet (I:Inv X gV Z H s):interactive X.env=false:=by simp[interactive,I.ok.kind]
@[reducible] def yZ (te:TE):TS:=λD Z H=>te Z H λ_ H1=>D.nx Z H1
theorem f7 (he:PE X e te)(hs:acV e none pos.line X.env=pure false:=by rfl):PS X (.Expr e pos) (yZ te):=by
 intro gV s Z H D I h;exact wpAny_Expr_any (aR (he gV s Z H _ I h) λv s1 zq=>bR zq λx H1 I1 r1 q1=>⟨Z,H1,I1,q1⟩) I.quiet hs
@[reducible] def iT (te:TE):TS:=λD Z H=>te Z H D.rt
theorem iD (he:PE X e te):PS X (.Return (some e) pos) (iT te):=by
 intro gV s Z H D I h;exact wpAny_Return_some (aR (he gV s Z H _ I h) λv s1 zq=>bR zq λx H1 I1 r1 q1=>⟨x,Z,H1,I1,r1,q1⟩)
@[reducible] def Qi:TS:=λD _ H=>D.rt .aC H
theorem Dd:PS X (.Return none pos) Qi:=λ_ _ Z H _ I h=>wpAny_Return_none ⟨.aC,Z,H,I,rfl,h⟩
@[reducible] def eB (c:TT) (t u:TS):TS:=λD Z H=>c Z H λb H1=>if b=true then t D Z H1 else u D Z H1
theorem Kc {c:Expr}{a b:List Stmt}{tc:TT}(hc:PT X c tc)(ha:gj X a t)(hb:gj X b u):PS X (.If c a b pos) (eB tc t u):=by
 intro gV s Z H D I h;refine wpAny_If (aR (hc gV s Z H _ I h) λd s1 zq=>om zq λH1 I1 q1=>?_);cases d with
 | true=>exact ha gV s1 Z H1 D I1 q1
 | false=>exact hb gV s1 Z H1 D I1 q1
def NX:TS:=λ_ _ _=>False
theorem IE:PS X st NX:=λ_ _ _ _ _ _ h=>h.elim
end
abbrev TG:=V->St->Hp->(St->Hp->Prop)->Prop
abbrev ye:=List V->St->Hp->(St->Hp->Prop)->Prop
def PG (X:Cx)(Ur:Expr)(t:TG):Prop :=
 ∀ (gV:List (Addr×Obj)) (s:Shared) (Z : St) (H:Hp) (v:V) (u:Value) (Q:St->Hp->Prop),Inv X gV Z H s->RelV v u->t v Z H Q ->
   wpAny (model X.prog X.w) X.A (assign Ur X.env u) (λ_ s'=>∃ Z' H',Inv X gV Z' H' s'/\Q Z' H') X.xe s
def GX (X:Cx)(ts:List Expr)(t:ye):Prop :=
 ∀ (gV:List (Addr×Obj)) (s:Shared) (Z : St) (H:Hp) (vs:List V) (us:List Value) (Q:St->Hp->Prop),Inv X gV Z H s->aL vs us->t vs Z H Q ->
   wpAny (model X.prog X.w) X.A (assignInOrder ((acQ ts X.env).map (·.2)) us) (λ_ s'=>∃ Z' H',Inv X gV Z' H' s'/\Q Z' H') X.xe s
abbrev En:=V->V->V->Hp->(Hp->Prop)->Prop
def ML (X:Cx)(t:En):Prop :=
 ∀ (gV:List (Addr×Obj)) (s:Shared) (Z : St) (H:Hp) (o i v:V) (ov iv u:Value) (Q:Hp->Prop),Inv X gV Z H s->RelV o ov->RelV i iv->RelV v u->t o i v H Q ->
   wpAny (model X.prog X.w) X.A (setItem ov iv u) (λ_ s'=>∃ H',Inv X gV Z H' s'/\Q H') X.xe s
section
variable {X:Cx} {pos:Pos}
variable {x:Str} {i:Nat}
@[reducible] def be (i:Nat):TG:=λv Z H Q=>Ig Z i v λZ1=>Q Z1 H
theorem bT (hN:X.N.Nodup)(hi:X.N[i]? = some x)(hx:Loc X.env.scope x)(hf:X.fn x=true∨X.env.scope.names.lookup x=some .local:=by first | exact .inl rfl | exact .inr rfl | assumption):PG X (.Name x pos) (be i):=by
 intro gV s Z H v u Q I r h;exact wpAny_assign_Name (nj I hN hi hx r (λs' I'=>⟨_,H,I',(qR _ _ _ _).1 h⟩) hf)
def O9:ye:=λvs Z H Q=>vs=[]/\Q Z H
def Kk (t:TG)(u:ye):ye:=λvs Z H Q=>∃ v r,vs=v::r/\t v Z H λZ' H'=>u r Z' H' Q
theorem wF:GX X [] O9:=by
 intro gV s Z H vs us Q I r h;obtain⟨e,h⟩:=h;subst e;cases r
 exact assignInOrder_nil ⟨Z,H,I,h⟩
theorem j_ {es:List Expr}{t:TG}{u:ye}(h1:PG X e t)(h2:GX X es u)
   (hs:(acQ (e::es) X.env).map (·.2)=assign e X.env::(acQ es X.env).map (·.2):=by rfl):GX X (e::es) (Kk t u):=by
 intro gV s Z H vs us Q I r h;obtain⟨v,vr,e1,h⟩:=h;subst e1;cases r with
 | cons r rr =>
   rw[hs];refine assignInOrder_cons (aR (h1 gV s Z H _ _ _ I r h) λ_ s1 zq=>?_);obtain⟨Z1,H1,I1,q1⟩:=zq;exact h2 gV s1 Z1 H1 _ _ Q I1 rr q1
def Jk (K:W.Frag)(n:Nat)(t:ye):TG:=λv Z H Q=>∃ a xs,v=.ref a/\aI K H a xs/\xs.length=n/\t xs Z H Q
theorem Ou (hc:X.calm=true)(h:GX X es t)
   (hn:(acQ es X.env).length=n:=by rfl) (Tj:(acQ es X.env).findIdx? (·.1)=none:=by rfl):PG X (.Tuple es k pos) (Jk X.K n t):=by
 intro gV s Z H v u Q I r hw;obtain⟨a,xs,e1,hq,hl,hw⟩:=hw;subst e1;cases r
 obtain⟨its,rv,ht,hz⟩:=I.tuple hq;refine assign_Tuple_tuple (I.ok.hd hc) ht (by simp[hn,<- hl,rv.length]) Tj λh' hx=>?_;have I1:Inv X gV Z H { s with heap:=h' }:=I.kept (t':=s.toks) λb o e=>hx b o (aaw (aam e)) e;exact h gV _ Z H xs _ Q I1 (by simpa using rv) hw
@[reducible] def Pq (to ti:TE) (t:En):TG:=λv Z H Q=>to Z H λo H1=>ti Z H1 λi H2=>t o i v H2 λH3=>Q Z H3
theorem MC {o i:Expr}{to ti:TE}{t:En}(ho:PE X o to)(hi:PE X i ti)(hs:ML X t)
   (ha : ∀ v, assign (.Subscript o i pos) X.env v = (do
     let ov <- holding [v] (eval o X.env)
     let iv <- holding [v,ov] (eval i X.env)
     standAt pos
     holding [v,ov,iv] (setItem ov iv v)
     release [v,ov,iv] []):=by intro _;rfl):PG X (.Subscript o i pos) (Pq to ti t):=by
 intro gV s Z H v u Q I r h;rw[ha];refine aad (aa_ (aR (ho gV s Z H _ I h) λov s1 zq=>bR zq λx H1 I1 r1 q1=>?_));refine aad (aa_ (aR (hi gV s1 Z H1 _ I1 q1) λiv s2 zq=>bR zq λy H2 I2 r2 q2=>?_));refine aad (acs (aad (aa_ (aR (hs gV s2 Z H2 x y v ov iv u _ I2 r1 r2 r q2) λ_ s3 zq=>om zq λH3 I3 q3=>?_))));exact wpAny_release ⟨Z,H3,I3,q3⟩
variable {tg:Expr}
@[reducible] def dk (te:TE) (g:TG):TS:=λD Z H=>te Z H λx H1=>g x Z H1 D.nx
theorem OG {te : TE}{g : TG}(he : PE X e te)(hg : PG X tg g)(hs : swapsWithSole [tg] e pos.line X.env = pure false := by rfl)(hw : swappedStores [tg] e X.env = pure none := by rfl)
   (h1:(acQ [tg] X.env).map (·.2)=[assign tg X.env]:=by rfl):PS X (.Assign [tg] e pos) (dk te g):=by
 intro gV s Z H D I h;refine wpAny_Assign_stores (aR (he gV s Z H _ I h) λv s1 zq=>bR zq λx H1 I1 r1 q1=>?_) hs hw;rw[h1];exact aR (hg gV s1 Z H1 x v _ I1 r1 q1) λ_ s2 q=>q
theorem c8 {te : TE}{TF : Pos}(hN : X.N.Nodup)(hi : X.N[i]? = some x)(hx : Loc X.env.scope x)(he : PE X e te)(hs : acV e (some (.Name x TF)) pos.line X.env = pure false := by rfl)(hf : X.fn x = true ∨ X.env.scope.names.lookup x = some .local := by first | exact .inl rfl | exact .inr rfl | assumption) :
   PS X (.Assign [.Name x TF] e pos) (dk te (be i)):=by
 intro gV s Z H D I h;refine wpAny_Assign_Name (aR (he gV s Z H _ I h) λv s1 zq=>bR zq λy H1 I1 r1 q1=>?_) hs;exact nj I1 hN hi hx r1 (λs2 I2=>⟨_,H1,I2,(qR _ _ _ _).1 q1⟩) hf
end
section
variable {X:Cx} {pos:Pos}
def ND (c:TT)(tb:TS):TS:=λD Z H=>∃ W:Nat->St->Hp->Prop,(∃ m,W m Z H)/\∀ m Z H,W m Z H ->
 c Z H λb H1=>if b=true then ∃ N:St->Hp->Prop,(∀ Z' H',N Z' H'->∃ m',m'<m/\W m' Z' H')/\tb { D with nx:=N,ct:=N,bk:=D.nx } Z H1 else D.nx Z H1
variable {tb:TS}
theorem jB {c:Expr}{body:List Stmt}{tc:TT}(hp:PassesOwn (model X.prog X.w) X.A X.env X.xe)(hc:PT X c tc)(hb:gj X body tb):PS X (.While c body [] pos) (ND tc tb):=by
 intro gV s Z H D I h;obtain⟨W,⟨m0,w0⟩,Vj⟩:=h;refine wpAny_While (codeAny_whileLoop (λn s'=>∃ Z' H',Inv X gV Z' H' s'/\W n Z' H') ?_ m0 ⟨Z,H,I,w0⟩);rintro n s1 ⟨Z1,H1,I1,w1⟩;refine ab1 hp (aR (hc gV s1 Z1 H1 _ I1 (Vj n Z1 H1 w1)) λb s2 zq=>om zq λH2 I2 q2=>?_);cases b with
 | true =>
   obtain⟨N,hN,q2⟩:=q2;rw[if_pos rfl];refine ab1 hp (aR (hb gV s2 Z1 H2 _ I2 q2) λf s3 q3=>?_);cases f with
   | next =>
     obtain⟨Z3,H3,I3,n3⟩:=q3;obtain⟨m',hm,w3⟩:=hN Z3 H3 n3;exact⟨m',hm,Z3,H3,I3,w3⟩
   | cont =>
     obtain⟨Z3,H3,I3,n3⟩:=q3;obtain⟨m',hm,w3⟩:=hN Z3 H3 n3;exact⟨m',hm,Z3,H3,I3,w3⟩
   | brk=>exact q3
   | ret v=>exact q3
 | false =>
   rw[if_neg aap];exact abK ⟨Z1,H2,I2,q2⟩
end
structure It where
 go:Nat->Hp->Prop
 rf:Nat->Hp->V->Hp->Prop
 stop:Nat->Hp->Prop
def pI (X:Cx)(gV:List (Addr×Obj))(H:Hp)(b:Addr):Prop :=
 H b=none/\b≠X.env.locals/\b ∉ X.fs/\(b∈X.ex∨X.s₀.heap.objs.size<=b)/\(∀ x c,X.env.cells.lookup x=some c->c≠b)/\∀ p∈X.pn++gV,p.1≠b
variable {Z : St} {gV:List (Addr×Obj)}
theorem Inv.ua (I:Inv X gV Z H s)(hb:s.heap.objs.size<=b)(hn:H' b=none):pI X gV H' b:=by
 refine⟨hn,abU (aaz I.lt hb),I.MX hb,.inr (aaK I.sz hb),λx c e z=>?_,λp hp z=>?_⟩
 . obtain⟨v, q⟩ := I.cell x c e;exact absurd (aaz q.lt (by rw[z];exact hb)) (abB _)
 . exact absurd (aaz (aam (I.pin p hp).1) (by rw[z];exact hb)) (abB _)
structure Turn (P:Program)(w:World)(K:W.Frag)(tg:Expr)(J:It)(fp:List Addr)(it:Addr)(tn:Nat->Heap->Prop):Prop where
 mem:it∈fp
 obj:∀ i h,tn i h->∀ b∈fp,∃ o,h.get? b=some o/\∀ v,o.data≠.cell v
 keep:∀ i h h',tn i h->(∀ b∈fp,∀ o,h.get? b=some o->h'.get? b=some o)->tn i h'
 item:∀ (X:Cx),X.prog=P->X.w=w->X.K=K->X.calm=true->∀ (i:Nat) (gV:List (Addr×Obj)) (s:Shared) (Z : St) (H:Hp) (E:Value->Shared->Prop),Inv X gV Z H s->(∀ b∈fp,pI X gV H b)->tn i s.heap->J.go i H ->
   wpAny (model P w) X.A (pyNext (.ref it)) (λr s1=>∃ u,r=some u /\
     wpAny (model P w) X.A (adH tg (.ref it) u) (λ_ s2=>∃ x H',Inv X gV Z H' s2/\RelV x u/\J.rf i H x H'/\tn (i+1) s2.heap/\∀ b∈fp,H' b=none) E s1) E s
 done:∀ (X:Cx),X.prog=P->X.w=w->X.K=K->X.calm=true->∀ (i:Nat) (gV:List (Addr×Obj)) (s:Shared) (Z : St) (H:Hp) (E:Value->Shared->Prop),Inv X gV Z H s->(∀ b∈fp,pI X gV H b)->tn i s.heap->J.stop i H ->
   wpAny (model P w) X.A (pyNext (.ref it)) (λr s1=>r=none/\Inv X gV Z H s1) E s
 self:∀ (A:Around) (i:Nat) (s:Shared) (Q:Value->Shared->Prop) (E:Value->Shared->Prop),tn i s.heap->Q (.ref it) s->wpAny (model P w) A (pyIter (.ref it)) Q E s
abbrev TI:=St->Hp->(It->Hp->Prop)->Prop
def QT (X:Cx)(gV:List (Addr×Obj))(Z : St)(tg:Expr)(R:It->Hp->Prop)(itv:Value)(s2:Shared):Prop :=
 ∃ (it:Addr) (fp:List Addr) (tn:Nat->Heap->Prop) (J:It) (H':Hp),itv=.ref it/\Inv X gV Z H' s2/\Turn X.prog X.w X.K tg J fp it tn/\tn 0 s2.heap/\(∀ b∈fp,pI X gV H' b)/\R J H'
def PI (X:Cx)(tg iter:Expr)(wi:TI):Prop :=
 ∀ (gV:List (Addr×Obj)) (s:Shared) (Z : St) (H:Hp) (R:It->Hp->Prop),Inv X gV Z H s->wi Z H R ->
   wpAny (model X.prog X.w) X.A (eval iter X.env) (λv s1=>wpAny (model X.prog X.w) X.A (pyIter v) (QT X gV Z tg R) X.xe s1) X.xe s
theorem Dv {M:Model}{A:Around}{E:Value->Shared->Prop}{tg:Expr}{it:Addr}{u:Value}{o:Obj}{n:String}{vs:Array Value}{Q:Unit->Shared->Prop}(ho:s.heap.get? it=some o)(hc:o.cls=.type n)(hd:o.data=.fields vs)
   (hn : ["enumerate","zip","dict_itemiterator","dict_reverseitemiterator","odict_iterator","itertools.zip_longest","itertools.pairwise"].contains n=false) (hQ:Q () s):wpAny M A (adH tg (.ref it) u) Q E s:=by
 unfold adH
 cases tg <;> first
   | exact aaj hQ
   | (cases u <;> first
       | exact aaj hQ
       | (refine aad (wpAny_load ho ?_)
          rw[hc,hd];show wpAny M A (if (["enumerate","zip","dict_itemiterator","dict_reverseitemiterator","odict_iterator","itertools.zip_longest","itertools.pairwise"].contains n && vs[0]? == some (rawInt _))=true then _ else _) Q E s;rw[if_neg (by intro h;rw[hn,Bool.false_and] at h;cases h)];exact aaj hQ))
def x_ (K:W.Frag)(a:Addr):It :=
 ⟨λi H=>∃ xs x,ar K H a xs/\xs[i]? = some x,λi H x H'=>H'=H/\∀ xs,ar K H a xs->xs[i]? = some x,λi H=>∃ xs,ar K H a xs/\xs.length<=i⟩
def Kg (K:W.Frag)(a:Addr):It :=
 ⟨λi H=>∃ xs x,aI K H a xs/\xs[i]? = some x,λi H x H'=>H'=H/\∀ xs,aI K H a xs->xs[i]? = some x,λi H=>∃ xs,aI K H a xs/\xs.length<=i⟩
def qj (lo:Int)(n:Nat):It:=⟨λi _=>i<n,λi H x H'=>H'=H/\x=.int (lo+i),λi _=>n<=i⟩
variable {tg:Expr}
theorem GU {P:Program}{w:World}{K:W.Frag}(a it:Addr):Turn P w K tg (x_ K a) [it] it (λi h=>h.IsListIter it a i) where
 mem:=by simp
 obj:=λi h st b hb=>by
   have e:b=it:=by simpa using hb
   subst e;obtain⟨o,e,c,d⟩:=st;exact⟨o,e,λv z=>by rw[d] at z;cases z⟩
 keep:=λi h h' st k=>st.at λo e=>k it (by simp) o e
 item:=by
   intro X hP hw hK hc i gV s Z H E I hf st hg;subst hP hw hK;obtain⟨xs,x,hq,hx⟩:=hg;obtain⟨its,rv,p,hz⟩:=I.list hq;obtain⟨u,hu,ru⟩:=rv.get hx;obtain⟨f0,f1,f2,f3,f4,f5⟩:=hf it (by simp);refine wpAny_pyNext_list_item st p.isList (x:=u) (by simpa using hu) λh' st' sb=>?_;have I1:Inv X gV Z H { s with heap:=h' }:=I.turned (t':=s.toks) (λb o hb e=>(sb.2 b hb).trans e) f0 f1 f3 f4 f5;obtain⟨o,e,c,d⟩:=id st';exact⟨u,rfl,Dv (s:={ s with heap:=h' }) e c d (by decide) ⟨x,H,I1,ru,⟨rfl,λys hy=>by rw[I.sN hy hq];exact hx⟩,st',λb hb=>(hf b hb).1⟩⟩
 done:=by
   intro X hP hw hK hc i gV s Z H E I hf st hg;subst hP hw hK;obtain⟨xs,hq,hx⟩:=hg;obtain⟨its,rv,p,hz⟩:=I.list hq;obtain⟨f0,f1,f2,f3,f4,f5⟩:=hf it (by simp);have hl:=rv.length;exact wpAny_pyNext_list_end (I.ok.hd hc) st p.isList (by simp;omega) λh' eb=>⟨rfl,I.turned (t':=s.toks) (λb o hb e=>eb b o hb e) f0 f1 f3 f4 f5⟩
 self:=λ_ _ _ _ _ st h=>wpAny_pyIter_listiter st h
theorem EA {P:Program}{w:World}{K:W.Frag}(a it:Addr):Turn P w K tg (Kg K a) [it] it (λi h=>h.IsTupleIter it a i) where
 mem:=by simp
 obj:=λi h st b hb=>by
   have e:b=it:=by simpa using hb
   subst e;obtain⟨o,e,c,d⟩:=st;exact⟨o,e,λv z=>by rw[d] at z;cases z⟩
 keep:=λi h h' st k=>st.at λo e=>k it (by simp) o e
 item:=by
   intro X hP hw hK hc i gV s Z H E I hf st hg;subst hP hw hK;obtain⟨xs,x,hq,hx⟩:=hg;obtain⟨its,rv,p,hz⟩:=I.tuple hq;obtain⟨u,hu,ru⟩:=rv.get hx;obtain⟨f0,f1,f2,f3,f4,f5⟩:=hf it (by simp);refine wpAny_pyNext_tuple_item st (show s.heap.IsTuple a its.toArray from p) (x:=u) (by simpa using hu) λh' st' sb=>?_;have I1:Inv X gV Z H { s with heap:=h' }:=I.turned (t':=s.toks) (λb o hb e=>(sb.2 b hb).trans e) f0 f1 f3 f4 f5;obtain⟨o,e,c,d⟩:=id st';exact⟨u,rfl,Dv (s:={ s with heap:=h' }) e c d (by decide) ⟨x,H,I1,ru,⟨rfl,λys hy=>by rw[I.xl hy hq];exact hx⟩,st',λb hb=>(hf b hb).1⟩⟩
 done:=by
   intro X hP hw hK hc i gV s Z H E I hf st hg;subst hP hw hK;obtain⟨xs,hq,hx⟩:=hg;obtain⟨its,rv,p,hz⟩:=I.tuple hq;obtain⟨f0,f1,f2,f3,f4,f5⟩:=hf it (by simp);have hl:=rv.length;exact wpAny_pyNext_tuple_end (I.ok.hd hc) st (show s.heap.IsTuple a its.toArray from p) (by simp;omega) λh' eb=>⟨rfl,I.turned (t':=s.toks) (λb o hb e=>eb b o hb e) f0 f1 f3 f4 f5⟩
 self:=λ_ _ _ _ _ st h=>wpAny_pyIter_tupleiter st h
theorem D0 {P:Program}{w:World}{K:W.Frag}(it:Addr)(lo:Int)(n:Nat):Turn P w K tg (qj lo n) [it] it (λi h=>IsRangeIter h it (lo+(i:Nat)*1) ((n:Int) - (i:Nat)) 1) where
 mem:=by simp
 obj:=λi h st b hb=>by
   have e:b=it:=by simpa using hb
   subst e;exact⟨_,st,λv z=>by
     have z':Data.fields _=Data.cell v:=z;cases z'⟩
 keep:=λi h h' st k=>k it (by simp) _ st
 item:=by
   intro X hP hw hK hc i gV s Z H E I hf st hg;subst hP hw hK;obtain⟨f0,f1,f2,f3,f4,f5⟩:=hf it (by simp);have W:=Walks.range (prog:=X.prog) (w:=X.w) (I.ok.hd hc) it lo 1 n;refine W.item i s _ _ hg st λv h' tk hv st' kk=>?_;obtain⟨t,rfl⟩:=hv;have I1:Inv X gV Z H { s with heap:=h',toks:=tk }:=I.turned (λb o hb e=>kk b o (by simpa using hb) e) f0 f1 f3 f4 f5;refine⟨_,rfl,Dv (s:={ s with heap:=h',toks:=tk }) (n:="range_iterator") st' rfl rfl (by decide) ⟨.int (lo+i),H,I1,⟨t,?_⟩,⟨rfl,rfl⟩,st',λb hb=>(hf b hb).1⟩⟩;rw[Int.mul_one]
 done:=by
   intro X hP hw hK hc i gV s Z H E I hf st hg;subst hP hw hK;obtain⟨f0,f1,f2,f3,f4,f5⟩:=hf it (by simp);exact wpAny_pyNext_range_end (I.ok.hd hc) st (by have:n<=i:=hg;omega) λh' eb=>⟨rfl,I.turned (t':=s.toks) (λb o hb e=>eb b o hb e) f0 f1 f3 f4 f5⟩
 self:=λ_ _ _ _ _ st h=>wpAny_pyIter_rangeiter st h
section
variable {X:Cx} {tg:Expr}
theorem Bs {R:It->Hp->Prop}{E:Value->Shared->Prop}{lo hi:Int}{t u v:Tok}{tk:Nat}(I:Inv X gV Z H s)(h1 : -(2 ^ 62)<=lo)(h2:lo<2 ^ 62)(h3 : -(2 ^ 62)<=hi)(h4:hi<2 ^ 62)
   (q:R (qj lo (hi - lo).toNat) H):wpAny (model X.prog X.w) X.A (pyIter (.ref s.heap.objs.size)) (QT X gV Z tg R) E { s with heap:=s.heap.push { cls:=.type "range",data:=.fields #[.int lo t,.int hi u,.int 1 v] },toks:=tk }:=by
 refine wpAny_pyIter_range (IsRange.new ..) (small_one h1 h2 h3 h4) ?_;have I1:Inv X gV Z H { s with heap:=s.heap.push { cls:=.type "range",data:=.fields #[.int lo t,.int hi u,.int 1 v] },toks:=tk }:=I.kept λb o e=>aaf _ e
 refine⟨(s.heap.push { cls:=.type "range",data:=.fields #[.int lo t,.int hi u,.int 1 v] }).objs.size,[(s.heap.push { cls:=.type "range",data:=.fields #[.int lo t,.int hi u,.int 1 v] }).objs.size],_,_,H,rfl,
   I1.kept (t':=tk) λb o e=>aaf _ e,D0 _ lo (hi - lo).toNat,?_,λb hb=>?_,q⟩
 . have e1 : lo + ((0 : Nat) : Int) * 1 = lo := by simp
   have e2:(((hi - lo).toNat:Nat):Int) - ((0:Nat):Int)=Builtin.Range.rangeSize lo hi 1:=by rw[rangeSize_one];split <;> omega
   show IsRangeIter _ _ (lo+((0:Nat):Int)*1) ((((hi - lo).toNat:Nat):Int) - ((0:Nat):Int)) 1;rw[e1,e2];exact aat _ rfl
 . have e : b = (s.heap.push { cls := .type "range", data := .fields #[.int lo t, .int hi u, .int 1 v] }).objs.size := by simpa using hb
   subst e;exact I1.ua (aag _) (I1.aA.fresh (aag _))
def mP (ta:TA):TI:=λZ H R=>ta Z H λvs H1=>∃ j:Int,vs=[.int j]/\-(2 ^ 62)<=j/\j<2 ^ 62/\R (qj 0 j.toNat) H1
def Eb (ta:TA):TI:=λZ H R=>ta Z H λvs H1=>∃ i j:Int,vs=[.int i,.int j]/\(-(2 ^ 62)<=i/\i<2 ^ 62/\-(2 ^ 62)<=j/\j<2 ^ 62)/\R (qj i (j - i).toNat) H1
theorem e_ {a:Expr}{ta:TA}{p pos:Pos}(hg:Gl X "range")(hm:X.mg "range" = none)(ha:PA X [a] ta)(hs:aai [a] X.env=[(false,eval a X.env)]:=by rfl):PI X tg (.Call (.Name "range" p) [a] [] pos) (mP ta):=by
 intro gV s Z H R I h;refine Call_ (iM I hg hm boot_range (aa8 (aR (ha pos gV s Z H _ I h) λus s1 zq=>bR zq λvs H1 I1 r1 q1=>?_) hs rfl));obtain⟨j,e,q1,q2,q⟩:=q1;subst e;cases r1 with
 | cons r rr =>
   cases rr
   obtain⟨t,rfl⟩:=r;exact call_range_1 (Bs I1 (by omega) (by omega) q1 q2 (by simpa using q))
theorem yc {a b : Expr}{ta : TA}{p pos : Pos}(hg : Gl X "range")(hm : X.mg "range" = none)(ha : PA X [a, b] ta)(hs : aai [a, b] X.env = [(false, eval a X.env), (false, eval b X.env)] := by rfl)(Ut : aai [b] X.env = [(false, eval b X.env)] := by rfl) :
   PI X tg (.Call (.Name "range" p) [a,b] [] pos) (Eb ta):=by
 intro gV s Z H R I h;refine Call_ (iM I hg hm boot_range (aa8 (aR (ha pos gV s Z H _ I h) λus s1 zq=>bR zq λvs H1 I1 r1 q1=>?_) (by rw[hs,Ut]) (by rw[Ut];rfl)));obtain⟨i,j,e,⟨q1,q2,q3,q4⟩,q⟩:=q1;subst e;cases r1 with
 | cons r rr =>
   cases rr with
   | cons r' rr =>
     cases rr
     obtain⟨t,rfl⟩:=r;obtain⟨t',rfl⟩:=r';exact call_range_2 (Bs I1 q1 q2 q3 q4 q)
def zO (J:It)(g:TG)(tb:TS)(D:Ends)(Z : St)(H1:Hp):Prop:=∃ W:Nat->Nat->St->Hp->Prop,(∃ m,W 0 m Z H1)/\∀ i m Z H,W i m Z H ->
 (J.stop i H/\D.nx Z H)∨(J.go i H/\∃ N:St->Hp->Prop,(∀ Z' H',N Z' H'->∃ m',m'<m/\W (i+1) m' Z' H')/\∀ x H',J.rf i H x H'->g x Z H' λZ2 H2=>tb { D with nx:=N,ct:=N,bk:=D.nx } Z2 H2)
@[reducible] def Jr (wi:TI) (g:TG) (tb:TS):TS:=λD Z H=>wi Z H λJ H1=>zO J g tb D Z H1
def iI (fp:List Addr)(h:Heap):List (Addr×Obj):=fp.filterMap λb=>(h.get? b).map λo=>(b,o)
theorem je {fp:List Addr}{o:Obj}(hb:b∈fp)(e:h.get? b=some o):(b,o)∈iI fp h:=List.mem_filterMap.mpr ⟨b,hb,by rw[e];rfl⟩
theorem xH (hp:p∈iI fp h):p.1∈fp/\h.get? p.1=some p.2:=by
 obtain⟨b,hb,e⟩:=List.mem_filterMap.mp hp;cases q:h.get? b with
 | none=>rw[q] at e;cases e
 | some o =>
   rw[q] at e;have e':(b,o)=p:=aax e;subst e';exact⟨hb,q⟩
theorem Inv.pinned (I:Inv X gV Z H s)(hf:∀ b∈fp,pI X gV H b)(ho:∀ b∈fp,∃ o,s.heap.get? b=some o/\∀ v,o.data≠.cell v):Inv X (gV++iI fp s.heap) Z H s :=
 I.qF λp hp=>(List.mem_append.mp hp).elim (λz=>I.pin p (aay _ z)) λz=>by
   obtain⟨hb,e⟩:=xH z;obtain⟨f0,f1,f2,_⟩:=hf p.1 hb;obtain⟨o,e',d⟩:=ho p.1 hb;rw[e] at e';cases e';exact⟨e,f0,f1,f2,d⟩
theorem Inv.mU (I:Inv X (gV++pl) Z H s):Inv X gV Z H s:=I.qF λp hp=>I.pin p (aay _ (aa5 _ hp))
variable {tb:TS}
theorem Bl {iter:Expr}{body:List Stmt}{wi:TI}{g:TG}{pos:Pos}(hp:PassesOwn (model X.prog X.w) X.A X.env X.xe)(hc:X.calm=true)(hi:PI X tg iter wi)(hg:PG X tg g)(hb:gj X body tb)
   (hs:∀ x,foldedSetIterable iter X.env x=pure x:=by intro _;rfl):PS X (.For tg iter body [] pos) (Jr wi g tb):=by
 intro gV s Z H D I h;refine wpAny_For (aR (hi gV s Z H _ I h) λv s1 h1=>aR h1 λitv s2 h2=>?_) hs;obtain⟨it,fp,tn,J,H2,e,I2,T,st2,f2,W,⟨m0,w0⟩,Vj⟩:=h2;subst e
 -- what stays true of the iterator's objects through the loop
 have Vl:∀ {H':Hp},(∀ b∈fp,H' b=none)->∀ b∈fp,pI X gV H' b:=λhn b hb=>⟨hn b hb,(f2 b hb).2⟩;refine codeAny_forLoop_any (λn s'=>∃ i Z' H',Inv X gV Z' H' s'/\tn i s'.heap/\(∀ b∈fp,H' b=none)/\W i n Z' H') ?_ m0 ⟨0,Z,H2,I2,st2,λb hb=>(f2 b hb).1,w0⟩;rintro n s3 ⟨i,Z3,H3,I3,st3,fr3,w3⟩;rcases Vj i n Z3 H3 w3 with ⟨stop,qn⟩ | ⟨go,N,hN,step⟩
 . refine ab1 hp (aR (T.done X rfl rfl rfl hc i gV s3 Z3 H3 X.xe I3 (Vl fr3) st3 stop) λr s4 zq=>?_);obtain⟨hr,I4⟩:=zq;subst hr;exact abK ⟨Z3,H3,I4,qn⟩
 . refine ab1 hp (aR (T.item X rfl rfl rfl hc i gV s3 Z3 H3 X.xe I3 (Vl fr3) st3 go) λr s4 zq=>om zq λu hr h4=>?_);subst hr;refine ab1 hp (aR h4 λ_ s5 zq=>?_);obtain⟨x,H5,I5,r5,y5,st5,fr5⟩:=zq;have I5':=I5.pinned (Vl fr5) (T.obj _ _ st5);refine ab1 hp (aR (hg _ s5 Z3 H5 x u _ I5' r5 (step x H5 y5)) λ_ s6 zq=>?_);obtain⟨Z6,H6,I6,q6⟩:=zq;refine ab1 hp (aR (hb _ s6 Z6 H6 _ I6 q6) λf s7 q7=>?_);have again:∀ {Z7:St} {H7:Hp},Inv X (gV++iI fp s5.heap) Z7 H7 s7->N Z7 H7->∃ m,m<n/\∃ i Z' H',Inv X gV Z' H' s7/\tn i s7.heap/\(∀ b∈fp,H' b=none)/\W i m Z' H':=λ{Z7 H7} I7 n7=>by
     obtain⟨m',hm,w7⟩:=hN Z7 H7 n7;refine⟨m',hm,i+1,Z7,H7,I7.mU,T.keep _ _ _ st5 λb hb o e=>(I7.pin (b,o) (aay _ (aay _ (je hb e)))).1,λb hb=>?_,w7⟩;obtain⟨o,e,d⟩:=T.obj _ _ st5 b hb;exact(I7.pin (b,o) (aay _ (aay _ (je hb e)))).2.1
   cases f with
   | next=>obtain⟨Z7,H7,I7,n7⟩:=q7;exact again I7 n7
   | cont=>obtain⟨Z7,H7,I7,n7⟩:=q7;exact again I7 n7
   | brk=>obtain⟨Z7,H7,I7,q7⟩:=q7;exact⟨Z7,H7,I7.mU,q7⟩
   | ret v=>obtain⟨x7,Z7,H7,I7,r7,q7⟩:=q7;exact⟨x7,Z7,H7,I7.mU,r7,q7⟩
end
theorem eZ {K:W.Frag}{a:Addr}{xs:List V}{g:TG}{tb:TS}{D:Ends}(Pv:Nat->St->Hp->Prop)(h0:Pv 0 Z H)(hl:∀ i Z H,i<=xs.length->Pv i Z H->ar K H a xs)
   (hs:∀ i x Z H,xs[i]? = some x->Pv i Z H->g x Z H λZ2 H2=>tb { D with nx:=Pv (i+1),ct:=Pv (i+1),bk:=D.nx } Z2 H2) (hd:∀ Z H,Pv xs.length Z H->D.nx Z H) :
   ∃ W:Nat->Nat->St->Hp->Prop,(∃ m,W 0 m Z H)/\∀ i m Z H,W i m Z H ->
     ((x_ K a).stop i H/\D.nx Z H)∨((x_ K a).go i H/\∃ N:St->Hp->Prop,(∀ Z' H',N Z' H'->∃ m',m'<m/\W (i+1) m' Z' H')/\∀ x H',(x_ K a).rf i H x H'->g x Z H' λZ2 H2=>tb { D with nx:=N,ct:=N,bk:=D.nx } Z2 H2):=by
 refine⟨λi m Z H=>m=xs.length - i/\i<=xs.length/\Pv i Z H,⟨xs.length,by simp,aaT _,h0⟩,?_⟩;rintro i m Z H ⟨rfl,hi,p⟩;have q:=hl i Z H hi p;by_cases Tb:i<xs.length
 . refine .inr ⟨⟨xs, xs[i], q, by simp[Tb]⟩, Pv (i + 1), λZ' H' p' => ⟨xs.length - (i + 1), by omega, rfl, Tb, p'⟩, λx H' y => ?_⟩;obtain⟨e,y⟩:=y;subst e;exact hs i x Z _ (y xs q) p
 . have e : i = xs.length := by omega
   subst e;exact .inl ⟨⟨xs,q,aag _⟩,hd Z H p⟩
theorem fY {lo:Int}{n:Nat}{g:TG}{tb:TS}{D:Ends}(Pv:Nat->St->Hp->Prop)(h0:Pv 0 Z H)
   (hs:∀ i Z H,i<n->Pv i Z H->g (.int (lo+i)) Z H λZ2 H2=>tb { D with nx:=Pv (i+1),ct:=Pv (i+1),bk:=D.nx } Z2 H2) (hd:∀ Z H,Pv n Z H->D.nx Z H) :
   ∃ W:Nat->Nat->St->Hp->Prop,(∃ m,W 0 m Z H)/\∀ i m Z H,W i m Z H ->
     ((qj lo n).stop i H/\D.nx Z H)∨((qj lo n).go i H/\∃ N:St->Hp->Prop,(∀ Z' H',N Z' H'->∃ m',m'<m/\W (i+1) m' Z' H')/\∀ x H',(qj lo n).rf i H x H'->g x Z H' λZ2 H2=>tb { D with nx:=N,ct:=N,bk:=D.nx } Z2 H2):=by
 refine⟨λi m Z H=>m=n - i/\i<=n/\Pv i Z H,⟨n,by simp,aaT _,h0⟩,?_⟩;rintro i m Z H ⟨rfl,hi,p⟩;by_cases Tb:i<n
 . refine .inr ⟨Tb, Pv (i + 1), λZ' H' p' => ⟨n - (i + 1), by omega, rfl, Tb, p'⟩, λx H' y => ?_⟩;obtain⟨e,y⟩:=y;subst e y;exact hs i Z _ Tb p
 . have e : i = n := by omega
   subst e;exact .inl ⟨aag _,hd Z H p⟩
abbrev R2:=V->V->Hp->VK->Prop
def bQ (X:Cx)(f:Value->Value->Sem Value)(r:R2):Prop :=
 ∀ (gV:List (Addr×Obj)) (s:Shared) (Z : St) (H:Hp) (x y:V) (v u:Value) (Q:VK),Inv X gV Z H s->RelV x v->RelV y u->r x y H Q ->
   wpAny (model X.prog X.w) X.A (f v u) (EP X gV Z Q) X.xe s
def Ko (X:Cx)(f:Value->Sem Value)(r:V->Hp->VK->Prop):Prop :=
 ∀ (gV:List (Addr×Obj)) (s:Shared) (Z : St) (H:Hp) (x:V) (v:Value) (Q:VK),Inv X gV Z H s->RelV x v->r x H Q ->
   wpAny (model X.prog X.w) X.A (f v) (EP X gV Z Q) X.xe s
def cW (X:Cx)(f:Value)(r:List V->Hp->VK->Prop):Prop :=
 ∀ (gV:List (Addr×Obj)) (s:Shared) (Z : St) (H:Hp) (xs:List V) (us:List Value) (Q:VK),Inv X gV Z H s->aL xs us->r xs H Q ->
   wpAny (model X.prog X.w) X.A (call f us) (EP X gV Z Q) X.xe s
def Rp (X:Cx)(r:V->Hp->(Bool->Hp->Prop)->Prop):Prop :=
 ∀ (gV:List (Addr×Obj)) (s:Shared) (Z : St) (H:Hp) (x:V) (v:Value) (Q:Bool->Hp->Prop),Inv X gV Z H s->RelV x v->r x H Q ->
   wpAny (model X.prog X.w) X.A (truthy v) (TP X gV Z Q) X.xe s
@[reducible] def bq (r:R2) (ta tb:TE):TE:=λZ H Q=>ta Z H λx H1=>tb Z H1 λy H2=>r x y H2 Q
@[reducible] def SG (r:V->Hp->VK->Prop) (ta:TE):TE:=λZ H Q=>ta Z H λx H1=>r x H1 Q
def rI (C:Int->Int->Prop)(g:Int->Int->V):R2:=λx y H Q=>∃ i j,x=.int i/\y=.int j/\C i j/\Q (g i j) H
@[reducible] def lM (g:Int->Int->V):R2:=λx y H Q=>Gh x λi=>Gh y λj=>MJ (g i j) λv=>Q v H
theorem GZ (h:lM g x y H Q):∃ i j,x=.int i/\y=.int j/\Q (g i j) H:=by
 obtain⟨i,e,h⟩:=uS h;obtain⟨j,e2,h⟩:=uS h;exact⟨i,j,e,e2,Gb h⟩
@[reducible] def rU (g:Int->V):V->Hp->VK->Prop:=λx H Q=>Gh x λi=>MJ (g i) λv=>Q v H
section
variable {X:Cx} {a b c:Expr} {ta tb tc:TE} {pos:Pos}
theorem Iq (ha:PE X a ta)(hb:PE X b tb){R:V->V->Hp->Prop}(I:Inv X gV Z H s)
   (h:ta Z H λx H1=>tb Z H1 λy H2=>R x y H2) {Q:Value->Shared->Prop} {f:Value->Value->Sem Value}
   (hf:∀ v u s2 x y H2,Inv X gV Z H2 s2->RelV x v->RelV y u->R x y H2->wpAny (model X.prog X.w) X.A (f v u) Q X.xe s2) :
   wpAny (model X.prog X.w) X.A (eval a X.env) (λv s₁=>wpAny (model X.prog X.w) X.A (eval b X.env) (λu s₂=>wpAny (model X.prog X.w) X.A (f v u) Q X.xe s₂) X.xe s₁) X.xe s:=by
 refine aR (ha gV s Z H _ I h) λv s1 zq=>bR zq λx H1 I1 r1 q1=>?_;refine aR (hb gV s1 Z H1 _ I1 q1) λu s2 zq=>bR zq λy H2 I2 r2 q2=>?_;exact hf v u s2 x y H2 I2 r1 r2 q2
variable {r:R2}
theorem cT (ho:bQ X (abD op) r)(ha:PE X a ta)(hb:PE X b tb):PE X (.BinOp a op b pos) (bq r ta tb):=by
 intro gV s Z H Q I h;exact wpAny_BinOp (Iq ha hb I h λv u s2 x y H2 I2 rx ry q=>ho gV s2 Z H2 x y v u Q I2 rx ry q)
theorem J1 {op:UnaryOp}{r:V->Hp->VK->Prop}(ho:Ko X (unaryOp op) r)(ha:PE X a ta):PE X (.UnaryOp op a pos) (SG r ta):=by
 intro gV s Z H Q I h;exact UnaryOp_ (aR (ha gV s Z H _ I h) λv s1 zq=>bR zq λx H1 I1 r1 q1=>ho gV s1 Z H1 x v Q I1 r1 q1)
theorem E8 {f:Value->Value->Sem Value}{C:Int->Int->Prop}{g:Int->Int->Int}
   (rule:∀ (i j:Int) (t u:Tok) (s:Shared) (Q:Value->Shared->Prop) (E:Value->Shared->Prop),C i j->Q (.int (g i j) s.toks) { s with toks:=s.toks+1 }->wpAny (model X.prog X.w) X.A (f (.int i t) (.int j u)) Q E s) :
   bQ X f (rI C λi j=>.int (g i j)):=by
 intro gV s Z H x y v u Q I rx ry h;obtain⟨i,j,rfl,rfl,hc,q⟩:=h;obtain⟨t,rfl⟩:=rx;obtain⟨t',rfl⟩:=ry;exact rule i j t t' s _ _ hc ⟨.int (g i j),H,I.tok _,⟨_,rfl⟩,q⟩
theorem A6 {f:Value->Value->Sem Value}{g:Int->Int->Int}
   (rule:∀ (i j:Int) (t u:Tok) (s:Shared) (Q:Value->Shared->Prop) (E:Value->Shared->Prop),Q (.int (g i j) s.toks) { s with toks:=s.toks+1 }->wpAny (model X.prog X.w) X.A (f (.int i t) (.int j u)) Q E s) :
   bQ X f (lM λi j=>.int (g i j)):=by
 intro gV s Z H x y v u Q I rx ry h;obtain⟨i,j,rfl,rfl,q⟩:=GZ h;obtain⟨t,rfl⟩:=rx;obtain⟨t',rfl⟩:=ry;exact rule i j t t' s _ _ ⟨.int (g i j),H,I.tok _,⟨_,rfl⟩,q⟩
theorem ES {f:Value->Value->Sem Value}{g:Int->Int->Bool}
   (rule:∀ (i j:Int) (t u:Tok) (s:Shared) (Q:Value->Shared->Prop) (E:Value->Shared->Prop),Q (.bool (g i j)) s->wpAny (model X.prog X.w) X.A (f (.int i t) (.int j u)) Q E s) :
   bQ X f (lM λi j=>.bl (g i j)):=by
 intro gV s Z H x y v u Q I rx ry h;obtain⟨i,j,rfl,rfl,q⟩:=GZ h;obtain⟨t,rfl⟩:=rx;obtain⟨t',rfl⟩:=ry;exact rule i j t t' s _ _ ⟨.bl (g i j),H,I,rfl,q⟩
def D7 (i j:Int):Prop:=0<j/\j<1073741824
def AY (i j:Int):Prop:=(-(2 ^ 64)<i/\i<2 ^ 64)∨(-(2 ^ 64)<j/\j<2 ^ 64)
theorem AY.ok (h:AY i j):IntMulOk i j:=by
 rcases h with ⟨h1,h2⟩ | ⟨h1,h2⟩
 . exact .of_left (intBits_le_64 h1 h2)
 . exact .of_right (intBits_le_64 h1 h2)
theorem DE (k:Nat):(0:Int)<=2 ^ k:=by
 rw[two_pow_cast];exact abl _
theorem Nw:bQ X (abD .Add) (lM λi j=>.int (i+j)):=A6 λ_ _ _ _ _ _ _ q=>add_int q
theorem l7:bQ X (abD .Sub) (lM λi j=>.int (i - j)):=A6 λ_ _ _ _ _ _ _ q=>sub_int q
theorem N0:bQ X (abD .Mult) (rI AY λi j=>.int (i*j)):=E8 λ_ _ _ _ _ _ _ hc q=>mul_int q hc.ok
theorem Dl:bQ X (abD .FloorDiv) (rI D7 λi j=>.int (i/j)):=E8 λi j _ _ _ _ _ hc q=>by
 have h1:(0:Int)<j:=hc.1;have h2:j<1073741824:=hc.2;exact floordiv_int (by omega) (by rw[Int.fdiv_eq_ediv_of_nonneg i (by omega)];exact q) (.inl (PyProof.noPylong_small (by omega)))
theorem uD:bQ X (abD .Mod) (rI (λ_ j=>0<j) λi j=>.int (i%j)):=E8 λi j _ _ _ _ _ hc q=>by
 have h1:(0:Int)<j:=hc;exact mod_int' (by omega) (by rw[Int.fmod_eq_emod_of_nonneg i (by omega)];exact q)
theorem G4:bQ X (abD .RShift) (rI (λ_ j=>0<=j) λi j=>.int (i/2 ^ j.toNat)):=E8 λi j _ _ _ _ _ hc q =>
 rshift_int hc (by rw[Int.fdiv_eq_ediv_of_nonneg i (DE _)];exact q)
theorem vK:bQ X (abD .BitAnd) (lM λi j=>.int (aaJ i j)):=A6 λ_ _ _ _ _ _ _ q=>and_int q
theorem Qy:bQ X (abD .BitOr) (lM λi j=>.int (ady i j)):=A6 λ_ _ _ _ _ _ _ q=>or_int q
theorem OB:bQ X (abD .BitXor) (lM λi j=>.int (adk i j)):=A6 λ_ _ _ _ _ _ _ q=>xor_int q
theorem QM {f:Value->Sem Value}{g:Int->Int}
   (rule:∀ (i:Int) (t:Tok) (s:Shared) (Q:Value->Shared->Prop) (E:Value->Shared->Prop),Q (.int (g i) s.toks) { s with toks:=s.toks+1 }->wpAny (model X.prog X.w) X.A (f (.int i t)) Q E s) :
   Ko X f (rU λi=>.int (g i)):=by
 intro gV s Z H x v Q I rx h;obtain⟨i,rfl,q⟩:=uS h
 replace q:=Gb q
 obtain⟨t,rfl⟩:=rx;exact rule i t s _ _ ⟨.int (g i),H,I.tok _,⟨_,rfl⟩,q⟩
theorem Gi:Ko X (unaryOp .USub) (rU λi=>.int (-i)):=QM λ_ _ _ _ _ q=>neg_int q
theorem Pg:Ko X (unaryOp .Invert) (rU λi=>.int (aav i)):=QM λ_ _ _ _ _ q=>invert_int q
end
def DT:V->V->Bool
 | .aC,.aC=>true | .aC,.int _=>true | .int _,.aC=>true | .aC,.bl _=>true | .bl _,.aC=>true | .aC,.str _=>true | .str _,.aC=>true
 | .int _,.int _=>true | .bl _,.bl _=>true | .str _,.str _=>true | .byt _,.byt _=>true
 | .int _,.str _=>true | .str _,.int _=>true | .bl _,.str _=>true | .str _,.bl _=>true
 | _,_=>false
def QN:R2:=λx y H Q=>DT x y=true/\Q (.bl (decide (x=y))) H
def QQ:R2:=λx y H Q=>DT x y=true/\Q (.bl (!decide (x=y))) H
theorem CK:decide (V.int i=V.int j)=(i == j):=by
 rw[adl]
 simp
theorem Gx:decide (V.bl i=V.bl j)=(i == j):=by
 rw[adl]
 simp
theorem CV:decide (V.str i=V.str j)=(i == j):=by
 rw[adl]
 simp
theorem C1:decide (V.byt i=V.byt j)=(i.toList == j.toList):=by
 rw[adl];cases i
 cases j
 simp
section
variable {X:Cx} {a b c:Expr} {ta tb tc:TE} {pos:Pos}
theorem bz (I:Inv X gV Z H s)(q:Q (.bl k) H)(e:k=k'):EP X gV Z Q (.bool k') s:=by
 subst e;exact⟨.bl k,H,I,rfl,q⟩
theorem P7:bQ X (aaU .Eq) QN:=by
 intro gV s Z H x y v u Q I rx ry h;obtain⟨hs,q⟩:=h;cases x with
 | aC =>
   cases rx
   cases y with
   | aC=>cases ry;exact PySem.EqNone.eq_none_none (bz I q (by simp))
   | bl j=>cases ry;exact PySem.EqNone.eq_none_bool (bz I q (by simp))
   | int j=>obtain⟨t',rfl⟩:=ry;exact PySem.EqNone.eq_none_int (bz I q (by simp))
   | str j=>obtain⟨t',rfl⟩:=ry;exact PySem.EqNone.eq_none_str (bz I q (by simp))
   | _=>exact absurd (show false=true from hs) aap
 | bl i =>
   cases rx
   cases y with
   | aC=>cases ry;exact PySem.EqNone.eq_bool_none (bz I q (by simp))
   | bl j=>cases ry;exact eq_bool (bz I q Gx)
   | str j=>obtain⟨t',rfl⟩:=ry;exact PySem.EqMixed.eq_bool_str (bz I q (by simp))
   | _=>exact absurd (show false=true from hs) aap
 | int i =>
   obtain⟨t,rfl⟩:=rx;cases y with
   | aC=>cases ry;exact PySem.EqNone.eq_int_none (bz I q (by simp))
   | int j=>obtain⟨t',rfl⟩:=ry;exact eq_int (bz I q CK)
   | str j=>obtain⟨t',rfl⟩:=ry;exact PySem.EqMixed.eq_int_str (bz I q (by simp))
   | _=>exact absurd (show false=true from hs) aap
 | str i =>
   obtain⟨t,rfl⟩:=rx;cases y with
   | aC=>cases ry;exact PySem.EqNone.eq_str_none (bz I q (by simp))
   | bl j=>cases ry;exact PySem.EqMixed.eq_str_bool (bz I q (by simp))
   | int j=>obtain⟨t',rfl⟩:=ry;exact PySem.EqMixed.eq_str_int (bz I q (by simp))
   | str j=>obtain⟨t',rfl⟩:=ry;exact eq_str (bz I q CV)
   | _=>exact absurd (show false=true from hs) aap
 | byt i =>
   obtain⟨t,rfl⟩:=rx;cases y with
   | byt j=>obtain⟨t',rfl⟩:=ry;exact W.eq_bytes (bz I q C1)
   | _=>exact absurd (show false=true from hs) aap
 | _=>cases y <;> exact absurd (show false=true from hs) aap
theorem QG:bQ X (aaU .NotEq) QQ:=by
 intro gV s Z H x y v u Q I rx ry h;obtain⟨hs,q⟩:=h;cases x with
 | aC =>
   cases rx
   cases y with
   | aC=>cases ry;exact PySem.EqNone.ne_none_none (bz I q (by simp))
   | bl j=>cases ry;exact PySem.EqNone.ne_none_bool (bz I q (by simp))
   | int j=>obtain⟨t',rfl⟩:=ry;exact PySem.EqNone.ne_none_int (bz I q (by simp))
   | str j=>obtain⟨t',rfl⟩:=ry;exact PySem.EqNone.ne_none_str (bz I q (by simp))
   | _=>exact absurd (show false=true from hs) aap
 | bl i =>
   cases rx
   cases y with
   | aC=>cases ry;exact PySem.EqNone.ne_bool_none (bz I q (by simp))
   | bl j=>cases ry;exact ne_bool (bz I q (congrArg not Gx))
   | str j=>obtain⟨t',rfl⟩:=ry;exact PySem.EqMixed.ne_bool_str (bz I q (by simp))
   | _=>exact absurd (show false=true from hs) aap
 | int i =>
   obtain⟨t,rfl⟩:=rx;cases y with
   | aC=>cases ry;exact PySem.EqNone.ne_int_none (bz I q (by simp))
   | int j=>obtain⟨t',rfl⟩:=ry;exact ne_int (bz I q (congrArg not CK))
   | str j=>obtain⟨t',rfl⟩:=ry;exact PySem.EqMixed.ne_int_str (bz I q (by simp))
   | _=>exact absurd (show false=true from hs) aap
 | str i =>
   obtain⟨t,rfl⟩:=rx;cases y with
   | aC=>cases ry;exact PySem.EqNone.ne_str_none (bz I q (by simp))
   | bl j=>cases ry;exact PySem.EqMixed.ne_str_bool (bz I q (by simp))
   | int j=>obtain⟨t',rfl⟩:=ry;exact PySem.EqMixed.ne_str_int (bz I q (by simp))
   | str j=>obtain⟨t',rfl⟩:=ry;exact ne_str (bz I q (congrArg not CV))
   | _=>exact absurd (show false=true from hs) aap
 | byt i =>
   obtain⟨t,rfl⟩:=rx;cases y with
   | byt j=>obtain⟨t',rfl⟩:=ry;exact W.ne_bytes (bz I q (congrArg not C1))
   | _=>exact absurd (show false=true from hs) aap
 | _=>cases y <;> exact absurd (show false=true from hs) aap
theorem DI:bQ X (aaU .Lt) (lM λi j=>.bl (decide (i<j))):=ES λ_ _ _ _ _ _ _ q=>lt_int q
theorem y3:bQ X (aaU .LtE) (lM λi j=>.bl (decide (i<=j))):=ES λ_ _ _ _ _ _ _ q=>le_int q
theorem JG:bQ X (aaU .Gt) (lM λi j=>.bl (decide (j<i))):=ES λ_ _ _ _ _ _ _ q=>gt_int q
theorem Qu:bQ X (aaU .GtE) (lM λi j=>.bl (decide (j<=i))):=ES λ_ _ _ _ _ _ _ q=>ge_int q
theorem MI:bQ X (aaU .Is) (λx y H Q=>y=.aC/\Q (.bl (decide (x=.aC))) H):=by
 intro gV s Z H x y v u Q I rx ry h;obtain⟨rfl,q⟩:=h;cases ry
 refine is_none_gen (bz I q ?_)
 cases x <;> first
   | (cases rx;rfl)
   | (obtain⟨t,rfl⟩:=rx;rfl)
theorem Lq:bQ X (aaU .IsNot) (λx y H Q=>y=.aC/\Q (.bl (!decide (x=.aC))) H):=by
 intro gV s Z H x y v u Q I rx ry h;obtain⟨rfl,q⟩:=h;cases ry
 refine isnot_none_gen (bz I q ?_)
 cases x <;> first
   | (cases rx;rfl)
   | (obtain⟨t,rfl⟩:=rx;rfl)
variable {r:R2} {f:Value->Value->Sem Value}
theorem bQ.or (h:bQ X f r)(h':bQ X f r'):bQ X f (λx y H Q=>r x y H Q∨r' x y H Q):=by
 intro gV s Z H x y v u Q I rx ry q;rcases q with q | q
 . exact h gV s Z H x y v u Q I rx ry q
 . exact h' gV s Z H x y v u Q I rx ry q
variable {op:CmpOp}
theorem d9 (b:Expr)(h:op≠.In:=by decide)(h2:op≠.NotIn:=by decide):ado op b=false:=by
 have e1:(op == CmpOp.In)=false:=by cases op <;> first | rfl | exact absurd rfl h
 have e2:(op == CmpOp.NotIn)=false:=by cases op <;> first | rfl | exact absurd rfl h2
 cases b <;> simp[ado,e1,e2]
theorem wD (ho:bQ X (aaU op) r)(ha:PE X a ta)(hb:PE X b tb)(hm:ado op b=false):PE X (.Compare a [op] [b] pos) (bq r ta tb):=by
 intro gV s Z H Q I h;exact wpAny_Compare1 (Iq ha hb I h λv u s2 x y H2 I2 rx ry q=>ho gV s2 Z H2 x y v u Q I2 rx ry q) hm
@[reducible] def dC (t:TE):TT:=λZ H Q=>t Z H λx H'=>JH x λk=>Q k H'
theorem dO (ho:bQ X (aaU op) r)(ha:PE X a ta)(hb:PE X b tb)(hm:ado op b=false):PT X (.Compare a [op] [b] pos) (dC (bq r ta tb)):=by
 intro gV s Z H Q I h;refine wpAny_isTrue_Compare1 (aR (ha gV s Z H _ I h) λv s1 zq=>bR zq λx H1 I1 r1 q1=>aR (hb gV s1 Z H1 _ I1 q1) λu s2 zq=>bR zq λy H2 I2 r2 q2 =>
   aR (ho gV s2 Z H2 x y v u _ I2 r1 r2 q2) λc s3 zq=>bR zq λz H3 I3 r3 q3=>?_) hm
 obtain⟨k,e,q3⟩:=vt q3;subst e;cases r3
 exact abj ⟨H3,I3,q3⟩
def Ar (r r':R2)(ta tb tc:TE):TE:=λZ H Q=>ta Z H λx H1=>tb Z H1 λy H2=>r x y H2 λz H3=>∃ k,z=.bl k /\
 (if k=true then tc Z H3 λw' H4=>r' y w' H4 Q else Q (.bl false) H3)
theorem Js {op':CmpOp}{r':R2}(ho:bQ X (aaU op) r)(VM:bQ X (aaU op') r')(ha:PE X a ta)(hb:PE X b tb)(hc:PE X c tc)
   (hm:lastMarks [op,op'] [b,c]=false:=by with_unfolding_all rfl):PE X (.Compare a [op,op'] [b,c] pos) (Ar r r' ta tb tc):=by
 intro gV s Z H Q I h;refine Compare_chain (aR (ha gV s Z H _ I h) λv s1 zq=>bR zq λx H1 I1 r1 q1=>chain_link (aR (hb gV s1 Z H1 _ I1 q1) λu s2 zq=>bR zq λy H2 I2 r2 q2 =>
   aR (ho gV s2 Z H2 x y v u _ I2 r1 r2 q2) λd s3 ⟨z,H3,I3,r3,k,e,q3⟩=>?_)) hm
 subst e;cases r3
 refine abj ?_;cases k with
 | false=>exact ite_ff ⟨.bl false,H3,I3,rfl,q3⟩
 | true=>exact ite_tt (chain_last (aR (hc gV s3 Z H3 _ I3 q3) λw' s4 ⟨z',H4,I4,r4,q4⟩=>VM gV s4 Z H4 y z' u w' Q I4 r2 r4 q4))
theorem Hw {op':CmpOp}{r':R2}(ho:bQ X (aaU op) r)(VM:bQ X (aaU op') r')(ha:PE X a ta)(hb:PE X b tb)(hc:PE X c tc)
   (hm:lastMarks [op,op'] [b,c]=false:=by with_unfolding_all rfl):PT X (.Compare a [op,op'] [b,c] pos) (dC (Ar r r' ta tb tc)):=by
 intro gV s Z H Q I h;refine isTrue_chain (aR (ha gV s Z H _ I h) λv s1 zq=>bR zq λx H1 I1 r1 q1=>test_link (aR (hb gV s1 Z H1 _ I1 q1) λu s2 zq=>bR zq λy H2 I2 r2 q2 =>
   aR (ho gV s2 Z H2 x y v u _ I2 r1 r2 q2) λd s3 ⟨z,H3,I3,r3,k,e,q3⟩=>?_)) hm
 subst e;cases r3
 refine abj ?_;cases k with
 | false =>
   exact ite_ff ⟨H3,I3,q3⟩
 | true =>
   refine ite_tt (test_last (aR (hc gV s3 Z H3 _ I3 q3) λw' s4 zq=>bR zq λz' H4 I4 r4 q4=>aR (VM gV s4 Z H4 y z' u w' _ I4 r2 r4 q4) λd' s5 zq=>bR zq λz2 H5 I5 r5 q5=>?_));obtain⟨k2,e2,q5⟩:=vt q5;subst e2;cases r5
   exact abj ⟨H5,I5,q5⟩
def Jl (K:W.Frag)(x:V)(H:Hp)(k:Bool):Prop :=
 match x with
 | .aC=>k=false
 | .bl b=>k=b
 | .int i=>k=(i != 0)
 | .str y=>y.length<=aal/\k=((y.length:Int) != 0)
 | .byt y=>y.size<=aal/\k=((y.size:Int) != 0)
 | .ref p=>(∃ xs,ar K H p xs/\k = !xs.isEmpty)∨(∃ xs,aI K H p xs/\k = !xs.isEmpty)∨∃ kvs,H p=some (.dK kvs)/\k = !kvs.isEmpty
 | _=>False
theorem Ds (r:KV kvs vs):(!vs.isEmpty) = !kvs.isEmpty:=by
 cases r <;> rfl
theorem vA (r:aL xs its):(!its.toArray.isEmpty) = !xs.isEmpty:=by
 cases r <;> simp
theorem mK:(aal:Nat)<2 ^ 63:=by rw[aaI];decide
theorem OZ:Rp X (λx H Q=>∃ k,Jl X.K x H k/\Q k H):=by
 intro gV s Z H x v Q I rx h;obtain⟨k,e,q⟩:=h;have hl:=mK;have hs:aal=16777216:=aaI;cases x with
 | aC =>
   cases rx
   have e':k=false:=e;subst e';exact truthy_none ⟨H,I,q⟩
 | bl b =>
   cases rx
   have e':k=b:=e;subst e';exact abj ⟨H,I,q⟩
 | int i =>
   obtain⟨t,rfl⟩:=rx;have e':k=(i != 0):=e;subst e';exact PySem.P.truthy_int ⟨H,I,q⟩
 | str y =>
   obtain⟨t,rfl⟩:=rx;obtain⟨hy,e'⟩:y.length<=aal/\k=((y.length:Int) != 0):=e;subst e';exact PySem.P.truthy_str (by omega) ⟨H,I.tok _,q⟩
 | byt y =>
   obtain⟨t,rfl⟩:=rx;obtain⟨hy,e'⟩:y.size<=aal/\k=((y.size:Int) != 0):=e;subst e';exact W.truthy_bytes (by omega) ⟨H,I.tok _,q⟩
 | ref p =>
   cases rx
   have e':(∃ xs,ar X.K H p xs/\k = !xs.isEmpty)∨(∃ xs,aI X.K H p xs/\k = !xs.isEmpty)∨∃ kvs,H p=some (.dK kvs)/\k = !kvs.isEmpty:=e;rcases e' with ⟨xs,hx,e'⟩ | ⟨xs,hx,e'⟩ | ⟨kvs,hx,e'⟩
   . subst e';obtain⟨its,r,pl,hz⟩:=I.list hx;have S7:=r.length;exact wpAny_truthy_list pl.isList (by simp only[aao];omega) ⟨H,I.tok _,by rw[vA r];exact q⟩
   . subst e';obtain⟨its,r,pl,hz⟩:=I.tuple hx;have S7:=r.length;exact truthy_tuple pl (by simp only[aao];omega) ⟨H,I.tok _,by rw[vA r];exact q⟩
   . subst e';obtain⟨hz,hS,vs,r,m⟩:kvs.length<=aal/\(p == aci)=false/\∃ vs,KV kvs vs/\s.heap.DictOf (c4 X.prog X.w) p vs:=I.aA p _ hx;have S7:kvs.length=vs.length:=adC r;exact wpAny_truthy_dict hS m (by omega) ⟨H,I.tok _,by rw[Ds r];exact q⟩
 | _=>exact(show False from e).elim
theorem Ja (ha : PE X a ta)(he : ∀ TQ, isTrue a X.env TQ = (do let v <- TQ; standAt a.pos; holding [v] (truthy v))) :
   PT X a (λZ H Q=>ta Z H λx H'=>∃ k,Jl X.K x H' k/\Q k H'):=by
 intro gV s Z H Q I h;exact isTrue_plain (aR (ha gV s Z H _ I h) λv s1 zq=>bR zq λx H1 I1 r1 q1=>OZ gV s1 Z H1 x v Q I1 r1 q1) (he _)
theorem ED:bQ X (abD .Add) (λx y H Q=>∃ i j,x=.str i/\y=.str j/\i.length+j.length<=aal/\Q (.str (i++j)) H):=by
 intro gV s Z H x y v u Q I rx ry h;obtain⟨i,j,rfl,rfl,hz,q⟩:=h;obtain⟨t,rfl⟩:=rx;obtain⟨t',rfl⟩:=ry;exact add_str (λt' tk=>⟨.str (i++j),H,I.tok _,⟨_,rfl⟩,q⟩) hz
theorem vals1 (r:aL [x] us):∃ u,us=[u]/\RelV x u:=by
 cases r with
 | cons r1 r2=>cases r2;exact⟨_,rfl,r1⟩
theorem vals2 (r:aL [x,y] us):∃ u w',us=[u,w']/\RelV x u/\RelV y w':=by
 cases r with
 | cons r1 r2 =>
   cases r2 with
   | cons r3 r4=>cases r4;exact⟨_,_,rfl,r1,r3⟩
theorem Gu (hc:X.calm=true):cW X (.builtin "max") (λxs H Q=>∃ i j,xs=[.int i,.int j]/\Q (.int (if j > i then j else i)) H):=by
 intro gV s Z H xs us Q I r h;obtain⟨i,j,rfl,q⟩:=h;obtain⟨u,w',rfl,⟨t,rfl⟩,⟨t',rfl⟩⟩:=vals2 r;refine max_two_ints (I.ok.hd hc) λh' tk k=>⟨_,H,I.kept k,?_,q⟩;by_cases hj:j > i
 . rw[if_pos hj,if_pos hj];exact⟨_,rfl⟩
 . rw[if_neg hj,if_neg hj];exact⟨_,rfl⟩
theorem Fy:cW X (.type "int") (λxs H Q=>(∃ i,xs=[.int i]/\Q (.int i) H)∨∃ k,xs=[.bl k]/\Q (.int (if k then 1 else 0)) H):=by
 intro gV s Z H xs us Q I r h;rcases h with ⟨i,rfl,q⟩ | ⟨k,rfl,q⟩
 . obtain⟨u, rfl, t, rfl⟩ := vals1 r;exact call_int_int ⟨.int i,H,I,⟨_,rfl⟩,q⟩
 . obtain⟨u, rfl, r1⟩ := vals1 r;cases r1
   exact call_int_bool ⟨.int (if k then 1 else 0),H,I.tok _,⟨_,rfl⟩,q⟩
def Ov (K:W.Frag)(x:V)(H:Hp)(n:Nat):Prop :=
 match x with
 | .str y=>y.length<=aal/\n=y.length
 | .byt y=>y.size<=aal/\n=y.size
 | .ref p=>(∃ xs,ar K H p xs/\n=xs.length)∨∃ xs,aI K H p xs/\n=xs.length
 | _=>False
theorem Jg:cW X (.builtin "len") (λxs H Q=>∃ x n,xs=[x]/\Ov X.K x H n/\Q (.int n) H):=by
 intro gV s Z H xs us Q I r h;obtain⟨x,n,rfl,e,q⟩:=h;obtain⟨u,rfl,rx⟩:=vals1 r;have hl:=mK;have hs:aal=16777216:=aaI;cases x with
 | str y =>
   obtain⟨t,rfl⟩:=rx;obtain⟨hy,e'⟩:y.length<=aal/\n=y.length:=e;subst e';exact len_str (by omega) ⟨.int _,H,I.tok _,⟨_,rfl⟩,q⟩
 | byt y =>
   obtain⟨t,rfl⟩:=rx;obtain⟨hy,e'⟩:y.size<=aal/\n=y.size:=e;subst e';exact W.len_bytes (by omega) ⟨.int _,H,I.tok _,⟨_,rfl⟩,q⟩
 | ref p =>
   cases rx
   have e':(∃ xs,ar X.K H p xs/\n=xs.length)∨∃ xs,aI X.K H p xs/\n=xs.length:=e;rcases e' with ⟨xs,hx,e'⟩ | ⟨xs,hx,e'⟩
   . subst e';obtain⟨its,r',pl,hz⟩:=I.list hx;have S7:=r'.length;exact Calls.call_len_list pl.isList (by simp only[aao];omega) ⟨.int xs.length,H,I.tok _,⟨_,by simp only[aao];rw[S7]⟩,q⟩
   . subst e';obtain⟨its,r',pl,hz⟩:=I.tuple hx;have S7:=r'.length;exact len_tuple pl (by simp only[aao];omega) ⟨.int xs.length,H,I.tok _,⟨_,by simp only[aao];rw[S7]⟩,q⟩
 | _=>exact(show False from e).elim
end
structure sL (h:Heap)(x dx C:Addr)(mA:Str->Option Value):Prop where
 obj:h.get? x=some (ac8 C dx)
 ns:h.Ns1 dx mA
 ne:dx≠x
theorem E3 (n:h.Ns1 dx mA):∃ od,h.get? dx=some od/\∀ name,W.lookIn name od=some (mA name):=by
 obtain⟨o,es,ep,ho,hd,hk,_,hm⟩:=n;refine⟨o,ho,λname=>?_⟩;have e:=hm name;unfold nsFind findBy at e;rw[<- Array.find?_toList] at e;unfold W.lookIn;rw[hd];dsimp only;split
 . rename_i y q;rw[q] at e;exact congrArg some e
 . rename_i q;rw[q] at e;have a:es.toList.any (·.refKey)=false:=by
     rw[List.any_eq_false];intro y hy;obtain⟨z,t,hkey⟩:=hk y (Array.mem_toList_iff.mp hy);simp[DictEntry.refKey,hkey]
   have a' : ¬ es.toList.any (·.refKey)=true:=by rw[a];exact aap
   rw[if_neg a'];exact congrArg some e
variable {C:Addr}
theorem sL.look (I:sL h x dx C mA):∃ od,W.InstAt h x (ac8 C dx) C (some od)/\∀ name,W.lookIn name od=some (mA name) :=
 let ⟨od,ho,hl⟩:=E3 I.ns
 ⟨od,⟨I.obj,rfl,rfl,ho⟩,hl⟩
section
variable {prog:Program} {w:World} {A:Around} {E:Value->Shared->Prop} {s:Shared} {K:W.Frag} {x dx C f:Addr} {mA:Str->Option Value} {name:Str} {v:Value}
theorem get_map (X:K.In s.heap)(I:sL s.heap x dx C mA)(hg:W.plainGet K C name=true)(hh:W.hasDictIn K C=true)
   (ha:abg K (.ref C) name=some none) (hv:mA name=some v) (hv':W.handedIn v=true) (h:Q v { s with toks:=s.toks+1 }) :
   wpAny (model prog w) A (getAttr (.ref x) name expr) Q E s:=by
 obtain⟨od,J,hl⟩:=I.look;exact W.get_value X J (W.plainGet_of hg).1 (W.findObj_own hh ha rfl (by rw[hl,hv])) hv' h
theorem Hr (X:K.In s.heap)(I:sL s.heap x dx C mA)(hg:W.plainGet K C name=true)
   (hf:abg K (.ref C) name=some (some (.ref f))) (ht:W.isFn K (.ref f)=true) (hv:mA name=none) (h:Q (.ref f,[.ref x]) s) :
   wpAny (model prog w) A (acW (.ref x) name pl) Q E s:=by
 obtain⟨od,J,hl⟩:=I.look;exact W.method_fn X J (W.plainGet_of hg).1 (W.plainGet_of hg).2 hf (beq_iff_eq.mp ht) (by show(W.lookIn name od).map (·.isSome)=some false;rw[hl,hv];rfl) h
theorem qy (X:K.In s.heap)(I:sL s.heap x dx C mA)
   (hs:abg K (.ref C) "__setattr__" = some (some (.builtin "object.__setattr__"))) (hp:W.plainOver K C=true) (ht:W.takerIn K C name=some none) (hh:W.hasDictIn K C=true)
   (hw:PySem.Within mA ns) (hsz:ns.length<=aal)
   (h:∀ h',sL h' x dx C (λy=>if y=name then some v else mA y)->aca dx s.heap h'->Q () { s with heap:=h',toks:=s.toks+2 }) :
   wpAny (model prog w) A (setAttr (.ref x) name v) Q E s:=by
 obtain⟨od,J,hl⟩:=I.look;refine W.set_plain X J hs (W.osa_open (s:={ s with toks:=s.toks+1 }) (r:=none) X J hp ht λb=>?_);obtain⟨cd,hc,W4⟩:=W.any_some hh;have hx:s.heap.get? x=some ⟨.ref C,some dx,.plain,#[]⟩:=I.obj;refine aad (aaj (aad (aad (wpAny_loadPart hx (aad (W.Looks.here (s:={ s with toks:=s.toks+1 }) (W.looks_clsIn X hc) ?_))))));rw[W4];refine aaj (a:=some dx) (aad (aaj (aad ?_)));refine wpAny_nsSet1 (s:={ s with toks:=s.toks+1 }) I.ns λh' hn2 Ut=>?_;obtain⟨oD,esD,epD,hoD,hdD,hcD⟩:=hn2.count (PySem.Within.cons name v hw);refine aad (wpAny_lookBehind hoD (by rw[hdD];exact pastItsLine_dict (aaK hcD (by rw[aaG];omega))) ?_);exact aaj (h _ ⟨(Ut.2 _ (Ne.symm I.ne)).trans I.obj,hn2,I.ne⟩ Ut)
theorem Ip (X:K.In s.heap)(hm:W.makesIn K C=true)
   (hi:abg K (.ref C) "__init__" = some (some (.ref f))) (hf:W.typeIn K (.ref f)=some (.type "function"))
   (h:codeAny (model prog w) (A.under (.builtin "type.__call__" ⟨.ref C::vs,kw⟩)) (.call (.ref f) ⟨.ref (s.heap.objs.size+1)::vs,kw⟩) (W.InitBack (s.heap.objs.size+1) R)
     { s with heap:=(s.heap.push acb).push (ac8 C s.heap.objs.size) }) :
   codeAny (model prog w) A (.call (.ref C) ⟨vs,kw⟩) R s:=by
 obtain⟨hh,g,d,t,os⟩:=s;exact W.make_core (W.makes_of X hm) (W.looks_findIn X hi) (λself=>W.bind_fn X self hf) (.inl rfl) h
end
def au (f:Str)(v:V):List (Str×V)->List (Str×V)
 | []=>[(f,v)]
 | (g,x)::r=>if g=f then (g,v)::r else (g,x)::au f v r
theorem fM (f g : Str)(v : V) : ∀ fs : List (Str × V), (au f v fs).lookup g = if g = f then some v else fs.lookup g
 | [] => by
   show abC g [(f,v)]=_;by_cases h:g=f
   . have hb : (g == f) = true := beq_iff_eq.mpr h;simp only[abC,hb,if_pos h]
   . have hb : (g == f) = false := beq_eq_false_iff_ne.mpr h;simp only[abC,hb,if_neg h]
 | (k, x) :: r => by
   have ih:=fM f g v r;rw[show au f v ((k,x)::r)=(if k=f then (k,v)::r else (k,x)::au f v r) from rfl];by_cases hk:k=f
   . rw[if_pos hk];by_cases h:g=k
     . have hb : (g == k) = true := beq_iff_eq.mpr h;simp only[abC,hb,if_pos (h.trans hk)]
     . have hb : (g == k) = false := beq_eq_false_iff_ne.mpr h;simp only[abC,hb,if_neg (λe:g=f=>h (e.trans hk.symm))]
   . rw[if_neg hk];by_cases h:g=k
     . have hb : (g == k) = true := beq_iff_eq.mpr h;simp only[abC,hb,if_neg (λe:g=f=>hk (h.symm.trans e))]
     . have hb : (g == k) = false := beq_eq_false_iff_ne.mpr h;simp only[abC,hb];exact ih
theorem oW (f:Str)(v:V):∀ fs:List (Str×V),f∈(au f v fs).map (·.1)/\∀ g,g∈fs.map (·.1)->g∈(au f v fs).map (·.1)
 | []=>⟨by simp[au],λg h=>by simp at h⟩
 | (k, x) :: r => by
   obtain⟨i1,i2⟩:=oW f v r;rw[show au f v ((k,x)::r)=(if k=f then (k,v)::r else (k,x)::au f v r) from rfl];by_cases hk:k=f
   . rw[if_pos hk];subst hk;exact⟨by simp,λg h=>by simpa using h⟩
   . rw [if_neg hk];refine ⟨?_,λg h=>?_⟩
     . rw[aaQ];exact abb _ i1
     . rw[aaQ] at h ⊢;rcases List.mem_cons.mp h with e | e
       . exact List.mem_cons.mpr (.inl e)
       . exact abb _ (i2 g e)
theorem lB (f:Str)(v:V):∀ fs:List (Str×V),(au f v fs).length<=fs.length+1
 | []=>by simp[au]
 | (k, x) :: r => by
   have ih:=lB f v r;rw[show au f v ((k,x)::r)=(if k=f then (k,v)::r else (k,x)::au f v r) from rfl];by_cases hk:k=f
   . rw[if_pos hk,aaG,aaG];omega
   . rw[if_neg hk,aaG,aaG];omega
theorem fh.some_of {v:V}{o:Option Value}(r:fh (some v) o):∃ u,o=some u/\RelV v u:=by
 cases o with
 | none=>exact(show False from r).elim
 | some u=>exact⟨u,rfl,r⟩
theorem fh.none_of {o:Option Value}(r:fh none o):o=none:=by
 cases o with
 | none=>rfl
 | some u=>exact(show False from r).elim
theorem GW (r:RelV v u):W.handedIn u=true:=by
 cases v with
 | aC=>cases (show u=abq from r);rfl
 | bl b=>cases (show u=adi b from r);rfl
 | int i=>obtain⟨t,e⟩:=(show ∃ t,u=abt i t from r);cases e;rfl
 | str x=>obtain⟨t,e⟩:=(show ∃ t,u=adF x t from r);cases e;rfl
 | byt b=>obtain⟨t,e⟩:=(show ∃ t,u=Value.bytes b t from r);cases e;rfl
 | zH b=>obtain⟨t,e⟩:=(show ∃ t,u=Value.float b t from r);cases e;rfl
 | ref a=>cases (show u=Tg a from r);rfl
 | ty n=>cases (show u=acZ n from r);rfl
section
variable {P:Program} {w:World} {H H':Hp} {h h':Heap} {a C dx:Addr} {fs U_:List (Str×V)}
theorem qx (aA:dh P w H h)(e:H a=some (.ins C dx fs)):∃ mA,sL h a dx C mA/\(∀ f,fh (fs.lookup f) (mA f))/\PySem.Within mA (fs.map (·.1))/\fs.length<=1000/\H dx=some (.own a):=by
 obtain⟨d,z,ne,ob,mA,n,r,q⟩:=(show b8 P w H h a (.ins C dx fs) from aA a _ e)
 exact⟨mA,⟨ob,n,ne⟩,r,q,z,d⟩
end
structure er (K:W.Frag)(C:Addr):Prop where
 pg:W.plainGet K C adn=true
 hd:W.hasDictIn K C=true
 po:W.plainOver K C=true
 sa:abg K (.ref C) "__setattr__" = some (some (.builtin "object.__setattr__"))
theorem er.get {K:W.Frag}(c:er K C)(f:Str):W.plainGet K C f=true:=c.pg
def a8 (K:W.Frag)(C:Addr)(f:Str):Prop:=abg K (.ref C) f=some none
theorem a8.PJ {K:W.Frag}{f:Str}(n:a8 K C f):W.takerIn K C f=some none:=by
 unfold W.takerIn;rw[show abg K (.ref C) f=some none from n];rfl
structure Aj (K:W.Frag)(C:Addr)(m:Str)(f:Addr):Prop where
 at_:abg K (.ref C) m=some (some (.ref f))
 fn:W.isFn K (.ref f)=true
 kp:abh K (.ref f)=true
section
variable {X:Cx} {gV:List (Addr×Obj)} {Z : St} {H:Hp} {s:Shared} {a C dx:Addr} {fs:List (Str×V)} {f:Str} {v:V} {A:Around} {E:Value->Shared->Prop}
theorem DV {b:Bool}{Q:Value->Shared->Prop}(I:Inv X gV Z H s)(e:H a=some (.ins C dx fs))(c:er X.K C)(n:a8 X.K C f)(l:fs.lookup f=some v)
   (h:∀ u s',Inv X gV Z H s'->RelV v u->Q u s'):wpAny (model X.prog X.w) A (getAttr (.ref a) f b) Q E s:=by
 obtain⟨mA,O,r,_,_,_⟩:=qx I.aA e;obtain⟨u,hu,ru⟩:=fh.some_of (v:=v) (o:=mA f) (by rw[<- l];exact r f);exact get_map I.df O (c.get f) c.hd n hu (GW ru) (h u _ (I.tok _) ru)
theorem uI (I:Inv X gV Z H s)(e:H a=some (.ins C dx fs))(c:er X.K C)(k:Aj X.K C m g)(l:fs.lookup m=none)
   (h:Q (.ref g,[.ref a]) s):wpAny (model X.prog X.w) A (acW (.ref a) m pl) Q E s:=by
 obtain⟨mA,O,r,_,_,_⟩:=qx I.aA e;have hn:mA m=none:=fh.none_of (by rw[<- l];exact r m);exact Hr I.df O (c.get m) k.at_ k.fn hn h
theorem DK (I:Inv X gV Z H s)(e:H a=some (.ins C dx fs))(c:er X.K C)(n:a8 X.K C f)(hl:fs.length<1000)(ry:RelV y u)
   (h:∀ s',Inv X gV Z (upd H a (.ins C dx (au f y fs))) s'->Q () s'):wpAny (model X.prog X.w) A (setAttr (.ref a) f u) Q E s:=by
 obtain⟨mA,O,r,wi,_,ho⟩:=qx I.aA e;have hz:(fs.map (·.1)).length<=aal:=by rw[aac,aaI];omega
 refine qy I.df O c.sa c.po n.PJ c.hd wi hz λh' O' sb=>h _ ?_;have hd:∃ o,h'.get? dx=some o:=let ⟨o,_,_,e',_⟩:=O'.ns;⟨o,e'⟩;refine I.write (x:=a) (e:=dx) (by rw[e];exact aan) (.inr ho) (λb q hb z=>(sb.2 b hb).trans z) hd ?_;refine⟨by rw[ak O.ne];exact ho,?_,O.ne,O'.obj,_,O'.ns,λg=>?_,λg hg=>?_⟩
 . have:=lB f y fs;omega
 . show fh ((au f y fs).lookup g) (if g = f then some u else mA g);rw[fM];by_cases q:g=f
   . rw[if_pos q,if_pos q];exact ry
   . rw[if_neg q,if_neg q];exact r g
 . by_cases q:g=f
   . rw[q];exact(oW f y fs).1
   . refine(oW f y fs).2 g (wi g λz=>hg ?_);show(if g=f then some u else mA g)=none;rw[if_neg q];exact z
theorem Inv.made (I:Inv X gV Z H s):Inv X gV Z (upd (upd H s.heap.objs.size (.own (s.heap.objs.size+1))) (s.heap.objs.size+1) (.ins C s.heap.objs.size []))
   { s with heap:=(s.heap.push acb).push (ac8 C s.heap.objs.size) }:=by
 have e1:(s.heap.push acb).get? s.heap.objs.size=some acb:=aat s.heap rfl;have e2:((s.heap.push acb).push (ac8 C s.heap.objs.size)).get? (s.heap.objs.size+1)=some (ac8 C s.heap.objs.size):=by
   have:=aat (s.heap.push acb) (o:=ac8 C s.heap.objs.size) rfl
   rwa [abP] at this
 have e3:(s.heap.push acb).Ns s.heap.objs.size (λ_=>none):=⟨acb,#[],_,e1,rfl,(λe he=>absurd he (by simp)),λ_=>rfl⟩
 have I1:=I.laid (a:=s.heap.objs.size) (o:=.own (s.heap.objs.size+1)) (h':=s.heap.push acb) (t':=s.toks) (λb u q=>aaf _ q) (aag _) ⟨_,e1⟩;refine I1.laid (a:=s.heap.objs.size+1) (o:=.ins C s.heap.objs.size []) (t':=s.toks) (λb u q=>aaf _ q) (acx (abP _ _)) ?_;have ne:s.heap.objs.size≠s.heap.objs.size+1:=aaw (ab8 _);refine⟨by rw[ak ne,aa],aaT _,ne,e2,λ_=>none,(Heap.Ns1.of_empty e3).at λo q=>aaf _ q,λ_=>aan,λy hy=>absurd rfl hy⟩
theorem LN {f:Str}{s:Shared}(hb:ab3 e f env (eval e env)=eval e env)
   (h:wpAny (model prog w) A (eval e env) (λo s₁=>wpAny (model prog w) A (getAttr o f true) Q E s₁) E s):wpAny (model prog w) A (eval (.Attribute e f pos) env) Q E s :=
 Attribute_any_ h (by rw[arm_eval_Attribute,hb])
end
def Pk (K:W.Frag)(f:Str):V->Hp->VK->Prop:=λx H1 Q=>∃ a C dx fs v,x=.ref a/\H1 a=some (.ins C dx fs)/\er K C/\a8 K C f/\fs.lookup f=some v/\Q v H1
@[reducible] def Bh (K:W.Frag) (ta:TE) (f:Str):TE:=λZ H Q=>ta Z H λx H1=>Pk K f x H1 Q
def JO (K:W.Frag)(f:Str)(y:V)(D:Ends)(Z : St):V->Hp->Prop:=λx H2=>∃ a C dx fs,x=.ref a/\H2 a=some (.ins C dx fs)/\er K C/\a8 K C f/\fs.length<1000/\D.nx Z (upd H2 a (.ins C dx (au f y fs)))
@[reducible] def NH (K:W.Frag) (ta tv:TE) (f:Str):TS:=λD Z H=>tv Z H λy H1=>ta Z H1 λx H2=>JO K f y D Z x H2
section
variable {X:Cx} {o e value:Expr} {f:Str} {pos TF T4:Pos} {ta tv:TE}
theorem OA (he:PE X e ta)(hb:ab3 e f X.env (eval e X.env)=eval e X.env):PE X (.Attribute e f pos) (Bh X.K ta f):=by
 intro gV s Z H Q I h;refine LN hb (aR (he gV s Z H _ I h) λu s1 zq=>?_);obtain⟨x,H1,I1,rx,a,C,dx,fs,v,ex,ea,c,n,l,q⟩:=zq;subst ex;obtain rfl:u=Tg a:=rx;exact DV I1 ea c n l λu' s2 I2 ru=>⟨v,H1,I2,ru,q⟩
theorem N4 (ha:PE X o ta)(hv:PE X value tv)(hs:acV value (some (.Attribute o f TF)) pos.line X.env=pure false):PS X (.Assign [.Attribute o f TF] value pos) (NH X.K ta tv f):=by
 intro gV s Z H D I h;refine plainObj_wpAny_Assign_Attribute (aR (hv gV s Z H _ I h) λu s1 zq=>bR zq λy H1 I1 ry q=>aR (ha gV s1 Z H1 _ I1 q) λov s2 zq=>?_) hs;obtain⟨x,H2,I2,rx,a,C,dx,fs,ex,ea,c,n,l,q2⟩:=zq;subst ex;obtain rfl:ov=Tg a:=rx;exact DK I2 ea c n l ry λs3 I3=>⟨Z,_,I3,q2⟩
end
section
variable {X:Cx} {gV:List (Addr×Obj)} {Z : St} {H:Hp} {s:Shared} {A:Around} {E:Value->Shared->Prop} {Q:Value->Shared->Prop} {c:Value} {b:Bool}
inductive bP (K:W.Frag) (H:Hp):V->Value->Prop where
 | aC:bP K H .aC (.type "NoneType")
 | bl (x:Bool):bP K H (.bl x) (.type "bool")
 | int (i:Int):bP K H (.int i) (.type "int")
 | str (x:Str):bP K H (.str x) (.type "str")
 | zH (x:UInt64):bP K H (.zH x) (.type "float")
 | lst {a:Addr} {xs:List V} (e:H a=some (.lst xs)):bP K H (.ref a) (.type "list")
 | ky {a:Addr} {o:Obj} {xs:List V} (e:H a=some (.ky o (.lst xs))):bP K H (.ref a) (.type "list")
 | tup {a:Addr} {xs:List V} (e:H a=some (.tup xs)):bP K H (.ref a) (.type "tuple")
 | dK {a:Addr} {kvs:List (Key×V)} (e:H a=some (.dK kvs)):bP K H (.ref a) (.type "dict")
 | dT {a:Addr} {kvs:List (List Key×V)} (e:H a=some (.dT kvs)):bP K H (.ref a) (.type "dict")
 | ins {a C dx:Addr} {fs:List (Str×V)} (e:H a=some (.ins C dx fs)) (cl:er K C) (ha:abg K (.ref C) "__class__" = some (some (.builtin "object.__class__")))
     (hn:W.specialIn K (.builtin "object.__class__") "__get__" = some (some (.builtin "getset_descriptor.__get__"))) (htk:W.takesIn K (.builtin "object.__class__")=some true)
     (hm:W.mroIn K C (.type "object")=some true):bP K H (.ref a) (.ref C)
theorem Gw (I:Inv X gV Z H s)(rx:RelV x u)(ty:bP X.K H x t)(e:acj X.K t c=some b)(h:∀ tk,Q (.bool b) { s with toks:=tk }) :
   wpAny (model X.prog X.w) A (call (.builtin "isinstance") [u,c]) Q E s:=by
 cases ty with
 | aC=>cases (show u=abq from rx);exact ack W.kitx_none I.df aan e (λz=>nomatch z) h
 | bl y=>cases (show u=adi y from rx);exact ack W.kitx_bool I.df aan e (λz=>nomatch z) h
 | int i=>obtain⟨t,q⟩:=(show ∃ t,u=abt i t from rx);cases q;exact ack W.kitx_int I.df aan e (λz=>nomatch z) h
 | str y=>obtain⟨t,q⟩:=(show ∃ t,u=adF y t from rx);cases q;exact ack W.kitx_str I.df aan e (λz=>nomatch z) h
 | zH y=>obtain⟨t,q⟩:=(show ∃ t,u=Value.float y t from rx);cases q;exact ack W.kitx_float I.df aan e (λz=>nomatch z) h
 | @lst a xs ea =>
   cases (show u=Tg a from rx)
   obtain⟨_,_,n,_,h1⟩:=(show b8 X.prog X.w H s.heap a (.lst xs) from I.aA a _ ea)
   exact ack W.kitx_list I.df ⟨_,h1,rfl⟩ e (λz=>nomatch z) h
 | @ky a ob xs ea =>
   cases (show u=Tg a from rx)
   obtain⟨_,_,_,n,_,h1⟩:=(show b8 X.prog X.w H s.heap a (.ky ob (.lst xs)) from I.aA a _ ea)
   exact ack W.kitx_list I.df ⟨_,h1,rfl⟩ e (λz=>nomatch z) h
 | @tup a xs ea =>
   cases (show u=Tg a from rx)
   obtain⟨_,_,_,p⟩:=(show b8 X.prog X.w H s.heap a (.tup xs) from I.aA a _ ea)
   obtain⟨o,h1,h2,_⟩:=p;exact ack W.kitx_tuple I.df ⟨o,h1,h2⟩ e (λz=>nomatch z) h
 | @dK a kvs ea =>
   cases (show u=Tg a from rx)
   obtain⟨_,_,vs,_,p⟩:=(show b8 X.prog X.w H s.heap a (.dK kvs) from I.aA a _ ea)
   obtain⟨o,es,ep,h1,h2,_⟩:=p;exact ack W.kitx_dict I.df ⟨o,h1,h2.1⟩ e (λz=>nomatch z) h
 | @dT a kvs ea =>
   cases (show u=Tg a from rx)
   obtain⟨_,_,xs,_,o,es,ep,h1,h2,_⟩:=(show b8 X.prog X.w H s.heap a (.dT kvs) from I.aA a _ ea)
   exact ack W.kitx_dict I.df ⟨o,h1,h2.1⟩ e (λz=>nomatch z) h
 | @ins a C dx fs ea cl ha hn htk hm =>
   cases (show u=Tg a from rx)
   obtain⟨mA,O,_⟩:=qx I.aA ea;obtain⟨od,J,_⟩:=O.look;exact ack (W.kitx_own (cl.get _) cl.hd ha hn htk hm) I.df J e (λz=>nomatch z) h
end
structure bH (k:Nat)(A:Around):Prop where
 hd:A.handled=none
 dp:A.depth+1*k+5<recursionLimit
 un:A.units+16*k+200<cLine
 gd:A.guards=some []
theorem bH.mono (r:bH k A)(h:j<=k):bH j A:=⟨r.hd,by have:=r.dp;omega,by have:=r.un;omega,r.gd⟩
theorem bH.deeper (r:bH (k+1) A)(env:Env):bH k (A.deeper env) :=
 ⟨r.hd,by have:=r.dp;show A.depth+1+1*k+5<_;omega,by have:=r.un;show A.units+3+16*k+200<_;omega,r.gd⟩
variable {kw:List (Str×Value)}
theorem EG:(A.under (.builtin "type.__call__" ⟨.ref C::us,kw⟩)).depth=A.depth+1:=by
 first | rfl | simp[Around.under,Code.weight,Code.isCreation,Code.isGuard,Code.isCaller,Code.frames,Code.isFrame,guardIds]
theorem EJ:(A.under (.builtin "type.__call__" ⟨.ref C::us,kw⟩)).units=A.units+1:=by
 first | rfl | simp[Around.under,Code.cUnits,Code.frames,Code.isFrame]
theorem Ce:(A.under (.builtin "type.__call__" ⟨.ref C::us,kw⟩)).guards=A.guards:=by
 have e:(Code.builtin "type.__call__" ⟨.ref C::us,kw⟩).guards=[]:=by first | rfl | simp[Code.guards,Code.isGuard,guardIds]
 simp only[Around.under,e,pushGuards]
theorem bH.make (r:bH (k+1) A)(C:Addr)(us:List Value)(kw:List (Str×Value)):bH k (A.under (.builtin "type.__call__" ⟨.ref C::us,kw⟩)) :=
 ⟨r.hd,by have:=r.dp;rw[EG];omega,by have:=r.un;rw[EJ];omega,by rw[Ce];exact r.gd⟩
theorem bH.depth (r:bH k A):A.depth<recursionLimit:=by have:=r.dp;omega
theorem bH.units (r:bH k A):A.units+64<cLine:=by have:=r.un;omega
@[reducible] def aQ:TA:=λ_ H Q=>Q [] H
@[reducible] def ay (ta:TE) (tr:TA):TA:=λZ H Q=>ta Z H λx H1=>tr Z H1 λxs H2=>Q (x::xs) H2
section
variable {X:Cx} {e:Expr} {es:List Expr} {te:TE} {t:TA} {pos:Pos}
theorem aD:PA X [] aQ:=λ_ _ _ _ H Q I h=>Calls.spliced_nil ⟨[],H,I,.nil,h⟩
theorem aj (ha:PE X e te)(hr:PA X es t)(hs:aai (e::es) X.env=(false,eval e X.env)::aai es X.env:=by rfl):PA X (e::es) (ay te t):=by
 intro pos gV s Z H Q I h;rw[hs];show wpAny _ _ (spliced ((false,eval e X.env)::backTo pos (aai es X.env))) _ _ s;refine adL (aR (ha gV s Z H _ I h) λu s1 zq=>bR zq λx H1 I1 r1 q1=>?_);exact aR (hr pos gV s1 Z H1 _ I1 q1) λus s2 zq=>bR zq λxs H2 I2 r2 q2=>⟨x::xs,H2,I2,.cons r1 r2,q2⟩
@[reducible] def j9 (t:TA):TE:=λZ H Q=>t Z H λxs H1=>Dw xs 100 (∀ p,H1 p=none->Q (.ref p) (upd H1 p (.tup xs)))
@[reducible] def pj (t:TA):TE:=λZ H Q=>t Z H λxs H1=>Dw xs 100 (∀ p,H1 p=none->Q (.ref p) (upd H1 p (.lst xs)))
theorem oR {x1}(h:PA X es t):PE X (.Tuple es x1 pos) (j9 t):=by
 intro gV s Z H Q I hq;refine wpAny_Tuple_spliced (aR (h pos gV s Z H _ I hq) λus s1 zq=>bR zq λxs H1 I1 r z0=>?_);obtain⟨z1,q⟩:=qM z0;have z:xs.length<=aal:=aaK z1 (by rw[aaI];decide);refine⟨by rw[<- r.length];exact z,?_⟩;have hf:H1 s1.heap.objs.size=none:=I1.aA.fresh (aag _);refine⟨.ref s1.heap.objs.size,upd H1 s1.heap.objs.size (.tup xs),I1.laid (t':=s1.toks) (λb u e=>aaf _ e) (aag _) ?_,rfl,q _ hf⟩;exact⟨z,us,r,⟨_,aat _ rfl,rfl,_,rfl⟩⟩
theorem lW (h:PA X es t):PE X (.List es pos) (pj t):=by
 intro gV s Z H Q I hq;refine wpAny_List_spliced (aR (h pos gV s Z H _ I hq) λus s1 zq=>bR zq λxs H1 I1 r z0=>?_);obtain⟨z1,q⟩:=qM z0;have z:xs.length<=aal:=aaK z1 (by rw[aaI];decide);refine⟨by rw[<- r.length];exact z,?_⟩;have hf:H1 s1.heap.objs.size=none:=I1.aA.fresh (aag _);refine⟨.ref s1.heap.objs.size,upd H1 s1.heap.objs.size (.lst xs),I1.laid (t':=s1.toks) (λb u e=>aaf _ e) (aag _) ?_,rfl,q _ hf⟩;exact⟨z,us,0,r,aat _ rfl⟩
end
abbrev Sp:=List V->Hp->VK->XK->Prop
abbrev dM:=List Env->Hp->Shared->XK->Value->Shared->Prop
structure sC (P:Program)(w:World)(K:W.Frag)(mg:Str->Option Value)(base:Heap)(A:Around)(outer:List Env)(s:Shared)(H:Hp):Prop where
 frames:A.frames=some outer
 mod:Mod K mg base
 bs:∀ b o,base.get? b=some o->s.heap.get? b=some o/\H b=none
 rH:base.objs.size<=s.heap.objs.size
 gv:s.heap.FunFrames base outer
 uR:∀ b∈cS outer,H b=none
 aA:dh P w H s.heap
 bare:AllBare s.gens
def CE (outer:List Env)(P:Program)(w:World)(H:Hp)(s:Shared)(Q:VK)(u:Value)(s':Shared):Prop :=
 ∃ v H',s'.os=s.os/\AllBare s'.gens/\Un (cS outer) [] H H' s.heap s'.heap/\dh P w H' s'.heap/\RelV v u/\Q v H'
def CR (CX:dM)(outer:List Env)(P:Program)(w:World)(H:Hp)(s:Shared)(Q:VK)(E:XK)(r:Result)(s':Shared):Prop :=
 match r with
 | .ok (.ret u)=>CE outer P w H s Q u s'
 | .ok _=>False
 | .error e=>CX outer H s E e s'
structure c7 (P:Program)(w:World)(K:W.Frag)(mg:Str->Option Value)(base:Heap)(CX:dM)(k:Nat)(f:Addr)(fd:aa3)(ps:List Str)(sp:Sp):Prop where
 len:∀ vs H Q E,sp vs H Q E->vs.length=ps.length
 run:∀ (A:Around) (outer:List Env) (s:Shared) (H:Hp) (args:Args) (us:List Value) (vs:List V) (Q:VK) (E:XK),bH k A->sC P w K mg base A outer s H->BindsTo s fd args (ps.zip us)->aL vs us->sp vs H Q E ->
   codeAny (model P w) A (.call (.ref f) args) (CR CX outer P w H s Q E) s
theorem c7.mono {P:Program}{w:World}{K:W.Frag}{mg:Str->Option Value}{base:Heap}{CX:dM}{j k:Nat}{f:Addr}{fd:aa3}{ps:List Str}{sp:Sp}(F:c7 P w K mg base CX j f fd ps sp)(h:j<=k) :
   c7 P w K mg base CX k f fd ps sp:=⟨F.len,λA outer s H args us vs Q E hr=>F.run A outer s H args us vs Q E (hr.mono h)⟩
theorem sC.make {P:Program}{w:World}{K:W.Frag}{mg:Str->Option Value}{base:Heap}{outer:List Env}(e:sC P w K mg base A outer s H)(C:Addr)(us:List Value)(kw:List (Str×Value)) :
   sC P w K mg base (A.under (.builtin "type.__call__" ⟨.ref C::us,kw⟩)) outer s H:=⟨by first | exact e.frames | (simpa [Around.under,Code.envs,Code.isFrame,pushEnvs] using e.frames),e.mod,e.bs,e.rH,e.gv,e.uR,e.aA,e.bare⟩
section
variable {X:Cx} {gV:List (Addr×Obj)} {Z : St} {H:Hp} {s s':Shared}
theorem Inv.AS (I:Inv X gV Z H s):sC X.prog X.w X.K X.mg X.base X.A X.stack s H :=
 ⟨I.ok.frames,I.ok.mod,I.bs,aaK I.ok.rH I.sz,I.stack,I.mv,I.aA,I.bare⟩
theorem Inv.after (I:Inv X gV Z H s)(h:CE X.stack X.prog X.w H s Q u s'):EP X gV Z Q u s':=by
 obtain⟨v,H',os,bare,un,aA,r,q⟩:=h;obtain⟨hh,g,d,t,os'⟩:=s';obtain rfl:os'=s.os:=os;exact⟨v,H',I.call (h':=hh) (g':=g) (d':=d) (t':=t) (ch:=[]) un aA bare (λb z=>absurd z (by simp)),r,q⟩
end
def J0 (sp:Sp)(Vi:List V)(E:XK)(t:TA):TE:=λZ H Q=>t Z H λvs H1=>sp (vs++Vi) H1 Q E
def Ky (C:Addr)(sp:Sp)(Vi:List V)(E:XK)(t:TA):TE:=λZ H Q=>t Z H λvs H1=>∀ x dx,H1 x=none->H1 dx=none->dx≠x ->
 sp (.ref x::(vs++Vi)) (upd (upd H1 dx (.own x)) x (.ins C dx [])) (λv H2=>v=.aC/\Q (.ref x) H2) E
def Binds (K:W.Frag)(fd:aa3)(ps:List Str)(ds:List Value):Prop :=
 ∀ (s:Shared) (us:List Value),K.In s.heap->(us++ds).length=ps.length->BindsTo s fd ⟨us,[]⟩ (ps.zip (us++ds))
theorem Binds.all {K:W.Frag}{fd:aa3}{ps:List Str}(h:∀ us:List Value,us.length=ps.length->abW fd ⟨us,[]⟩=pure (ps.zip us)):Binds K fd ps []:=λs us _ hl=>by
 rw[aaL] at hl ⊢;exact .of_eq (h us hl)
def dH (CX:dM)(X:Cx)(E:XK):Prop:=∀ (gV:List (Addr×Obj)) (Z : St) (H:Hp) (s:Shared) (e:Value) (s':Shared),Inv X gV Z H s->CX X.stack H s E e s'->X.xe e s'
section
variable {X:Cx} {CX:dM} {k:Nat} {f C:Addr} {fd:aa3} {ps:List Str} {sp:Sp} {Vi:List V} {ds:List Value} {E:XK} {x m:Str} {p pos Tc:Pos} {e o:Expr} {es:List Expr} {ta:TE} {t:TA}
theorem AO {gV:List (Addr×Obj)}{Z : St}{H:Hp}{s:Shared}{us:List Value}(F:c7 X.prog X.w X.K X.mg X.base CX k f fd ps sp)(hr:bH k X.A)(hb:Binds X.K fd ps ds)(hd:aL Vi ds)(hx:dH CX X E)
   (I:Inv X gV Z H s) (r:aL vs us) (h:sp (vs++Vi) H Q E):wpAny (model X.prog X.w) X.A (call (.ref f) us) (EP X gV Z Q) X.xe s:=by
 have r2:aL (vs++Vi) (us++ds):=r.append hd;have hl:(us++ds).length=ps.length:=by rw[<- r2.length];exact F.len _ _ _ _ h
 refine acP (ab0 (F.run X.A X.stack s H ⟨us,[]⟩ (us++ds) (vs++Vi) Q E hr I.AS (hb s us I.df hl) r2 h) λr s' hq=>?_);cases r with
 | error e=>exact hx gV Z H s e s' I hq
 | ok fl =>
   cases fl with
   | ret u=>exact I.after hq
   | next=>exact aaV hq
   | brk=>exact aaV hq
   | cont=>exact aaV hq
theorem LK (F:c7 X.prog X.w X.K X.mg X.base CX k f fd ps sp)(hr:bH k X.A)(hg:Gl X x)(hm:X.mg x=some (.ref f))(hk:abh X.K (.ref f)=true)(hb:Binds X.K fd ps ds)(hd:aL Vi ds)(hx:dH CX X E)
   (ha:PA X (e::es) t) (Tw:(x == ("__debug__" : Str))=false:=by decide) (he:aai (e::es) X.env=(false,eval e X.env)::aai es X.env:=by rfl) (S9:(backTo pos (aai es X.env)).any (·.1)=false:=by rfl) :
   PE X (.Call (.Name x p) (e::es) [] pos) (J0 sp Vi E t):=by
 intro gV s Z H Q I h;refine abf (eS I hg hm ?_ Tw);refine adw (h₀:=X.base) I.ok.mod.uL hk (aR (ha pos gV s Z H _ I h) λus s1 zq=>bR zq λvs H1 I1 r q=>⟨I1.df,?_⟩) he S9;exact AO F hr hb hd hx I1 r q
structure Mk (K:W.Frag)(C f:Addr):Prop where
 makes:W.makesIn K C=true
 init:abg K (.ref C) "__init__" = some (some (.ref f))
 fn:W.isFn K (.ref f)=true
 kp:abh K (.ref C)=true
theorem JB {gV:List (Addr×Obj)}{Z : St}{H:Hp}{s:Shared}{us:List Value}(M:Mk X.K C f)(F:c7 X.prog X.w X.K X.mg X.base CX k f fd ps sp)(hr:bH (k+1) X.A)(hb:Binds X.K fd ps ds)(hd:aL Vi ds)
   (hx:dH CX X E) (I:Inv X gV Z H s) (r:aL vs us)
   (h:∀ x dx,H x=none->H dx=none->dx≠x->sp (.ref x::(vs++Vi)) (upd (upd H dx (.own x)) x (.ins C dx [])) (λv H2=>v=.aC/\Q (.ref x) H2) E) :
   wpAny (model X.prog X.w) X.A (call (.ref C) us) (EP X gV Z Q) X.xe s:=by
 have hq:=h (s.heap.objs.size+1) s.heap.objs.size (I.aA.fresh (abm _)) (I.aA.fresh (aag _)) (aaw (ab8 _));have I2:=Inv.made (C:=C) I;have r2:aL (V.ref (s.heap.objs.size+1)::(vs++Vi)) (Tg (s.heap.objs.size+1)::(us++ds)):=.cons rfl (r.append hd);have hl:(Tg (s.heap.objs.size+1)::us++ds).length=ps.length:=by
   have e:=r2.length;rw[F.len _ _ _ _ hq] at e;exact e.symm
 refine acP (Ip (f:=f) I.df M.makes M.init (beq_iff_eq.mp M.fn) (ab0 (F.run _ X.stack _ _ ⟨Tg (s.heap.objs.size+1)::us,[]⟩ (Tg (s.heap.objs.size+1)::(us++ds)) _ _ E (hr.make C us [])
   (I2.AS.make C us []) (hb _ (Tg (s.heap.objs.size+1)::us) I2.df hl) r2 hq) λr s' hq'=>?_))
 cases r with
 | error e=>exact hx gV Z _ _ e s' I2 hq'
 | ok fl =>
   cases fl with
   | ret u =>
     obtain⟨v,H',I3,rv,ev,q3⟩:=I2.after hq';subst ev;exact⟨rv,⟨V.ref (s.heap.objs.size+1),H',I3,rfl,q3⟩⟩
   | next=>exact aaV hq'
   | brk=>exact aaV hq'
   | cont=>exact aaV hq'
theorem Dh (M:Mk X.K C f)(F:c7 X.prog X.w X.K X.mg X.base CX k f fd ps sp)(hr:bH (k+1) X.A)(hg:Gl X x)(hm:X.mg x=some (.ref C))(hb:Binds X.K fd ps ds)(hd:aL Vi ds)(hx:dH CX X E)
   (ha:PA X (e::es) t) (Tw:(x == ("__debug__" : Str))=false:=by decide) (he:aai (e::es) X.env=(false,eval e X.env)::aai es X.env:=by rfl) (S9:(backTo pos (aai es X.env)).any (·.1)=false:=by rfl) :
   PE X (.Call (.Name x p) (e::es) [] pos) (Ky C sp Vi E t):=by
 intro gV s Z H Q I h;refine abf (eS I hg hm ?_ Tw);refine adw (h₀:=X.base) I.ok.mod.uL M.kp (aR (ha pos gV s Z H _ I h) λus s1 zq=>bR zq λvs H1 I1 r q=>⟨I1.df,?_⟩) he S9;exact JB M F hr hb hd hx I1 r q
end
structure aq (N P:List Str)(sc:Scope):Prop where
 kind:sc.kind=.function
 co:sc.isCoroutine=false
 gen:sc.isGenerator=false
 nd:N.Nodup
 pre:N.take P.length=P
 par:∀ x∈P,sc.names.lookup x=some .local∨sc.names.lookup x=some .cell
 Pd:∀ y∈sc.names,y.2≠.free
variable {x:Str} {kindOf:Str->Option NameKind}
theorem xx:∀ {binds:List (Str×Value)} {m:Str->Option Value},(∀ v,(x,v) ∉ binds)->bindL kindOf binds m x=m x
 | [],_,_=>rfl
 | (n, v) :: r, m, h => by
   unfold bindL;rw[xx λw hw=>h w (abb _ hw)];split
   . have : x ≠ n := by rintro rfl; exact h v acd
     simp[this]
   . rfl
theorem xV:∀ {binds:List (Str×Value)} {m:Str->Option Value},(∀ v,(x,v) ∉ binds)->bindC kindOf binds m x=m x
 | [],_,_=>rfl
 | (n, v) :: r, m, h => by
   unfold bindC;rw[xV λw hw=>h w (abb _ hw)];split
   . rfl
   . have : x ≠ n := by rintro rfl; exact h v acd
     simp[this]
theorem xF:∀ {P:List Str} {vs:List Value} {i:Nat} {m:Str->Option Value},P.Nodup->P[i]? = some x->vs[i]? = some v->kindOf x=some .local ->
   bindL kindOf (P.zip vs) m x=some v
 | [],_,_,_,_,h,_,_=>by simp at h
 | _::_,[],_,_,_,_,h,_=>by simp at h
 | p :: P, w :: vs, 0, m, nd, h1, h2, hk => by
   simp at h1 h2;subst h1;subst h2;show bindL kindOf ((p,w)::P.zip vs) m p=_;unfold bindL;rw[xx λv hv=>(List.nodup_cons.mp nd).1 (List.of_mem_zip hv).1,if_pos hk]
   simp
 | p :: P, w :: vs, i + 1, m, nd, h1, h2, hk => by
   show bindL kindOf ((p,w)::P.zip vs) m x=_;unfold bindL;exact xF (i:=i) (List.nodup_cons.mp nd).2 (by simpa using h1) (by simpa using h2) hk
theorem xn:∀ {P:List Str} {vs:List Value} {i:Nat} {m:Str->Option Value},P.Nodup->P[i]? = some x->vs[i]? = some v->kindOf x≠some .local ->
   bindC kindOf (P.zip vs) m x=some v
 | [],_,_,_,_,h,_,_=>by simp at h
 | _::_,[],_,_,_,_,h,_=>by simp at h
 | p :: P, w :: vs, 0, m, nd, h1, h2, hk => by
   simp at h1 h2;subst h1;subst h2;show bindC kindOf ((p,w)::P.zip vs) m p=_;unfold bindC;rw[xV λv hv=>(List.nodup_cons.mp nd).1 (List.of_mem_zip hv).1,if_neg hk]
   simp
 | p :: P, w :: vs, i + 1, m, nd, h1, h2, hk => by
   show bindC kindOf ((p,w)::P.zip vs) m x=_;unfold bindC;exact xn (i:=i) (List.nodup_cons.mp nd).2 (by simpa using h1) (by simpa using h2) hk
def start (N:List Str)(vs:List V):St:=vs.map some++aau (N.length - vs.length) none
def bW (CX:dM)(P:Program)(w:World)(K:W.Frag)(mg:Str->Option Value)(base:Heap)(N:List Str)(qual:Str)(scope:Scope)(f:Addr)(cd:Value)(A:Around)(outer:List Env)(s:Shared)(H:Hp)(E:XK):Cx where
 prog:=P
 w:=w
 K:=K
 mg:=mg
 base:=base
 A:=A.deeper (envOfC qual scope s.heap.objs.size f cd)
 N:=N
 s₀:=s
 H₀:=H
 env:=envOfC qual scope s.heap.objs.size f cd
 outer:=outer
 stack:=envOfC qual scope s.heap.objs.size f cd::outer
 ex:=[]
 calm:=true
 fn:=λ_=>true
 pn:=[]
 xe:=λe s'=>wpAny (model P w) (A.deeper (envOfC qual scope s.heap.objs.size f cd)) (leaving (envOfC qual scope s.heap.objs.size f cd) e) (λ_ s''=>CX outer H s E e s'') (λe' s''=>CX outer H s E e' s'') s'
theorem Bg {sc:Scope}{n:Nat}(h:sc.names.lookup x=some .cell):∃ c,(cellsFrom n sc.names []).lookup x=some c:=by
 have q:=W.cellsFrom_some sc.names n [] (.inl h);exact Option.isSome_iff_exists.mp q
theorem G8 {CX:dM}{P:Program}{w:World}{K:W.Frag}{mg:Str->Option Value}{base:Heap}{N ps:List Str}{qual:Str}{scope:Scope}{f:Addr}{cd:Value}{A:Around}{outer:List Env}{s s1:Shared}{H:Hp}{E:XK}{us:List Value}{vs:List V}
   (S:aq N ps scope) (hd:A.handled=none) (e0:sC P w K mg base A outer s H) (hl:vs.length=ps.length) (r:aL vs us)
   (x:InCallC s s.heap.objs.size (bindL (envOfC qual scope s.heap.objs.size f cd).kindOf (ps.zip us) λ_=>none) (cellsFrom (s.heap.objs.size+1) scope.names []) (bindC (envOfC qual scope s.heap.objs.size f cd).kindOf (ps.zip us) λ_=>none) s1) :
   Inv (bW CX P w K mg base N qual scope f cd A outer s H E) [] (start N vs) H s1:=by
 have S9:ps.length<=N.length:=by have:=congrArg List.length S.pre;rw[aaA] at this;omega
 obtain⟨h1,tk,rfl,hk⟩:=x.done;have noA:∀ b:Addr,b ∉ (bW CX P w K mg base N qual scope f cd A outer s H E).ex:=λb z=>absurd (show b∈([]:List Addr) from z) (by simp)
 refine ⟨⟨e0.mod,S.kind,rfl,rfl,aag _,λy z c h1 h2=>?_,λy hy=>?_,λy c _ h=>?_,λ_=>hd,Around.frames_deeper e0.frames,.inr ⟨rfl,rfl⟩,λb z=>absurd z (noA b),e0.bs,e0.rH,λb _ _=>noA b,λb z=>absurd z (noA b),e0.gv,e0.uR⟩,
   rfl,e0.bare,Un.kept hk,⟨_,x.toInCall.ns,λi y v h1 h2 h3=>?_⟩,λy c h=>⟨_,x.cell y c h⟩,e0.aA.fresh (aag _),λy c h=>?_,λp hp=>absurd (show p∈([]:List (Addr×Obj)) from hp) (by simp),e0.aA.kept hk,?_⟩
 . exact name_of_addr x.apart (ab4 h1) (ab4 h2)
 . have hy : scope.names.lookup y = some .cell ∨ scope.names.lookup y = some .free := hy;rcases hy with hy | hy
   . exact Bg hy
   . exact absurd rfl (S.Pd _ (ab4 hy))
 . exact adq (x.above y c (ab4 h))
 . have hi : i < vs.length := by
     unfold start at h2;by_cases hi:i<vs.length
     . exact hi
     . rw[aaq (by simpa using hi)] at h2;rw[abI] at h2;split at h2 <;> cases h2
   have ha:vs[i]? = some v:=by
     unfold start at h2;rw[aas (by simpa using hi),aah] at h2;cases e:vs[i]? with
     | none=>rw[e] at h2;cases h2
     | some a=>rw[e] at h2;cases h2;rfl
   obtain⟨u,hu,rv⟩:=r.get ha;have hp:ps[i]? = some y:=by
     rw[<- S.pre,List.getElem?_take_of_lt (by omega)];exact h1
   have ndP:ps.Nodup:=by rw[<- S.pre];exact S.nd.sublist (List.take_sublist _ _)
   refine⟨u,rv,?_⟩;rcases S.par y (aak hp) with k | k
   . exact .inl ⟨k,xF ndP hp hu k⟩
   . obtain⟨c, e⟩ := Bg (n := s.heap.objs.size + 1) k;refine .inr ⟨.inl k,c,e,?_⟩;have q:=x.cell y c e;rw[xn ndP hp hu (by show scope.names.lookup y≠_;rw[k];decide)] at q;exact q
 . exact e0.aA.fresh (adq (x.above y c (ab4 h)))
 . unfold start;show _=N.length;rw[aab,aac,aaC];omega
theorem qT {CX:dM}{P:Program}{w:World}{K:W.Frag}{mg:Str->Option Value}{base:Heap}{k:Nat}{f:Addr}{name qual:Str}{params:Arguments}{body:List Stmt}{scope:Scope}{dV kV Ta pm S6 ct oc:Value}{an od:Option Addr}
   {Tv:Array (Option Value)} {N ps:List Str} {sp:Sp} (lk:K.lookup f=some ⟨oc,od,.func (W.fnOf name qual params body scope dV kV Ta pm an S6 ct),Tv⟩) (Ud:abR K S6 qual=true) (S:aq N ps scope)
   (len:∀ vs H Q E,sp vs H Q E->vs.length=ps.length)
   (S_:∀ (A:Around) (outer:List Env) (s:Shared) (H:Hp) (vs:List V) (Q:VK) (E:XK),bH k (A.deeper (envOfC qual scope s.heap.objs.size f S6))->sp vs H Q E ->
     ∃ t,gj (bW CX P w K mg base N qual scope f S6 A outer s H E) body t/\t { nx:=λ_ H'=>Q .aC H',rt:=Q } (start N vs) H) :
   c7 P w K mg base CX (k+1) f (W.fnOf name qual params body scope dV kV Ta pm an S6 ct) ps sp:=by
 refine⟨len,λA outer s H args us vs Q E hr e0 hb r UT=>?_⟩;have hl:=len _ _ _ _ UT;have KX:K.In s.heap:=e0.mod.uL.keeps λb o e=>(e0.bs b o e).1;have lim:s.heap.NoLimit:=e0.mod.nolimit.keeps λb o e=>(e0.bs b o e).1;have hkind:∀ y∈ps.zip us,scope.names.lookup y.1=some .local∨(scope.names.lookup y.1=some .cell/\((cellsFrom (s.heap.objs.size+1) scope.names []).lookup y.1).isSome=true):=λ⟨n,v⟩ hy=>by
   rcases S.par n (List.of_mem_zip hy).1 with q | q
   . exact .inl q
   . exact .inr ⟨q,W.cellsFrom_some _ _ _ (.inl q)⟩
 refine codeAny_call_function hr.depth (KX _ _ lk) rfl S.co S.gen rfl (W.codeRec_of KX Ud) (hb _ _ _ _ ?_);refine wpAny_newFunctionEnv_cells S.kind hkind λenv he s1 x=>?_;subst he;refine⟨lim.keeps x.toInCall.keep,codeAny_func ?_⟩;obtain⟨t,ht,hq⟩:=S_ A outer s H vs Q E (hr.deeper _) UT;have I:Inv (bW CX P w K mg base N qual scope f S6 A outer s H E) [] (start N vs) H s1:=G8 S hr.hd e0 hl r x;refine aaH (ht [] s1 (start N vs) H _ I hq) (λfl s' hs=>?_) λe s' hs=>hs;have Td:∀ {Z':St} {H':Hp} {v:V} {u:Value},Inv (bW CX P w K mg base N qual scope f S6 A outer s H E) [] Z' H' s'->RelV v u->Q v H'->CE outer P w H s Q u s' :=
   λ{Z' H' v u} J rv q=>⟨v,H',J.os,J.bare,J.base,J.aA,rv,q⟩
 cases fl with
 | ret u =>
   obtain⟨v,Z',H',J,rv,q⟩:=hs;exact Td J rv q
 | next =>
   obtain⟨Z',H',J,q⟩:=hs;exact Td (v:=V.aC) (u:=abq) J rfl q
 | brk =>
   obtain⟨_,_,_,q⟩:=hs;exact aaV q
 | cont =>
   obtain⟨_,_,_,q⟩:=hs;exact aaV q
section
variable {X:Cx} {x:Str} {p pos:Pos} {e:Expr} {es:List Expr} {t:TA} {id T:String} {r:List V->Hp->VK->Prop}
@[reducible] def n_ (r:List V->Hp->VK->Prop) (t:TA):TE:=λZ H Q=>t Z H λvs H1=>r vs H1 Q
theorem cJ (hc : cW X (.builtin id) r)(hg : Gl X x)(hm : X.mg x = none)(hv : aaW x = some (.builtin id))(ha : PA X (e :: es) t)(hn : x ≠ "__name__" := by decide)(Tw : (x == ("__debug__" : Str)) = false := by decide)
   (he:aai (e::es) X.env=(false,eval e X.env)::aai es X.env:=by rfl) (S9:(backTo pos (aai es X.env)).any (·.1)=false:=by rfl):PE X (.Call (.Name x p) (e::es) [] pos) (n_ r t):=by
 intro gV s Z H Q I h;refine abf (iM I hg hm hv ?_ hn Tw);exact PyProof.Rows.callWith_builtin1 (aR (ha pos gV s Z H _ I h) λus s1 zq=>bR zq λvs H1 I1 r1 q1=>hc gV s1 Z H1 vs us Q I1 r1 q1) he S9
theorem pG (hc : cW X (.type T) r)(hg : Gl X x)(hm : X.mg x = none)(hv : aaW x = some (.type T))(ha : PA X (e :: es) t)(hn : x ≠ "__name__" := by decide)(Tw : (x == ("__debug__" : Str)) = false := by decide)
   (he:aai (e::es) X.env=(false,eval e X.env)::aai es X.env:=by rfl) (S9:(backTo pos (aai es X.env)).any (·.1)=false:=by rfl):PE X (.Call (.Name x p) (e::es) [] pos) (n_ r t):=by
 intro gV s Z H Q I h;refine abf (iM I hg hm hv ?_ hn Tw);exact aa8 (aR (ha pos gV s Z H _ I h) λus s1 zq=>bR zq λvs H1 I1 r1 q1=>hc gV s1 Z H1 vs us Q I1 r1 q1) he S9
end
end L2
namespace HT
open PySem PyProof.Rows
section
variable {prog:Program} {w:World} {A:Around} {E:Value->Shared->Prop} {s:Shared}
theorem KL (ht:IsTup s.heap t vs.toArray)(hb:IsTup s.heap b ws.toArray)(hv:vs≠[])
   (h1:ws=[]->Q (.ref t) s) (h2:ws≠[]->Q (.ref s.heap.objs.size) { s with heap:=s.heap.push { cls:=.type "tuple",data:=.seq (vs++ws).toArray } })
   (hsz:vs.length+ws.length<=aal):wpAny (model prog w) A (abD .Add (.ref t) (.ref b)) Q E s:=by
 obtain⟨⟨cls,dd,data,sl⟩,ho,hc,n,hd⟩:=id ht;obtain⟨⟨cls2,dd2,data2,sl2⟩,ho2,hc2,n2,UM⟩:=id hb;simp only at hc hd hc2 UM;subst hc hd hc2 UM;have e:vs.toArray++ws.toArray=(vs++ws).toArray:=by simp
 by_cases hw:ws=[]
 . exact concat_meets ⟨_,ho,rfl⟩ ⟨_,ho2,rfl⟩ noFill_tuple_add seq_tuple_add PySem.F.slot_tuple_add PySem.F.entry_tuple_add (PySem.F.args_tuple_add_2 _ _)
     (tuple_addW1 t b vs.toArray ws.toArray n n2 dd dd2 sl sl2 (by simpa using hv) (by simp[hw])) ⟨ho,ho2,h1 hw⟩
 . refine concat_meets ⟨_,ho,rfl⟩ ⟨_,ho2,rfl⟩ noFill_tuple_add seq_tuple_add PySem.F.slot_tuple_add PySem.F.entry_tuple_add (PySem.F.args_tuple_add_2 _ _)
     (tuple_addW2 t b vs.toArray ws.toArray n n2 dd dd2 sl sl2 (by simpa using hv) (by simpa using hw) (by rw[aao,aao];exact hsz)) ⟨ho,ho2,?_⟩
   rw[e];exact h2 hw
def bg (n d:Nat):Option Int->Nat
 | none=>d
 | some v=>if v<0 then (v+(n:Int)).toNat else min v.toNat n
theorem jg (n d k:Nat):bg n d (some (k:Int))=min k n:=by
 show(if (k:Int)<0 then ((k:Int)+(n:Int)).toNat else min (k:Int).toNat n)=min k n;rw[if_neg (by omega),aaD]
theorem MY (n d:Nat)(hd:d<=n)(o:Option Int):bg n d o<=n:=by
 cases o with
 | none=>exact hd
 | some v =>
   show(if v<0 then (v+(n:Int)).toNat else min v.toNat n)<=n;by_cases hv:v<0
   . rw[if_pos hv];omega
   . rw[if_neg hv];exact Nat.min_le_right _ _
theorem C_ (v:Int)(n d:Nat):(if v<0 then max (v+(n:Int)) 0 else min v (n:Int))=((bg n d (some v):Nat):Int):=by
 show(if v<0 then max (v+(n:Int)) 0 else min v (n:Int))=(((if v<0 then (v+(n:Int)).toNat else min v.toNat n):Nat):Int)
 by_cases hv:v<0
 . simp only[if_pos hv];omega
 . simp only[if_neg hv];omega
theorem Em (lo hi:Option Int)(n:Nat):acA lo hi 1 (n:Int)=(((bg n 0 lo:Nat):Int),((bg n n hi:Nat):Int)):=by
 have h1 : ¬ ((1:Int)<0):=by omega
 unfold acA;simp only[h1,if_false];refine Prod.ext ?_ ?_
 . cases lo with
   | none=>rfl
   | some v=>exact C_ v n 0
 . cases hi with
   | none=>rfl
   | some v=>exact C_ v n n
theorem EM (i j:Nat):abQ (i:Int) (j:Int) 1=j - i:=by
 unfold abQ;have h1:(1:Int) > 0:=by omega
 simp only[h1,if_true,Int.ediv_one];split <;> omega
theorem vM (p:IsPart v o)(h:Q o s):wpAny (model prog w) A (Builtin.Slice.slicePartIndex v) Q E s:=by
 cases p with
 | none=>exact slicePart_none h
 | int i t=>exact slicePart_int h
theorem tK {sl:Addr}{vl vu:Value}{lo hi:Option Int}{n:Nat}{Q:Int×Int×Nat->Shared->Prop}(hs:s.heap.IsSliceOf sl vl vu .none)(pl:IsPart vl lo)(pu:IsPart vu hi)
   (h:Q (((bg n 0 lo:Nat):Int),1,bg n n hi - bg n 0 lo) s):wpAny (model prog w) A (Builtin.Slice.sliceApplied (.ref sl) (pure (n:Int))) Q E s:=by
 obtain⟨os,hos,hcs,hds⟩:=id hs;unfold Builtin.Slice.sliceApplied Builtin.Slice.sliceFields;refine aad (aad (aby hos hds (x:=vl) rfl (aad (aby hos hds (x:=vu) rfl (aad (aby hos hds (x:=.none) rfl (aaj ?_)))))));refine aad (slicePart_none ?_);show wpAny _ _ (if ((1:Int) == 0)=true then _ else _) _ _ s;rw[if_neg (by decide)];refine aad (vM pl (aad (vM pu (aad (aaj ?_)))));show wpAny _ _ (match acA lo hi 1 (n:Int) with | (lo,hi)=>pure (lo,(1:Int),abQ lo hi 1)) _ _ s;rw[Em lo hi n];show wpAny _ _ (pure (((bg n 0 lo:Nat):Int),(1:Int),abQ ((bg n 0 lo:Nat):Int) ((bg n n hi:Nat):Int) 1)) _ _ s;rw[EM];exact aaj h
theorem H_ (xs:Array Value)(i k:Nat):((ab_ k).filterMap λ(m:Nat)=>xs[((i:Int)+(m:Int)*1).toNat]?).toArray=((xs.toList.drop i).take k).toArray:=by
 have e:(λ(m:Nat)=>xs[((i:Int)+(m:Int)*1).toNat]?)=λm=>xs[i+m]?:=by
   funext m
   have:((i:Int)+(m:Int)*1).toNat=i+m:=by omega
   rw[this]
 rw[e]
 have:=pick_run xs i k
 rw[adP] at this;have e2:((λx=>xs[x]?) ∘ λx=>i+x)=λm=>xs[i+m]?:=rfl;rw[e2] at this;rw[this]
theorem q0 {t sl:Addr}{items:Array Value}{vl vu:Value}{lo hi:Option Int}{Q:Value->Shared->Prop}(ht:IsTup s.heap t items)(hs:s.heap.IsSliceOf sl vl vu .none)(pl:IsPart vl lo)(pu:IsPart vu hi)
   (hw : ¬ (bg items.size 0 lo=0/\bg items.size items.size hi=items.size))
   (h:Q (.ref s.heap.objs.size) { s with heap:=s.heap.push { cls:=.type "tuple",data:=.seq ((items.toList.drop (bg items.size 0 lo)).take (bg items.size items.size hi - bg items.size 0 lo)).toArray } })
   (hsz:items.size<=aal):wpAny (model prog w) A (getItem (.ref t) (.ref sl)) Q E s:=by
 have VB:sizeOk (.seq ((items.toList.drop (bg items.size 0 lo)).take (bg items.size items.size hi - bg items.size 0 lo)).toArray):=by
   show((items.toList.drop (bg items.size 0 lo)).take (bg items.size items.size hi - bg items.size 0 lo)).toArray.size<=aal;rw[aao,aaA,abz,ab5];omega
 have hj:bg items.size items.size hi<=items.size:=MY _ _ (aag _) hi;obtain⟨os,hos,hcs,hds⟩:=id hs;have hTs:s.TypeIs (.ref sl) "slice":=⟨os,hos,hcs⟩
 unfold getItem
 try with_reducible refine aa_ ?_
 first | refine aad (aaj ?_) | skip
 refine aad (wpAny_sequenceKey ht.typeIs (by decide) ?_)
 refine aad (acv (name:=aae "__getitem__") ht.typeIs PyProof.Rows.slot_tuple_getitem
   (acK PyProof.Rows.slot_tuple_getitem ht.typeIs entry_tuple_getitem ?_ (args_tuple_getitem _ _)))
 show wpAny _ _ (Builtin.Tuple.tupleItemsOf (.ref t) >>= _) _ _ s;refine aad (tupleItemsOf_ ht ?_);refine aad (wpAny_typeOf hTs ?_);rw[if_pos (by decide)];refine aad (tK hs pl pu ?_);have VN : ¬ ((((bg items.size 0 lo:Nat):Int) == 0 && (1:Int) == 1 && (bg items.size items.size hi - bg items.size 0 lo) == items.size)=true):=by
   intro q;rw[aaM,aaM] at q;have q1:((bg items.size 0 lo:Nat):Int)=0:=eq_of_beq q.1.1;have q2:bg items.size items.size hi - bg items.size 0 lo=items.size:=eq_of_beq q.2;exact hw ⟨by omega,by omega⟩
 show wpAny _ _ (if (((bg items.size 0 lo:Nat):Int) == 0 && (1:Int) == 1 && (bg items.size items.size hi - bg items.size 0 lo) == items.size)=true then _ else _) _ _ s;rw[if_neg VN,H_]
 first
   | exact aad (m:=abT _) (abw (aaj ⟨_,rfl,aaj h⟩) VB)
   | exact aad (m:=abT _) (abw (aad (aaj (aaj ⟨_,rfl,aaj h⟩))) VB)
   | exact aad (aad (m:=abT _) (abw (aaj (aaj ⟨_,rfl,aaj h⟩)) VB))
   | exact aad (aad (m:=abT _) (abw (aaj ⟨_,rfl,aaj h⟩) VB))
end
end HT
namespace L2
open PySem PySem.Spec PyProof.Rows
abbrev TO:=St->Hp->(Option Int->Hp->Prop)->Prop
def PO (X:Cx)(e:Option Expr)(t:TO):Prop :=
 ∀ (gV:List (Addr×Obj)) (s:Shared) (Z : St) (H:Hp) (Q:Option Int->Hp->Prop),Inv X gV Z H s->t Z H Q ->
   wpAny (model X.prog X.w) X.A (evalPart e X.env) (λu s'=>∃ o H',Inv X gV Z H' s'/\IsPart u o/\Q o H') X.xe s
@[reducible] def g9:TO:=λ_ H Q=>Q none H
@[reducible] def m9 (t:TE):TO:=λZ H Q=>t Z H λx H1=>Gh x λi=>Q (some i) H1
section
variable {X:Cx} {e:Expr} {te:TE} {lo hi:Option Expr} {tl th:TO} {pos p2:Pos}
theorem L_:PO X none g9:=by
 intro gV s Z H Q I h;rw[evalPart_none];exact aaj ⟨none,H,I,.none,h⟩
theorem LY (h:PE X e te):PO X (some e) (m9 te):=by
 intro gV s Z H Q I hw;rw[evalPart_some];refine aR (h gV s Z H _ I hw) λu s1 zq=>bR zq λx H1 I1 r1 q1=>?_;obtain⟨i,rfl,q⟩:=uS q1;obtain⟨t,rfl⟩:=r1;exact⟨some i,H1,I1,.int i t,q⟩
def vN (X:Cx)(r:V->Option Int->Option Int->Hp->VK->Prop):Prop :=
 ∀ (gV:List (Addr×Obj)) (s:Shared) (Z : St) (H:Hp) (x:V) (v vl vu:Value) (lo hi:Option Int) (sl:Addr) (Q:VK),Inv X gV Z H s->RelV x v->s.heap.IsSliceOf sl vl vu .none->IsPart vl lo->IsPart vu hi->r x lo hi H Q ->
   ∃ T id,adM (.type T) "__getitem__" = pure (some (.builtin id))/\s.TypeIs v T/\wpAny (model X.prog X.w) X.A (getItem v (.ref sl)) (EP X gV Z Q) X.xe s
theorem vN.or (h:vN X r)(h':vN X r'):vN X (λx lo hi H Q=>r x lo hi H Q∨r' x lo hi H Q):=by
 intro gV s Z H x v vl vu lo hi sl Q I rx hs pl pu q;rcases q with q | q
 . exact h gV s Z H x v vl vu lo hi sl Q I rx hs pl pu q
 . exact h' gV s Z H x v vl vu lo hi sl Q I rx hs pl pu q
@[reducible] def Aa (r:V->Option Int->Option Int->Hp->VK->Prop) (te:TE) (tl th:TO):TE:=λZ H Q=>te Z H λx H1=>tl Z H1 λl H2=>th Z H2 λu H3=>r x l u H3 Q
theorem Jb {r:V->Option Int->Option Int->Hp->VK->Prop}(hr:vN X r)(he:PE X e te)(hl:PO X lo tl)(hu:PO X hi th):PE X (.Subscript e (.Slice lo hi none p2) pos) (Aa r te tl th):=by
 intro gV s Z H Q I h;refine Subscript_ (aR (he gV s Z H _ I h) λv s1 zq=>bR zq λx H1 I1 r1 q1=>?_);refine wpAny_Slice (aR (hl gV s1 Z H1 _ I1 q1) λvl s2 zq=>bR zq λl H2 I2 pl q2=>aR (hu gV s2 Z H2 _ I2 q2) λvu s3 zq=>bR zq λu H3 I3 pu q3=>?_);rw[evalPart_none];refine aaj ?_;have I4:Inv X gV Z H3 { s3 with heap:=s3.heap.push { cls:=.type "slice",data:=.fields #[vl,vu,.none] } }:=I3.kept (t':=s3.toks) λb ob q=>aaf _ q;obtain⟨T,id,hT,ht,hg⟩:=hr gV { s3 with heap:=s3.heap.push { cls:=.type "slice",data:=.fields #[vl,vu,.none] } } Z H3 x v vl vu l u s3.heap.objs.size Q I4 r1 (Heap.IsSliceOf.new ..) pl pu q3;show wpAny (model X.prog X.w) X.A (subscriptTail e (.Slice lo hi none p2) v (.ref s3.heap.objs.size)) (EP X gV Z Q) X.xe { s3 with heap:=s3.heap.push { cls:=.type "slice",data:=.fields #[vl,vu,.none] } };exact tail_any (ops:=[.ref s3.heap.objs.size,v]) ht hT hg (by with_unfolding_all rfl)
def fR (xs:List V)(lo hi:Option Int):List V:=(xs.drop (HT.bg xs.length 0 lo)).take (HT.bg xs.length xs.length hi - HT.bg xs.length 0 lo)
theorem rZ (xs:List V)(lo hi:Option Int):(fR xs lo hi).length<=xs.length:=by
 unfold fR;rw[aaA,abz];omega
def NA (K:W.Frag):V->Option Int->Option Int->Hp->VK->Prop:=λx lo hi H Q=>∃ a xs,x=.ref a/\aI K H a xs /\
 ¬ (HT.bg xs.length 0 lo=0/\HT.bg xs.length xs.length hi=xs.length)/\∀ p,H p=none->Q (.ref p) (upd H p (.tup (fR xs lo hi)))
theorem NB:vN X (NA X.K):=by
 intro gV s Z H x v vl vu lo hi sl Q I rx hs pl pu h;obtain⟨a,xs,rfl,hx,hw,q⟩:=h;cases rx
 obtain⟨its,r,ht,hz⟩:=I.tuple hx;have S7:its.toArray.size=xs.length:=by rw[aao];exact r.length.symm
 refine⟨"tuple",_,PyProof.Rows.slot_tuple_getitem.lookup,ht.typeIs,?_⟩;refine HT.q0 ht hs pl pu (by rw[S7];exact hw) ?_ (by rw[S7];exact hz);rw[S7];refine⟨.ref s.heap.objs.size,_,I.laid (t':=s.toks) (o:=.tup (fR xs lo hi)) (λb ob q=>aaf _ q) (aag _) ?_,rfl,q _ (I.aA.fresh (aag _))⟩;exact⟨aaK (rZ xs lo hi) hz,_,(r.drop (HT.bg xs.length 0 lo)).take (HT.bg xs.length xs.length hi - HT.bg xs.length 0 lo),IsTup.new _ _⟩
def JZ (K:W.Frag):R2:=λx y H Q=>∃ a b xs ys,x=.ref a/\y=.ref b/\aI K H a xs/\aI K H b ys/\xs≠[]/\xs.length+ys.length<=aal /\
 (ys=[]->Q (.ref a) H)/\(ys≠[]->∀ p,H p=none->Q (.ref p) (upd H p (.tup (xs++ys))))
variable {us:List Value} {xs:List V}
theorem aL.xb (r:aL xs us):us=[] ↔ xs=[]:=by
 cases r with
 | nil=>simp
 | cons _ _=>simp
theorem Mj:bQ X (abD .Add) (JZ X.K):=by
 intro gV s Z H x y v u Q I rx ry h;obtain⟨a,b,xs,ys,rfl,rfl,ha,hb,hx,hz,q1,q2⟩:=h;cases rx
 cases ry
 obtain⟨its,r1,p1,_⟩:=I.tuple ha;obtain⟨U5,r2,p2,_⟩:=I.tuple hb;refine HT.KL p1 p2 (λz=>hx (r1.xb.mp z)) (λz=>⟨.ref a,H,I,rfl,q1 (r2.xb.mp z)⟩) (λz=>?_) (by rw[<- r1.length,<- r2.length];exact hz);refine⟨.ref s.heap.objs.size,_,I.laid (t':=s.toks) (o:=.tup (xs++ys)) (λb ob q=>aaf _ q) (aag _) ?_,rfl,q2 (λw=>z (r2.xb.mpr w)) _ (I.aA.fresh (aag _))⟩;exact⟨by rw[aab];exact hz,_,r1.append r2,IsTup.new _ _⟩
end
def og (n:Nat)(i:Int):Option Nat:=if 0<=i then (if i<n then some i.toNat else none) else if -(n:Int)<=i then some (i+n).toNat else none
def cZ {α : Type}(xs:List α)(i:Int):Option α:=(og xs.length i).bind λj=>xs[j]?
variable {n:Nat}
theorem C4 (h:og n i=some j):seqIndex? i n=some j/\j<n/\-(n:Int)<=i/\i<n:=by
 unfold og at h;by_cases h0 : 0<=i
 . rw[if_pos h0] at h;by_cases h1:i<n
   . rw[if_pos h1] at h;have e:i.toNat=j:=aax h;exact⟨by rw[seqIndex_of h0 h1,e],by omega,by omega,h1⟩
   . rw[if_neg h1] at h;cases h
 . rw[if_neg h0] at h;by_cases h1 : -(n:Int)<=i
   . rw[if_pos h1] at h;have e:(i+n).toNat=j:=aax h;exact⟨by rw[seqIndex_neg (by omega) h1,e],by omega,h1,by omega⟩
   . rw[if_neg h1] at h;cases h
variable {α : Type}
theorem wK (h:cZ xs i=some v):∃ j,seqIndex? i xs.length=some j/\xs[j]? = some v/\j<xs.length/\-(xs.length:Int)<=i/\i<xs.length:=by
 unfold cZ at h;cases e:og xs.length i with
 | none=>rw[e] at h;cases h
 | some j =>
   rw[e] at h;obtain⟨h1,h2,h3,h4⟩:=C4 e;exact⟨j,h1,h,h2,h3,h4⟩
theorem bF {xs:List α}{j:Nat}{v : α}(h:xs[j]? = some v):cZ xs (j:Int)=some v:=by
 have hj:j<xs.length:=(List.getElem?_eq_some_iff.mp h).1;have e:og xs.length (j:Int)=some j:=by
   unfold og;rw[if_pos (by omega),if_pos (by omega)];simp
 unfold cZ;rw[e];exact h
def Lk (b:Expr):Prop:=∀ o i,subscripted b false o i=operate [o,i] (getItem o i)
def nR (X:Cx)(r:R2):Prop :=
 ∀ (value Ts:Expr) (gV:List (Addr×Obj)) (s:Shared) (Z : St) (H:Hp) (x y:V) (v u:Value) (Q:VK),Inv X gV Z H s->RelV x v->RelV y u->r x y H Q ->
   subscripted Ts false v u=operate [v,u] (getItem v u)->wpAny (model X.prog X.w) X.A (subscriptTail value Ts v u) (EP X gV Z Q) X.xe s
def Gc (X:Cx)(id:String)(r:V->List V->Hp->VK->Prop):Prop :=
 ∀ (gV:List (Addr×Obj)) (s:Shared) (Z : St) (H:Hp) (x:V) (xs:List V) (v:Value) (us:List Value) (Q:VK),Inv X gV Z H s->RelV x v->aL xs us->r x xs H Q ->
   wpAny (model X.prog X.w) X.A (call (.builtin id) (v::us)) (EP X gV Z Q) X.xe s
section
variable {X:Cx} {a b:Expr} {ta tb:TE} {pos:Pos}
theorem nR.or (h:nR X r)(h':nR X r'):nR X (λx y H Q=>r x y H Q∨r' x y H Q):=by
 intro value Ts gV s Z H x y v u Q I rx ry q hs;rcases q with q | q
 . exact h value Ts gV s Z H x y v u Q I rx ry q hs
 . exact h' value Ts gV s Z H x y v u Q I rx ry q hs
theorem cC (hr:nR X r)(ha:PE X a ta)(hb:PE X b tb)(hs:Lk b):PE X (.Subscript a b pos) (bq r ta tb):=by
 intro gV s Z H Q I h;exact Subscript_ (Iq ha hb I h λv u s2 x y H2 I2 rx ry q=>hr a b gV s2 Z H2 x y v u Q I2 rx ry q (hs _ _))
def Ni (K:W.Frag):R2:=λx y H Q=>∃ p xs i v,x=.ref p/\y=.int i/\ar K H p xs/\cZ xs i=some v/\Q v H
def Oi (K:W.Frag):R2:=λx y H Q=>∃ p xs i v,x=.ref p/\y=.int i/\aI K H p xs/\cZ xs i=some v/\Q v H
def Oo:R2:=λx y H Q=>∃ z i c,x=.str z/\y=.int i/\z.length<=aal/\cZ z.cps.toList i=some c/\Q (.str ⟨#[c]⟩) H
theorem LA:nR X (Ni X.K):=by
 intro value Ts gV s Z H x y v u Q I rx ry h hs;obtain⟨p,xs,i,z,rfl,rfl,hq,he,q⟩:=h;cases rx
 obtain⟨t,rfl⟩:=ry;obtain⟨its,r,pl,hz⟩:=I.list hq;obtain⟨j,h1,h2,h3,h4,h5⟩:=wK he;obtain⟨w,ew,V6⟩:=r.get h2;have hl:=r.length;have hn:=mK;have Td:EP X gV Z Q w s:=⟨z,H,I,V6,q⟩
 by_cases h0 : 0<=i
 . have hj : i.toNat = j := by
     rw[seqIndex_of h0 h5] at h1;exact aax h1
   exact item_listR pl.isList h0 (by omega) (by rw[hj];simpa using ew) Td hs
 . have hj : (i + (its.toArray.size : Int)).toNat = j := by
     rw[seqIndex_neg (by omega) h4] at h1;rw[aao,<- hl];exact aax h1
   exact adz (x:=w) pl.isList.typeIs slot_list_getitem.lookup
     (wpAny_getItem_list_neg (Q:=λr s'=>r=w/\EP X gV Z Q r s') pl.isList (by omega) (by rw[aao] <;> omega) (by omega) (by rw[hj];simpa using ew) ⟨rfl,Td⟩) hs
theorem NY:nR X (Oi X.K):=by
 intro value Ts gV s Z H x y v u Q I rx ry h hs;obtain⟨p,xs,i,z,rfl,rfl,hq,he,q⟩:=h;cases rx
 obtain⟨t,rfl⟩:=ry;obtain⟨its,r,pl,hz⟩:=I.tuple hq;obtain⟨j,h1,h2,h3,h4,h5⟩:=wK he;obtain⟨w,ew,V6⟩:=r.get h2;have hl:=r.length;have hn:=mK;have Td:EP X gV Z Q w s:=⟨z,H,I,V6,q⟩
 exact adz (x:=w) pl.typeIs slot_tuple_getitem.lookup
   (getItem_tuple (j:=j) (Q:=λr s'=>r=w/\EP X gV Z Q r s') pl (by omega) (by omega) (by rw[aao,<- hl];exact h1) (by simpa using ew) ⟨rfl,Td⟩) hs
theorem Pf:nR X Oo:=by
 intro value Ts gV s Z H x y v u Q I rx ry h hs;obtain⟨z,i,c,rfl,rfl,hz,he,q⟩:=h;obtain⟨t,rfl⟩:=rx;obtain⟨t',rfl⟩:=ry;obtain⟨j,h1,h2,h3,h4,h5⟩:=wK he;have hl:z.cps.toList.length=z.length:=by simp[Str.length]
 rw[hl] at h1 h4 h5;have hn:=mK;exact tail_any (typeIs_str s z t) slot_str_getitem.lookup (getItem_str (c:=c) (by
   have e1:decide (i < -(2 ^ 63:Int))=false:=decide_eq_false (by omega);have e2:decide (i ≥ 2 ^ 63)=false:=decide_eq_false (by omega);rw[e1,e2,adO]) (by rw[h1];simpa using h2) ⟨.str ⟨#[c]⟩,H,I.tok _,⟨_,rfl⟩,q⟩) hs
def Q6 (K:W.Frag):R2:=λx y H Q=>Ni K x y H Q∨Oi K x y H Q∨Oo x y H Q
theorem NG:nR X (Q6 X.K):=LA.or (NY.or Pf)
theorem Dx (its:List Value)(n j:Nat)(u:Value):acH (·.setIfInBounds j u) { cls:=.type "list",data:=.seq its.toArray n }={ cls:=.type "list",data:=.seq (its.set j u).toArray n }:=by
 simp[acH]
variable {xs:List V} {s:Shared} {H:Hp} {gV:List (Addr×Obj)}
theorem Inv.lst {Z : St}{p:Addr}(I:Inv X gV Z H s)(h:H p=some (.lst xs)) :
   ∃ (its:List Value) (n:Nat),aL xs its/\s.heap.get? p=some { cls:=.type "list",data:=.seq its.toArray n }/\xs.length<=aal:=by
 obtain⟨z,its,n,r,e⟩:=I.aA p _ h;exact⟨its,n,r,e,z⟩
theorem Inv.OQ {Z : St}{p:Addr}{ys:List V}{its its':List Value}{n n':Nat}{f:Obj->Obj}(I:Inv X gV Z H s)(h:H p=some (.lst xs))
   (ho:s.heap.get? p=some { cls:=.type "list",data:=.seq its.toArray n }) (hf:f { cls:=.type "list",data:=.seq its.toArray n }={ cls:=.type "list",data:=.seq its'.toArray n' }) (r:aL ys its') (hz:ys.length<=aal) (t:Nat) :
   Inv X gV Z (upd H p (.lst ys)) { s with heap:=s.heap.update p f,toks:=t }:=by
 have e:(s.heap.update p f).get? p=some { cls:=.type "list",data:=.seq its'.toArray n' }:=by
   rw[aa9 f ho (by rw[hf] <;> rfl),hf]
 refine I.write (x:=p) (e:=p) (by rw[h];trivial) (.inl rfl) (λb u hb q=>(aaY _ _ (Ne.symm hb)).trans q) ⟨_,e⟩ ?_;exact⟨hz,its',n',r,e⟩
def EC:V->V->V->Hp->(Hp->Prop)->Prop:=λo i v H Q=>∃ p xs k j,o=.ref p/\i=.int k/\H p=some (.lst xs)/\og xs.length k=some j/\Q (upd H p (.lst (xs.set j v)))
theorem set_list:ML X EC:=by
 intro gV s Z H o i v ov iv u Q I ro ri rv h;obtain⟨p,xs,k,j,rfl,rfl,hp,hj,q⟩:=h;cases ro
 obtain⟨t,rfl⟩:=ri;obtain⟨its,n,r,ho,hz⟩:=I.lst hp;obtain⟨h1,h2,h3,h4⟩:=C4 hj;have hl:=r.length;have hn:=mK;have I':Inv X gV Z (upd H p (.lst (xs.set j v))) { s with heap:=s.heap.update p (acH (·.setIfInBounds j u)) } :=
   I.OQ hp ho (Dx its n j u) (r.set rv j) (by rw[aaZ];exact hz) s.toks
 by_cases h0 : 0<=k
 . have hk : k.toNat = j := by
     rw[seqIndex_of h0 h4] at h1;exact aax h1
   exact W.ki_setAt ho h0 (by omega) (by rw[aao,<- hl];exact h4) (by rw[hk];exact⟨_,I',q⟩)
 . have hk : (k + (its.toArray.size : Int)).toNat = j := by
     rw[seqIndex_neg (by omega) h3] at h1;rw[aao,<- hl];exact aax h1
   exact W.ki_setBack ho (by omega) (by rw[aao,<- hl];exact h3) (by omega) (by rw[hk];exact⟨_,I',q⟩)
theorem AV (lo hi:Option Int)(n:Nat):(acX lo hi none n).1=((HT.bg n 0 lo:Nat):Int)/\(acX lo hi none n).2.1=((HT.bg n n hi:Nat):Int)/\(acX lo hi none n).2.2=1:=by
 refine⟨?_,?_,rfl⟩
 . cases lo with
   | none=>simp[acX,HT.bg]
   | some i =>
     simp only[acX,HT.bg,Option.getD_none,show(1:Int) > 0 by decide,if_true];by_cases h:i<0
     . simp only[h,if_true] <;> omega
     . simp only[h,if_false] <;> omega
 . cases hi with
   | none=>simp[acX,HT.bg]
   | some i =>
     simp only[acX,HT.bg,Option.getD_none,show(1:Int) > 0 by decide,if_true];by_cases h:i<0
     . simp only[h,if_true] <;> omega
     . simp only[h,if_false] <;> omega
theorem yr (its:List Value)(lo hi:Option Int):slicePick its.toArray lo hi none=((its.drop (HT.bg its.length 0 lo)).take (HT.bg its.length its.length hi - HT.bg its.length 0 lo)).toArray:=by
 obtain⟨h1,h2,h3⟩:=AV lo hi its.toArray.size;unfold slicePick;rw[h1,h2,h3];simp only[sliceRange_one,pick_run,aao] <;> rfl
def N6 (K:W.Frag):V->Option Int->Option Int->Hp->VK->Prop:=λx lo hi H Q=>∃ a xs,x=.ref a/\ar K H a xs/\∀ p,H p=none->Q (.ref p) (upd H p (.lst (fR xs lo hi)))
theorem Ln:vN X (N6 X.K):=by
 intro gV s Z H x v vl vu lo hi sl Q I rx hs pl pu h;obtain⟨a,xs,rfl,hx,q⟩:=h;cases rx
 obtain⟨its,r,ht,hz⟩:=I.list hx;have S7:=r.length;refine⟨"list",_,slot_list_getitem.lookup,ht.isList.typeIs,?_⟩;refine wpAny_getItem_list_slice ht.isList hs pl pu .none (by simp) ?_ (by rw[aao] <;> omega);rw[yr,<- S7];refine⟨.ref s.heap.objs.size,_,I.laid (t':=s.toks) (o:=.lst (fR xs lo hi)) (λb ob q=>aaf _ q) (aag _) ?_,rfl,q _ (I.aA.fresh (aag _))⟩;exact⟨aaK (rZ xs lo hi) hz,_,0,(r.drop (HT.bg xs.length 0 lo)).take (HT.bg xs.length xs.length hi - HT.bg xs.length 0 lo),aat _ rfl⟩
def dQ:V->Bool
 | .aC=>true
 | .bl _=>true
 | .int _=>true
 | .str _=>true
 | _=>false
def o_:V->V->Bool
 | .aC,.aC=>true
 | .bl a,.bl b=>a == b
 | .bl a,.int b=>(if a then 1 else 0) == b
 | .int a,.bl b=>a == (if b then 1 else 0)
 | .int a,.int b=>a == b
 | .str a,.str b=>a == b
 | _,_=>false
variable {u:Value} {y x:V}
theorem Mz (ry:RelV y u)(rx:RelV x v)(fy:dQ y=true)(fx:dQ x=true):SeqAt.EqAt A s u v (o_ y x):=by
 cases y with
 | aC =>
   cases ry
   cases x with
   | aC=>cases rx;exact SeqAt.EqAt.same _
   | bl b=>cases rx;exact SeqAt.EqAt.none_bool b
   | int b=>obtain⟨t,rfl⟩:=rx;exact SeqAt.EqAt.none_int b t
   | str b=>obtain⟨t,rfl⟩:=rx;exact SeqAt.EqAt.none_str b t
   | _=>exact absurd (show false=true from fx) aap
 | bl a =>
   cases ry
   cases x with
   | aC=>cases rx;exact SeqAt.EqAt.bool_none a
   | bl b=>cases rx;exact SeqAt.EqAt.bool_bool a b
   | int b=>obtain⟨t,rfl⟩:=rx;exact SeqAt.EqAt.bool_int a b t
   | str b=>obtain⟨t,rfl⟩:=rx;exact SeqAt.EqAt.bool_str a b t
   | _=>exact absurd (show false=true from fx) aap
 | int a =>
   obtain⟨t',rfl⟩:=ry;cases x with
   | aC=>cases rx;exact SeqAt.EqAt.int_none a t'
   | bl b=>cases rx;exact SeqAt.EqAt.int_bool a t' b
   | int b=>obtain⟨t,rfl⟩:=rx;exact SeqAt.EqAt.int_int a t' b t
   | str b=>obtain⟨t,rfl⟩:=rx;exact SeqAt.EqAt.int_str a t' b t
   | _=>exact absurd (show false=true from fx) aap
 | str a =>
   obtain⟨t',rfl⟩:=ry;cases x with
   | aC=>cases rx;exact SeqAt.EqAt.str_none a t'
   | bl b=>cases rx;exact SeqAt.EqAt.str_bool a t' b
   | int b=>obtain⟨t,rfl⟩:=rx;exact SeqAt.EqAt.str_int a t' b t
   | str b=>obtain⟨t,rfl⟩:=rx;exact SeqAt.EqAt.str_str a t' b t
   | _=>exact absurd (show false=true from fx) aap
 | _=>exact absurd (show false=true from fy) aap
def jW (x:V)(u:Value):Bool:=match u with
 | .none=>o_ .aC x
 | .bool b=>o_ (.bl b) x
 | .int i _=>o_ (.int i) x
 | .str z _=>o_ (.str z) x
 | _=>false
theorem Hf (r:RelV y u)(f:dQ y=true):jW x u=o_ y x:=by
 cases y with
 | aC=>cases r;rfl
 | bl b=>cases r;rfl
 | int i=>obtain⟨t,rfl⟩:=r;rfl
 | str z=>obtain⟨t,rfl⟩:=r;rfl
 | _=>exact absurd (show false=true from f) aap
theorem mw:∀ {xs:List V} {us:List Value},aL xs us->xs.all dQ=true->us.any (jW x)=xs.any λy=>o_ y x
 | _,_,.nil,_=>rfl
 | y :: xs, u :: us, .cons r t, f => by
   rw[acF,aaM] at f;rw[abA,abA,Hf r f.1,mw t f.2]
theorem j6 (rx:RelV x v)(fx:dQ x=true):∀ {xs:List V} {us:List Value},aL xs us->xs.all dQ=true->∀ u∈us,SeqAt.EqAt A s u v (jW x u)
 | _,_,.nil,_=>λu hu=>by cases hu
 | y :: xs, u :: us, .cons r t, f => λu' hu => by
   rw[acF,aaM] at f;rcases List.mem_cons.mp hu with rfl | hu
   . rw[Hf r f.1];exact Mz r rx f.1 fx
   . exact j6 rx fx t f.2 u' hu
def eV (x:V)(xs:List V):Bool:=xs.any λy=>o_ y x
def x9 (K:W.Frag)(neg:Bool):R2:=λx y H Q=>∃ p xs,y=.ref p/\(ar K H p xs∨aI K H p xs)/\dQ x=true/\xs.all dQ=true/\Q (.bl (if neg then !eV x xs else eV x xs)) H
theorem Fc:bQ X (aaU .In) (x9 X.K false):=by
 intro gV s Z H x y v u Q I rx ry h;obtain⟨p,xs,rfl,hq,fx,fs,q⟩:=h;cases ry
 rcases hq with hq | hq
 . obtain⟨its, r, pl, hz⟩ := I.list hq;refine SeqAt.in_listAt (jW x) pl.isList (λw hw=>j6 rx fx r fs w (by simpa using hw)) ⟨.bl _,H,I,rfl,?_⟩;rw[show its.toArray.any (jW x)=its.any (jW x) by simp,mw r fs];exact q
 . obtain⟨its, r, pl, hz⟩ := I.tuple hq;refine SeqAt.in_tupleAt (jW x) pl (λw hw=>j6 rx fx r fs w (by simpa using hw)) ⟨.bl _,H,I,rfl,?_⟩;rw[show its.toArray.any (jW x)=its.any (jW x) by simp,mw r fs];exact q
theorem AQ:bQ X (aaU .NotIn) (x9 X.K true):=by
 intro gV s Z H x y v u Q I rx ry h;obtain⟨p,xs,rfl,hq,fx,fs,q⟩:=h;cases ry
 rcases hq with hq | hq
 . obtain⟨its, r, pl, hz⟩ := I.list hq;refine SeqAt.notIn_listAt (jW x) pl.isList (λw hw=>j6 rx fx r fs w (by simpa using hw)) ⟨.bl _,H,I,rfl,?_⟩;rw[show its.toArray.any (jW x)=its.any (jW x) by simp,mw r fs];exact q
 . obtain⟨its, r, pl, hz⟩ := I.tuple hq;refine SeqAt.notIn_tupleAt (jW x) pl (λw hw=>j6 rx fx r fs w (by simpa using hw)) ⟨.bl _,H,I,rfl,?_⟩;rw[show its.toArray.any (jW x)=its.any (jW x) by simp,mw r fs];exact q
theorem BC:cW X (.type "list") (λxs H Q=>∃ p ys,xs=[.ref p]/\(ar X.K H p ys∨aI X.K H p ys)/\∀ l,H l=none->Q (.ref l) (upd H l (.lst ys))):=by
 intro gV s Z H xs us Q I r h;obtain⟨p,ys,rfl,hq,q⟩:=h;obtain⟨u,rfl,rx⟩:=vals1 r;cases rx
 have Td : ∀ (its : List Value), aL ys its -> ys.length <= aal -> ∀ (h' : Heap) (c' : Nat), (∀ b o', s.heap.get? b = some o' -> h'.get? b = some o') ->
     h'.get? s.heap.objs.size=some { cls:=.type "list",dict:=none,data:=.seq its.toArray c',slots:=#[] }->EP X gV Z Q (.ref s.heap.objs.size) { s with heap:=h' }:=λits r' hz h' c' kp e =>
   ⟨.ref s.heap.objs.size,_,I.laid (t':=s.toks) kp (aag _) (show b8 X.prog X.w _ h' _ (.lst ys) from⟨hz,its,c',r',e⟩),rfl,q _ (I.aA.fresh (aag _))⟩
 rcases hq with hq | hq
 . obtain⟨its, r', pl, hz⟩ := I.list hq;have S7:=r'.length;obtain⟨o,ho,hc,n,hd⟩:=pl.isList;exact call_list_seq p (.inl rfl) ho hc hd (λh' c' kp e=>Td its r' hz h' c' kp e) (by simp only[aao] <;> omega)
 . obtain⟨its, r', pl, hz⟩ := I.tuple hq;have S7:=r'.length;obtain⟨o,ho,hc,n,hd⟩:=pl;exact call_list_seq p (.inr rfl) ho hc hd (λh' c' kp e=>Td its r' hz h' c' kp e) (by simp only[aao] <;> omega)
def C9 (K:W.Frag)(T:String)(x:V)(H:Hp):Prop:=match x with
 | .str _=>T = "str"
 | .int _=>T = "int"
 | .ref p=>(T = "list"/\∃ xs,ar K H p xs)∨(T = "tuple"/\∃ o,K.lookup p=some o/\o.cls=.type "tuple"/\o.dict=none) ∨
     (T = "dict"/\((∃ kvs,H p=some (.dK kvs))∨∃ kvs,H p=some (.dT kvs)))∨(T = "set"/\∃ S n,H p=some (.set S n))
 | _=>False
theorem GN (I:Inv X gV Z H s)(r:RelV x v)(ty:C9 X.K T x H) :
   s.TypeIs v T/\∀ a,v=.ref a->∃ ob,s.heap.get? a=some ob/\ob.dict=none:=by
 cases x with
 | str z =>
   obtain⟨t,rfl⟩:=r;cases (show T = "str" from ty)
   exact⟨typeIs_str s z t,λ_ e=>nomatch e⟩
 | int i =>
   obtain⟨t,rfl⟩:=r;cases (show T = "int" from ty)
   exact⟨typeIs_int s i t,λ_ e=>nomatch e⟩
 | ref p =>
   cases r
   rcases ty with ⟨rfl,xs,hq⟩ | ⟨rfl,o,hk,hc,hd⟩ | ⟨rfl,hk⟩ | ⟨rfl,S,n,hk⟩
   . obtain ⟨its, _, pl, _⟩ := I.list hq;refine ⟨pl.isList.typeIs,λa e=>?_⟩;cases e
     obtain⟨o,n,e,c,hd,_⟩:=pl;exact⟨o,e,hd⟩
   . refine ⟨⟨o,I.df p o hk,hc⟩,λa e=>?_⟩;cases e
     exact⟨o,I.df _ o hk,hd⟩
   . have z : ∃ o, s.heap.get? p = some o /\ o.ExactDict := by
       rcases hk with ⟨kvs,hk⟩ | ⟨kvs,hk⟩
       . obtain⟨_, _, _, _, o, _, _, e, ex, _⟩ := I.aA p _ hk;exact⟨o,e,ex⟩
       . obtain⟨_, _, _, _, o, _, _, e, ex, _⟩ := I.aA p _ hk;exact⟨o,e,ex⟩
     obtain⟨o,e,ex⟩:=z;refine⟨⟨o,e,ex.1⟩,λa e2=>?_⟩;cases e2
     exact⟨o,e,ex.2.1⟩
   . obtain ⟨o, _, _, _, e, ex, _⟩ := I.aA p _ hk;refine ⟨⟨o,e,ex.1⟩,λa e2=>?_⟩;cases e2
     exact⟨o,e,ex.2.1⟩
 | _=>exact aaV ty
@[reducible] def OY (K:W.Frag) (T:String) (r:V->List V->Hp->VK->Prop) (to:TE):TE:=λZ H Q=>to Z H λx H1=>C9 K T x H1/\r x [] H1 Q
@[reducible] def MQ (K:W.Frag) (T:String) (r:V->List V->Hp->VK->Prop) (to:TE) (t:TA):TE:=λZ H Q=>to Z H λx H1=>C9 K T x H1/\t Z H1 λxs H2=>r x xs H2 Q
variable {o e:Expr} {es:List Expr} {to:TE} {t:TA} {name:Str} {Tc S8:Pos} {T id:String} {r:V->List V->Hp->VK->Prop}
theorem OR (pa:PlainAttrs T)(slot:Slot T name id)(hty:typeOf (.builtin id)=pure (.type "method_descriptor"))(hm:Gc X id r)(ho:PE X o to)
   (Tt:ab3 o name X.env (eval o X.env)=eval o X.env:=by rfl) (T7:(Tc.endLine == S8.line)=true:=by rfl):PE X (.Call (.Attribute o name Tc) [] [] S8) (OY X.K T r to):=by
 intro gV s Z H Q I h;refine wpAny_Call_method0_late Tt T7 (aR (ho gV s Z H _ I h) λv s1 zq=>?_);obtain⟨x,H1,I1,r1,ty,q1⟩:=zq;obtain⟨h1,h2⟩:=GN I1 r1 ty;exact⟨T,id,pa,slot,hty,h1,h2,adb rfl (PySem.evalArgs_none (hm gV s1 Z H1 x [] v [] Q I1 r1 .nil q1))⟩
theorem QI (pa:PlainAttrs T)(slot:Slot T name id)(hty:typeOf (.builtin id)=pure (.type "method_descriptor"))(hm:Gc X id r)(ho:PE X o to)(ha:PA X (e::es) t)
   (Tt:ab3 o name X.env (eval o X.env)=eval o X.env:=by rfl)
   (Wu:((backTo S8 (aai (e::es) X.env)).all (λx=>!x.1) && (ac3 S8 (abZ [] X.env)).all (λx=>x.1.isSome)
     && decide ((e::es).length+([]:List Keyword).length+(if ([]:List Keyword).isEmpty then 0 else 1)<30))=true:=by rfl)
   (T7:(Tc.endLine == S8.line)=true:=by rfl) (hs:aai (e::es) X.env=(false,eval e X.env)::aai es X.env:=by rfl) (Tp:(backTo S8 (aai es X.env)).any (·.1)=false:=by rfl) :
   PE X (.Call (.Attribute o name Tc) (e::es) [] S8) (MQ X.K T r to t):=by
 intro gV s Z H Q I h;refine wpAny_Call_method_late Tt Wu T7 rfl (aR (ho gV s Z H _ I h) λv s1 zq=>?_);obtain⟨x,H1,I1,r1,ty,q1⟩:=zq;obtain⟨h1,h2⟩:=GN I1 r1 ty;refine⟨T,id,pa,slot,hty,h1,h2,?_⟩;have hA:=ha S8 gV s1 Z H1 _ I1 q1;rw[hs] at hA ⊢;refine adb (by show(false || (backTo S8 (aai es X.env)).any (·.1))=false;rw[Tp] <;> rfl) (acB ?_);exact aR hA λus s2 zq=>bR zq λvs H2 I2 r2 q2=>hm gV s2 Z H2 x vs v us Q I2 r1 r2 q2
end
def NJ (X:Cx)(id:String)(r:V->List V->Hp->VK->Prop):Prop :=
 ∀ (gV:List (Addr×Obj)) (s:Shared) (Z : St) (H:Hp) (x:V) (xs:List V) (v:Value) (us:List Value) (Q:VK),Inv X gV Z H s->RelV x v->aL xs us->r x xs H Q ->
   wpAny (model X.prog X.w) X.A (call (.builtin id) (v::us)) (EP X gV Z Q) X.xe s
variable {us:List Value} {x:V}
theorem aL.one (h:aL [x] us):∃ u,us=[u]/\RelV x u:=by
 cases h with
 | cons r t=>cases t;exact⟨_,rfl,r⟩
theorem aL.zero:∀ {us:List Value},aL [] us->us=[]
 | _,.nil=>rfl
variable {xs:List V}
theorem aL.dropLast (h:aL xs us):aL xs.dropLast us.dropLast:=by
 induction h with
 | nil=>exact .nil
 | cons r t ih =>
   cases t with
   | nil=>exact .nil
   | cons q t'=>exact .cons r ih
theorem aL.rep (h:aL xs us):∀ k:Nat,aL (aau k xs).flatten (aau k us).flatten
 | 0=>.nil
 | k + 1 => by
   rw[abu,abu,acn,acn];exact aL.append h (aL.rep h k)
theorem D5 (l:List α):l.eraseIdx (l.length - 1)=l.dropLast:=by
 induction l with
 | nil=>rfl
 | cons a r ih =>
   cases r with
   | nil=>rfl
   | cons b r =>
     have e:(a::b::r).length - 1=((b::r).length - 1)+1:=by
       have h1:(a::b::r).length=r.length+2:=rfl;have h2:(b::r).length=r.length+1:=rfl;omega
     rw[e,List.eraseIdx_cons_succ,ih];all_goals rfl
theorem foldl_rep (its:List Value):∀ (k:Nat) (TU:List Value),
   List.foldl (λx1 x2=>x1++x2) TU.toArray (aau k its.toArray)=(TU++(aau k its).flatten).toArray
 | 0,TU=>by simp
 | k + 1, TU => by
   have e:TU.toArray++its.toArray=(TU++its).toArray:=by simp
   have e2:(TU++its)++(aau k its).flatten=TU++(aau (k+1) its).flatten:=by
     rw[abu,acn,aco]
   rw[<- e2,<- foldl_rep its k (TU++its),<- e,abu,List.foldl_cons]
section
variable {X:Cx} {gV:List (Addr×Obj)} {Z : St} {H:Hp} {s:Shared} {l b:Addr} {xs ys zs:List V}
theorem Inv.Jv {its its':List Value}{n:Nat}{f:Array Value->Array Value}{t':Nat}(I:Inv X gV Z H s)(hH:H l=some (.lst xs))
   (e:s.heap.get? l=some { cls:=.type "list",data:=.seq its.toArray n }) (hf:f its.toArray=its'.toArray) (hv:aL ys its') (hz:ys.length<=aal) :
   Inv X gV Z (upd H l (.lst ys)) { s with heap:=s.heap.update l (acH f),toks:=t' }:=by
 have q:=PySem.IsL.update e f;rw[hf] at q;refine I.write (x:=l) (e:=l) (by rw[hH];exact trivial) (.inl rfl) (λb' u hb hu=>(aaY s.heap (acH f) (Ne.symm hb)).trans hu) ⟨_,q⟩ ?_;exact⟨hz,its',_,hv,q⟩
theorem Inv.OX (I:Inv X gV Z H s)(hv:aL ys its)(hz:ys.length<=aal) :
   Inv X gV Z (upd H s.heap.objs.size (.lst ys)) { s with heap:=s.heap.push { cls:=.type "list",data:=.seq its.toArray },toks:=t' } :=
 I.laid (λ_ _ q=>aaf _ q) (aag _) ⟨hz,its,0,hv,aat _ rfl⟩
theorem Inv.fresh (I:Inv X gV Z H s):H s.heap.objs.size=none:=I.aA.fresh (aag _)
theorem Inv.tJ (I:Inv X gV Z H s)(hH:H l=some (.lst xs)):xs.length<=aal/\∃ (its:List Value) (n:Nat),aL xs its/\xs.length=its.length/\s.heap.get? l=some { cls:=.type "list",data:=.seq its.toArray n }:=by
 obtain⟨z,its,n,r,e⟩:=I.aA l _ hH;exact⟨z,its,n,r,r.length,e⟩
theorem zu (h:n<=aal):abV n=false:=by
 unfold abV;exact decide_eq_false (by omega)
end
section
variable {X:Cx}
def wC:V->List V->Hp->VK->Prop:=λx vs H Q=>∃ l xs y,x=.ref l/\vs=[y]/\H l=some (.lst xs)/\xs.length<aal/\Q .aC (upd H l (.lst (xs++[y])))
theorem yd:NJ X "list.append" wC:=by
 intro gV s Z H x vs v us Q I rx rv h;obtain⟨l,xs,y,rfl,rfl,hH,hz,q⟩:=h;cases rx
 obtain⟨u,rfl,ru⟩:=rv.one;obtain⟨z,its,n,r,hl,e⟩:=I.tJ hH;refine call_meets F.slot_list_append ⟨_,e,rfl⟩ F.entry_list_append (F.args_list_append_2 _ _) (PySem.list_append l its.toArray n u (by rw[aao];omega)) ⟨e,?_⟩;refine⟨.aC,_,I.Jv (its':=its++[u]) hH e (by simp) (r.append (.cons ru .nil)) ?_,rfl,q⟩;rw[aab,aaF];omega
def C5:V->List V->Hp->VK->Prop:=λx vs H Q=>∃ l b xs zs,x=.ref l/\vs=[.ref b]/\H l=some (.lst xs)/\H b=some (.lst zs)/\xs.length+zs.length<=aal/\Q .aC (upd H l (.lst (xs++zs)))
theorem Ha:NJ X "list.extend" C5:=by
 intro gV s Z H x vs v us Q I rx rv h;obtain⟨l,b,xs,zs,rfl,rfl,hH,hB,hz,q⟩:=h;cases rx
 obtain⟨u,rfl,ru⟩:=rv.one;cases ru
 obtain⟨z,its,n,r,hl,e⟩:=I.tJ hH;obtain⟨z2,U5,n2,r2,UJ,e2⟩:=I.tJ hB;have hsz:its.toArray.size+U5.toArray.size<=aal:=by rw[aao,aao];omega
 have WE : ¬ (!its.toArray.isEmpty && abV (its.toArray.size+U5.toArray.size))=true:=by
   rw[zu hsz,Bool.and_false];exact aap
 refine call_meets F.slot_list_extend ⟨_,e,rfl⟩ F.entry_list_extend (F.args_list_extend_2 _ _)
   (AutoSeq1.list_extend_list_list_0 l its.toArray n b U5.toArray n2 WE (by rw[aao];omega) (by omega)) ⟨e,e2,?_⟩
 refine⟨.aC,_,I.Jv (its':=its++U5) hH e (by simp) (r.append r2) ?_,rfl,q⟩;rw[aab];omega
def Od:V->List V->Hp->VK->Prop:=λx vs H Q=>∃ l xs y,x=.ref l/\vs=[]/\H l=some (.lst xs)/\xs[xs.length - 1]? = some y/\Q y (upd H l (.lst xs.dropLast))
theorem Gq:NJ X "list.pop" Od:=by
 intro gV s Z H x vs v us Q I rx rv h;obtain⟨l,xs,y,rfl,rfl,hH,hy,q⟩:=h;cases rx
 have hus:=rv.zero;subst hus;obtain⟨z,its,n,r,hl,e⟩:=I.tJ hH;obtain⟨u,hu,ru⟩:=r.get hy;have hy':its.toArray[its.toArray.size - 1]? = some u:=by
   show its.toArray[its.length - 1]? = some u;rw[<- adh,<- hl];exact hu
 refine call_meets F.slot_list_pop ⟨_,e,rfl⟩ F.entry_list_pop (F.args_list_pop_1 _) (MeetsSeq.list_pop_last l its.toArray n u hy' (by rw[aao];omega)) ⟨e,?_⟩;refine⟨y,_,I.Jv (its':=its.dropLast) hH e ?_ r.dropLast ?_,ru,q⟩
 . show its.toArray.eraseIdxIfInBounds (its.toArray.size - 1) = its.dropLast.toArray;rw[aao,List.eraseIdxIfInBounds_toArray,D5]
 . rw[List.length_dropLast];omega
def MR:R2:=λx y H Q=>∃ l b xs zs,x=.ref l/\y=.ref b/\H l=some (.lst xs)/\H b=some (.lst zs)/\xs.length+zs.length<=aal/\∀ p,H p=none->Q (.ref p) (upd H p (.lst (xs++zs)))
theorem MU:bQ X (abD .Add) MR:=by
 intro gV s Z H x y v u Q I rx ry h;obtain⟨l,b,xs,zs,rfl,rfl,hH,hB,hz,q⟩:=h;cases rx
 cases ry
 obtain⟨z,its,n,r,hl,e⟩:=I.tJ hH;obtain⟨z2,U5,n2,r2,UJ,e2⟩:=I.tJ hB;refine PySem.P.add_list e e2 ?_ (by rw[aao,aao];omega);have ea:its.toArray++U5.toArray=(its++U5).toArray:=by simp
 rw[ea];exact⟨.ref _,_,I.OX (t':=s.toks) (r.append r2) (by rw[aab];omega),rfl,q _ I.fresh⟩
def O1:R2:=λx y H Q=>∃ l k xs,x=.ref l/\y=.int k/\H l=some (.lst xs)/\-(2 ^ 63)<=k/\k<2 ^ 63/\xs.length*k.toNat<=aal /\
 ∀ p,H p=none->Q (.ref p) (upd H p (.lst (aau k.toNat xs).flatten))
theorem len_rep (xs:List α)(k:Nat):(aau k xs).flatten.length=k*xs.length:=by
 induction k with
 | zero=>simp
 | succ k ih=>rw[abu,acn,aab,ih,Nat.succ_mul,Nat.add_comm]
theorem Oe:bQ X (abD .Mult) O1:=by
 intro gV s Z H x y v u Q I rx ry h;obtain⟨l,k,xs,rfl,rfl,hH,h1,h2,hz,q⟩:=h;cases rx
 obtain⟨t,rfl⟩:=ry;obtain⟨z,its,n,r,hl,e⟩:=I.tJ hH;have S7:its.toArray.size*k.toNat<=aal:=by rw[aao,<- hl];exact hz
 have hcap : ¬ its.toArray.size*k.toNat > (2 ^ 63 - 1)/8:=by
   have:(aal:Nat)<=(2 ^ 63 - 1)/8:=by decide
   omega
 have hfit : ¬ (!Builtin.List.listFitsIndex k)=true:=by
   rw[fitsIndex_both h1 h2];exact aap
 have WE : ¬ abV (its.toArray.size*k.toNat)=true:=by
   rw[zu S7];exact aap
 have hnew:List.foldl (λx1 x2=>x1++x2) #[] (aau (if its.toArray.isEmpty=true then 0 else k.toNat) its.toArray)=(aau k.toNat its).flatten.toArray:=by
   have f0:∀ m:Nat,List.foldl (λx1 x2=>x1++x2) #[] (aau m its.toArray)=(aau m its).flatten.toArray:=λm=>by
     have:=foldl_rep its m []
     rw[List.nil_append] at this;exact this
   rw[f0];cases its with
   | nil=>simp
   | cons a r'=>rw[if_neg (by simp)]
 refine wpAny_binaryOp_repeat_ref (T := "list") (U := "int") (by decide) ⟨_, e, rfl⟩ (λs' => typeIs_int s' k t) noFill_list_mul F.fills_int_mul F.slot_int_rmul repeat_list F.slot_int_index.lookup
   (call_meets F.slot_int_rmul (typeIs_int s k t) F.entry_int_rmul (F.args_int_rmul_2 _ _) (int___rmul___int_list k t l its.toArray n)
     ⟨e,rfl,⟨_,e,rfl⟩,call_meets F.slot_list_mul ⟨_,e,rfl⟩ F.entry_list_mul (F.args_list_mul_2 _ _) (AutoListH.list___mul___list_int_3 l its.toArray n k t hfit hcap WE) ⟨e,?_⟩⟩)
 rw[hnew];exact⟨.ref _,_,I.OX (t':=s.toks) (r.rep k.toNat) (by rw[len_rep,Nat.mul_comm];exact hz),rfl,q _ I.fresh⟩
end
section
variable {κ : Type} [DecidableEq κ]
def cP (kvs:List (κ×V))(k : κ):Option V:=(kvs.find? λkv=>decide (kv.1=k)).map (·.2)
def putK (kvs:List (κ×V))(k : κ)(v:V):List (κ×V) :=
 if (kvs.any λkv=>decide (kv.1=k))=true then kvs.map (λkv=>if kv.1=k then (kv.1,v) else kv) else kvs++[(k,v)]
theorem mR {p : κ×V}{r:List (κ×V)}{k : κ}(e:p.1=k):cP (p::r) k=some p.2:=by simp[cP,abE,e]
theorem jG {p : κ×V}{r:List (κ×V)}{k : κ}(e : ¬ p.1=k):cP (p::r) k=cP r k:=by simp[cP,abE,e]
theorem j8 (k : κ):∀ kvs:List (κ×V),(kvs.any λkv=>decide (kv.1=k))=(cP kvs k).isSome
 | []=>rfl
 | p :: r => by
   rw[abA];by_cases e:p.1=k
   . simp only[mR e,decide_eq_true e,Bool.true_or,adE]
   . rw[jG e,decide_eq_false e,ac5];exact j8 k r
theorem rk (kvs:List (κ×V))(k : κ)(v:V):(putK kvs k v).length<=kvs.length+1:=by
 unfold putK;split
 . rw[aac];omega
 . rw[aab,aaG,acI];omega
variable {kvs:List (κ×V)}
theorem Iv (v:V)(h:cP kvs k=none):putK kvs k v=kvs++[(k,v)]:=by
 unfold putK;rw[j8,h];exact if_neg (by decide)
theorem fh.pV (r:fh o u):o.isSome=u.isSome:=by
 cases o with
 | none=>cases u with
   | none=>rfl
   | some _=>exact(show False from r).elim
 | some _=>cases u with
   | none=>exact(show False from r).elim
   | some _=>rfl
variable {vs:List (κ×Value)}
theorem KV.val (r:KV kvs vs)(k : κ):fh (cP kvs k) (valueAt vs k):=by
 unfold KV at r
 induction r with
 | nil=>exact aan
 | @cons p q ps qs h t ih =>
   obtain⟨h1,h2⟩:=h;by_cases e:p.1=k
   . have e' : q.1 = k := h1.symm.trans e;have b:valueAt (q::qs) k=some q.2:=by simp [valueAt,abE,e']
     rw[mR e,b];exact h2
   . have e' : ¬ q.1 = k := λz => e (h1.trans z);have b:valueAt (q::qs) k=valueAt qs k:=by simp [valueAt,abE,e']
     rw[jG e,b];exact ih
theorem KV.any (r:KV kvs vs)(k : κ):(kvs.any λkv=>decide (kv.1=k))=vs.any λkv=>decide (kv.1=k):=by
 unfold KV at r
 induction r with
 | nil=>rfl
 | cons h t ih=>rw[abA,abA,ih,h.1]
variable {u:Value} {y:V}
theorem KV.Jp (r:KV kvs vs)(k : κ)(ry:RelV y u) :
   KV (kvs.map λkv=>if kv.1=k then (kv.1,y) else kv) (vs.map λkv=>if kv.1=k then (kv.1,u) else kv):=by
 unfold KV at r ⊢
 induction r with
 | nil=>exact .nil
 | @cons p q ps qs h t ih =>
   rw[aaQ,aaQ];refine .cons ?_ ih;obtain⟨h1,h2⟩:=h;by_cases e:p.1=k
   . rw[if_pos e,if_pos (h1.symm.trans e)];exact⟨h1,ry⟩
   . rw[if_neg e,if_neg (λz=>e (h1.trans z))];exact⟨h1,h2⟩
theorem KV.put (r:KV kvs vs)(k : κ)(ry:RelV y u):KV (putK kvs k y) (stored vs k u):=by
 unfold putK stored;rw[r.any k];by_cases e:(vs.any λkv=>decide (kv.1=k))=true
 . rw[if_pos e,if_pos e];exact r.Jp k ry
 . rw[if_neg e,if_neg e];exact Paired.snoc r ⟨rfl,ry⟩
theorem KV.length (r:KV kvs vs):kvs.length=vs.length:=adC r
end
variable {u:Value}
theorem yX (r:RelV (kV k) u):(c4 P w).is k u=true:=by
 cases k with
 | inl i=>obtain⟨t,e⟩:=(show ∃ t,u=abt i t from r);subst e;exact B2 P w i t
 | inr x=>obtain⟨t,e⟩:=(show ∃ t,u=adF x t from r);subst e;exact B9 P w x t
theorem xT:∀ {ks:List Key} {us:List Value},aL (ks.map kV) us->ItemsAre (c4 P w) ks us
 | [],_,r=>by rw[List.map_nil] at r;cases r;exact .nil
 | k :: ks, _, r => by
   rw[aaQ] at r;cases r with
   | cons h t=>exact .cons (yX h) (xT t)
abbrev KT (H:Hp):List (List Key×V)->List (List Key×Addr×Value)->Prop:=Paired λp q=>p.1=q.1/\H q.2.1=some (.tup (p.1.map kV))/\RelV p.2 q.2.2
variable {H:Hp}
theorem KT.val {kvs:List (List Key×V)}{xs:List (List Key×Addr×Value)}(r:KT H kvs xs)(k:List Key):fh (cP kvs k) ((atKey xs k).map (·.2)):=by
 induction r with
 | nil=>exact aan
 | @cons p q ps qs h t ih =>
   obtain⟨h1,_,h2⟩:=h;by_cases e:p.1=k
   . have e' : q.1 = k := h1.symm.trans e;have b:atKey (q::qs) k=some q.2:=by simp [atKey,abE,e']
     rw[mR e,b];exact h2
   . have e' : ¬ q.1 = k := λz => e (h1.trans z);have b:atKey (q::qs) k=atKey qs k:=by simp [atKey,abE,e']
     rw[jG e,b];exact ih
variable {y:V}
theorem KT.Jp {kvs:List (List Key×V)}{xs:List (List Key×Addr×Value)}(r:KT H kvs xs)(k:List Key)(ry:RelV y u) :
   KT H (kvs.map λkv=>if kv.1=k then (kv.1,y) else kv) (xs.map (putAt k u)):=by
 induction r with
 | nil=>exact .nil
 | @cons p q ps qs h t ih =>
   rw[aaQ,aaQ];refine .cons ?_ ih;obtain⟨h1,h2,h3⟩:=h;unfold putAt;by_cases e:p.1=k
   . rw[if_pos e,if_pos (h1.symm.trans e)];exact⟨h1,h2,ry⟩
   . rw[if_neg e,if_neg (λz=>e (h1.trans z))];exact⟨h1,h2,h3⟩
theorem KT.put {kvs:List (List Key×V)}{xs:List (List Key×Addr×Value)}(r:KT H kvs xs)(k:List Key){b:Addr}(hb:H b=some (.tup (k.map kV)))(ry:RelV y u) :
   KT H (putK kvs k y) (storedH xs k b u):=by
 have e:(kvs.any λkv=>decide (kv.1=k))=(atKey xs k).isSome:=by
   rw[j8,(r.val k).pV,Option.isSome_map]
 unfold putK storedH;rw[e];by_cases q:(atKey xs k).isSome=true
 . rw[if_pos q,if_pos q];exact r.Jp k ry
 . rw[if_neg q,if_neg q];exact Paired.snoc r ⟨rfl,hb,ry⟩
theorem KT.keeps {H':Hp}{kvs:List (List Key×V)}{xs:List (List Key×Addr×Value)}(r:KT H kvs xs)(ht:∀ b ys,H b=some (.tup ys)->H' b=some (.tup ys)):KT H' kvs xs :=
 Paired.Iz r λ_ _ z=>⟨z.1,ht _ _ z.2.1,z.2.2⟩
section
variable {P:Program} {w:World} {H:Hp} {h:Heap} {a:Addr}
theorem Km {u:HO}(ok:dh P w H h)(e:Rd H a u):b8 P w H h a u:=e.ok ok
theorem kK (ok:dh P w H h)(e:Rd H a (.dK kvs)):kvs.length<=aal/\(a == aci)=false/\∃ vs,KV kvs vs/\h.DictOf (c4 P w) a vs :=
 show b8 P w H h a (.dK kvs) from Km ok e
theorem Qz (ok:dh P w H h)(e:H a=some (.dK kvs)):kvs.length<=aal/\(a == aci)=false/\∃ vs,KV kvs vs/\h.DictOf (c4 P w) a vs:=kK ok (.inl e)
theorem vp (ok:dh P w H h)(e:H a=some (.tup (ks.map kV))):(tupleKind (c4 P w)).is h ks a:=by
 obtain⟨_,its,r,o,h1,h2,n,h3⟩:=(show b8 P w H h a (.tup (ks.map kV)) from ok a _ e)
 exact⟨o,its.toArray,n,h1,h2,h3,by simpa using xT r⟩
theorem zc (ok:dh P w H h)(e:Rd H a (.dT kvs)):kvs.length<=aal/\(a == aci)=false /\
   ∃ xs,KT H kvs xs/\h.DictOfH (tupleKind (c4 P w)) a xs:=by
 obtain⟨z,y,xs,r,o,es,ep,h1,h2,h3,h4,h5⟩:=(show b8 P w H h a (.dT kvs) from Km ok e)
 refine⟨z,y,xs,r,o,es,ep,h1,h2,h3,h4,λx hx=>?_,h5⟩;have all:∀ {l:List (List Key×V)} {m:List (List Key×Addr×Value)},KT H l m->∀ x∈m,(tupleKind (c4 P w)).is h x.1 x.2.1:=by
   intro l m q
   induction q with
   | nil=>intro x hx;exact nomatch hx
   | @cons p q ps qs hq t ih =>
     intro x hx;rcases List.mem_cons.mp hx with e | hx
     . subst e;exact vp ok (by rw[<- hq.1];exact hq.2.1)
     . exact ih x hx
 exact all r x hx
theorem Qk (ok:dh P w H h)(e:H a=some (.dT kvs)):kvs.length<=aal/\(a == aci)=false /\
   ∃ xs,KT H kvs xs/\h.DictOfH (tupleKind (c4 P w)) a xs:=zc ok (.inl e)
end
def gH (H:Hp)(a:Addr)(y:V)(r:Option V):Prop :=
 (∃ kvs k,Rd H a (.dK kvs)/\y=kV k/\r=cP kvs k)∨∃ kvs k b,Rd H a (.dT kvs)/\y=.ref b/\H b=some (.tup (k.map kV))/\r=cP kvs k
def tT (H:Hp)(a:Addr)(y v:V)(H':Hp):Prop :=
 (∃ kvs k,H a=some (.dK kvs)/\y=kV k/\kvs.length<aal/\H'=upd H a (.dK (putK kvs k v))) ∨
 ∃ kvs k b,H a=some (.dT kvs)/\y=.ref b/\H b=some (.tup (k.map kV))/\kvs.length<aal/\H'=upd H a (.dT (putK kvs k v))
theorem gH.k {a:Addr}{kvs:List (Key×V)}{k:Key}(e:H a=some (.dK kvs)):gH H a (kV k) (cP kvs k):=.inl ⟨kvs,k,.inl e,rfl,rfl⟩
theorem tT.k {a:Addr}{kvs:List (Key×V)}{k:Key}{v:V}(e:H a=some (.dK kvs))(hl:kvs.length<aal):tT H a (kV k) v (upd H a (.dK (putK kvs k v))):=.inl ⟨kvs,k,e,rfl,hl,rfl⟩
section
variable {X:Cx} {gV:List (Addr×Obj)} {Z : St} {H:Hp} {s:Shared} {a:Addr} {y v:V} {u r:Value} {o:Option V} {A:Around} {E:Value->Shared->Prop}
theorem Inv.zF (I:Inv X gV Z H s):aci<s.heap.objs.size:=by
 have h:aa4<s.heap.objs.size:=(I.mod.glob.keeps I.bk).lt;exact Nat.lt_trans (by decide) h
variable {Q:Value->Shared->Prop}
theorem Ga (hu:A.units+1<cLine)(I:Inv X gV Z H s)(g:gH H a y (some v))(ry:RelV y u)(h:∀ w' s',Inv X gV Z H s'->RelV v w'->Q w' s') :
   wpAny (model X.prog X.w) A (getItem (.ref a) u) Q E s:=by
 rcases g with ⟨kvs,k,e,ey,l⟩ | ⟨kvs,k,b,e,ey,eb,l⟩
 . subst ey;obtain⟨z,hd,vs,TV,dd⟩:=kK I.aA e;obtain⟨w',hw,V6⟩:=fh.some_of (v:=v) (o:=valueAt vs k) (by rw[l];exact TV.val k);exact wpAny_getItem_of (yX ry) dd.mapOf hw (h w' _ (I.tok _) V6)
 . subst ey;cases (show u=Tg b from ry)
   obtain⟨z,hd,xs,TV,dd⟩:=zc I.aA e;obtain⟨w',hw,V6⟩:=fh.some_of (v:=v) (o:=(atKey xs k).map (·.2)) (by rw[l];exact TV.val k);obtain⟨p,hp,U0⟩:=Option.map_eq_some_iff.mp hw;refine wpAny_getItem_heap (tupleKind_room_in1 hu) (vp I.aA eb) dd hp ?_;rw[U0];exact h w' _ (I.tok _) V6
theorem Q9 (hu:A.units+1<cLine)(I:Inv X gV Z H s)(g:gH H a y o)(ry:RelV y u)(h:∀ s',Inv X gV Z H s'->Q (.bool o.isSome) s') :
   wpAny (model X.prog X.w) A (aaU .In u (.ref a)) Q E s:=by
 rcases g with ⟨kvs,k,e,ey,l⟩ | ⟨kvs,k,b,e,ey,eb,l⟩
 . subst ey;obtain⟨z,hd,vs,TV,dd⟩:=kK I.aA e;refine wpAny_in_of (yX ry) hd dd.mapOf ?_;rw[<- (TV.val k).pV,<- l];exact h _ (I.tok _)
 . subst ey;cases (show u=Tg b from ry)
   obtain⟨z,hd,xs,TV,dd⟩:=zc I.aA e;refine wpAny_in_heap (tupleKind_room_in1 hu) (vp I.aA eb) hd dd ?_;have q:=(TV.val k).pV;rw[Option.isSome_map] at q;rw[<- q,<- l];exact h _ (I.tok _)
theorem CQ (I:Inv X gV Z H s)(mu:Gd (H a))(hs:aca a s.heap h')(he:∃ q,h'.get? a=some q)(new:b8 X.prog X.w (upd H a ob) h' a ob) :
   Inv X gV Z (upd H a ob) { s with heap:=h',toks:=t' } :=
 I.write (x:=a) (e:=a) mu (.inl rfl) (λb q hb z=>(hs.2 b hb).trans z) he new
theorem E5 (z:kvs.length<=aal)(hd:(a == aci)=false)(TV:KV kvs vs)(dd:h'.DictOf (c4 P w) a vs) :
   b8 P w H' h' a (.dK kvs):=⟨z,hd,vs,TV,dd⟩
theorem FO {H':Hp}{Q:Unit->Shared->Prop}(hu:A.units+1<cLine)(I:Inv X gV Z H s)(g:tT H a y v H')(ry:RelV y u)(rv:RelV v r)(h:∀ s',Inv X gV Z H' s'->Q () s') :
   wpAny (model X.prog X.w) A (setItem (.ref a) u r) Q E s:=by
 rcases g with ⟨kvs,k,e,ey,l,eH⟩ | ⟨kvs,k,b,e,ey,eb,l,eH⟩
 . subst ey eH;obtain ⟨z,hd,vs,TV,dd⟩:=Qz I.aA e;have hz:vs.length<=aal:=by rw [<- TV.length];exact z
   have hl:(putK kvs k v).length<=aal:=by have:=rk kvs k v;omega
   refine wpAny_setItem_pairs (hsz:=hz) (yX ry) dd λh' dd' hs=>h _ ?_;have he:∃ q,h'.get? a=some q:=let ⟨q,_,_,hq,_⟩:=dd';⟨q,hq⟩;exact CQ I (by rw[e];exact aan) hs he (E5 hl hd (TV.put k rv) dd')
 . subst ey eH;cases (show u=Tg b from ry)
   obtain⟨z,hd,xs,TV,dd⟩:=Qk I.aA e;have hz:xs.length<=aal:=by rw[<- adC TV];exact z
   have hl:(putK kvs k v).length<=aal:=by have:=rk kvs k v;omega
   refine wpAny_setItem_heap (hsz:=hz) (tupleKind_room_in1 hu) (vp I.aA eb) dd λh' dd' hs=>h _ ?_;obtain⟨q,es,ep,hq,h2,h3,h4,_,h5⟩:=dd';refine CQ I (by rw[e];exact aan) hs ⟨q,hq⟩ ⟨hl,hd,_,(TV.put k eb rv).keeps λc ys ec=>?_,q,es,ep,hq,h2,h3,h4,h5⟩;rw[ak (J3 ec e (λz=>nomatch z))];exact ec
end
section
variable {X:Cx} {gV:List (Addr×Obj)} {Z : St} {H:Hp} {s:Shared} {a:Addr} {kvs:List (Key×V)} {k:Key} {u:Value} {A:Around} {E:Value->Shared->Prop}
variable {Q:Value->Shared->Prop}
theorem Qq (I:Inv X gV Z H s)(e:Rd H a (.dK kvs))(h:∀ t s',Inv X gV Z H s'->Q (.int kvs.length t) s'):wpAny (model X.prog X.w) A (call (.builtin "len") [.ref a]) Q E s:=by
 obtain⟨z,hd,vs,TV,dd⟩:=kK I.aA e;refine call_len_dict hd dd (by rw[<- TV.length];rw[aaI] at z;omega) ?_;rw[<- TV.length];exact h _ _ (I.tok _)
end
def ON (i:Expr):Prop:=∀ ov iv,subscripted i false ov iv=operate [ov,iv] (getItem ov iv)
theorem Le {prog:Program}{w:World}{A:Around}{E:Value->Shared->Prop}{s:Shared}{env:Env}{value Ts:Expr}{pos:Pos}{T id:String}{Q:Value->Shared->Prop}
   (hl:adM (.type T) "__getitem__" = pure (some (.builtin id))) (hs:ON Ts)
   (h:wpAny (model prog w) A (eval value env) (λo s₁=>wpAny (model prog w) A (eval Ts env) (λi s₂=>s₂.TypeIs o T/\wpAny (model prog w) A (getItem o i) Q E s₂) E s₁) E s) :
   wpAny (model prog w) A (eval (.Subscript value Ts pos) env) Q E s:=by
 refine Subscript_ (aaH h (λo s₁ h₁=>aaH h₁ (λi s₂ h₂=>?_) λ_ _ x=>x) λ_ _ x=>x);obtain⟨hT,h₂⟩:=h₂;unfold subscriptTail;refine aad ?_;rw[getitemInPython_of_ne hT.not_modules];refine aad (adG hT hl ?_);have Td:wpAny (model prog w) A (subscripted Ts false o i) (λr s₃=>wpAny (model prog w) A (letTemporaryGo value o r >>= λ_=>pure r) Q E s₃) E s₂:=by
   rw[hs o i];exact wpAny_operating (aaH h₂ (λr s₃ h₃=>aad (wpAny_letTemporaryGo (aaj h₃))) λ_ _ x=>x)
 first
   | exact aaj (aad Td)
   | exact aad (aaj (aad Td))
   | exact aad Td
variable {s:Shared} {gV:List (Addr×Obj)}
theorem B6 (I:Inv X gV Z H s)(g:gH H a y o):s.TypeIs (.ref a) "dict":=by
 rcases g with ⟨kvs,k,e,_,_⟩ | ⟨kvs,k,b,e,_,_,_⟩
 . obtain⟨_, _, vs, _, dd⟩ := kK I.aA e;exact dd.typeIs
 . obtain⟨_, _, xs, _, dd⟩ := zc I.aA e;exact dd.typeIs
def KI (td ty:TE):TE:=λZ H Q=>td Z H λx H1=>ty Z H1 λy H2=>∃ a v,x=.ref a/\gH H2 a y (some v)/\Q v H2
def NC (ty td:TE):TE:=λZ H Q=>ty Z H λy H1=>td Z H1 λx H2=>∃ a o,x=.ref a/\gH H2 a y o/\Q (.bl o.isSome) H2
def Kj (td ty tv:TE):TS:=λD Z H=>tv Z H λv H1=>td Z H1 λx H2=>ty Z H2 λy H3=>∃ a H4,x=.ref a/\tT H3 a y v H4/\D.nx Z H4
section
variable {X:Cx} {o i e value:Expr} {pos TF T4:Pos} {td ty tv:TE}
theorem wW (hu:X.A.units+1<cLine)(ho:PE X o td)(hi:PE X i ty)(hs:ON i):PE X (.Subscript o i pos) (KI td ty):=by
 intro gV s Z H Q I h;refine Le PySem.F.slot_dict_getitem.lookup hs (aR (ho gV s Z H _ I h) λu s1 zq=>bR zq λx H1 I1 rx q1=>aR (hi gV s1 Z H1 _ I1 q1) λiv s2 zq=>?_);obtain⟨y,H2,I2,ry,a,v,ex,g,q2⟩:=zq;subst ex;obtain rfl:u=Tg a:=rx;exact⟨B6 I2 g,Ga hu I2 g ry λw' s3 I3 V6=>⟨v,H2,I3,V6,q2⟩⟩
theorem A5 (hu:X.A.units+1<cLine)(hi:PE X i ty)(ho:PE X o td):PC X .In i o (NC ty td):=by
 intro gV s Z H Q I h;refine aR (hi gV s Z H _ I h) λiv s1 zq=>bR zq λy H1 I1 ry q1=>aR (ho gV s1 Z H1 _ I1 q1) λu s2 zq=>?_;obtain⟨x,H2,I2,rx,a,ov,ex,g,q2⟩:=zq;subst ex;obtain rfl:u=Tg a:=rx;exact Q9 hu I2 g ry λs3 I3=>⟨.bl ov.isSome,H2,I3,rfl,q2⟩
theorem wY (hu:X.A.units+1<cLine)(ho:PE X o td)(hi:PE X i ty)(hv:PE X value tv)(hs:acV value (some (.Subscript o i TF)) pos.line X.env=pure false) :
   PS X (.Assign [.Subscript o i TF] value pos) (Kj td ty tv):=by
 intro gV s Z H D I h;refine wpAny_Assign_Subscript (aR (hv gV s Z H _ I h) λr s1 zq=>bR zq λv H1 I1 rv q1=>aR (ho gV s1 Z H1 _ I1 q1) λu s2 zq=>bR zq λx H2 I2 rx q2=>aR (hi gV s2 Z H2 _ I2 q2) λiv s3 zq=>?_) hs;obtain⟨y,H3,I3,ry,a,H4,ex,g,q3⟩:=zq;subst ex;obtain rfl:u=Tg a:=rx;exact FO hu I3 g ry rv λs4 I4=>⟨Z,H4,I4,q3⟩
end
theorem Iu (h:Heap)(hb:aci<h.objs.size):b8 P w H (h.push { cls:=.type "dict",data:=.dict #[] }) h.objs.size (.dK []) :=
 ⟨aaT _,beq_eq_false_iff_ne.mpr (Ne.symm (aaw hb)),[],.nil,Heap.DictOf.new h⟩
def GH:TE:=λ_ H Q=>∀ p,H p=none->Q (.ref p) (upd H p (.dK []))
section
variable {X:Cx} {pos:Pos}
theorem zT:PE X (.Dict [] [] pos) GH:=λgV s Z H Q I h =>
 wpAny_Dict_empty ⟨.ref s.heap.objs.size,_,I.laid (a:=s.heap.objs.size) (o:=.dK []) (t':=s.toks) (λ_ _ q=>aaf _ q) (aag _) (Iu s.heap I.zF),rfl,h _ (I.aA.fresh (aag _))⟩
end
section
variable {X:Cx} {gV:List (Addr×Obj)} {Z : St} {H:Hp} {s:Shared} {a:Addr} {kvs:List (Key×V)} {A:Around} {E:Value->Shared->Prop}
variable {Q:Value->Shared->Prop}
theorem Ij (I:Inv X gV Z H s)(e:Rd H a (.dK kvs))(h:∀ p s',H p=none->Inv X gV Z (upd H p (.dK kvs)) s'->Q (.ref p) s'):wpAny (model X.prog X.w) A (call (.type "dict") [.ref a]) Q E s:=by
 obtain⟨z,hd,vs,TV,dd⟩:=kK I.aA e;refine kt_call_dict hd dd (by rw[<- TV.length];exact z) λh' dd' hs=>?_;refine h _ _ (I.aA.fresh (aag _)) (I.laid (a:=s.heap.objs.size) (o:=.dK kvs) (t':=s.toks) (λb q hq=>?_) (aag _) (E5 z (beq_eq_false_iff_ne.mpr (Ne.symm (aaw I.zF))) TV dd'));exact(hs.2 b (aaw (aam hq))).trans (aaf _ hq)
end
end L2
namespace Att
open PySem PySem.W PySem.Calls PyProof.Rows
theorem vD:∀ (ns:List Int) (vs:List Value),WellAll P h vs (ns.map WData.int)->IntsAre vs ns:=by
 intro ns
 induction ns with
 | nil =>
   intro vs w;rw[List.map_nil] at w;cases w
   exact .nil
 | cons n ns ih =>
   intro vs w;rw[aaQ] at w;cases w with
   | cons a b =>
     cases a
     exact .cons _ _ (ih _ b)
theorem Fj {l:OpenLaw}{n:Nat}(hn:l.most=some n){P:Params}{h:Heap}{args:List WData}{vals:List Value}
   (hpre:l.row.toRowW.claim.pre args=true) (hwl:WellAll P h vals args) :
   ∃ a vs ns,vals=[Tg a]/\args=[WData.list (ns.map WData.int)]/\h.get? a=some { cls:=.type "list",data:=.seq vs.toArray }/\IntsAre vs ns/\ns.length<=n:=by
 have hsh:WShape.hasAll [] args [.list .int]=true:=(pre_splitW hpre).1;have hc:l.pre.holds [] { args:=args }=true:=(pre_splitW hpre).2;obtain⟨d,r,rfl,h1,h2⟩:=hasAllW_cons hsh;obtain rfl:=hasAllW_nil h2;obtain⟨xs,rfl,h3⟩:=hasW_list h1;obtain⟨ns,rfl⟩:=items_int h3;have S7:ns.length<=n:=by
   unfold OpenLaw.pre at hc;have h4:(WTm.not (.lt (.lit (.int (n:Int))) (.len (.arg 0)))).holds [] { args:=[.list (ns.map .int)] }=true:=by
     have h4:=(holds_andW hc).1;rw[hn] at h4;exact h4
   have h5:=condW_of h4 (w_not (w_lt w_lit (w_len_list (w_arg rfl))));rw[aac] at h5;refine Nat.le_of_not_lt λq=>?_;have q':(n:Int)<((ns.length:Nat):Int):=by omega
   first
     | (rw[decide_eq_true q'] at h5;exact absurd h5 (by decide))
     | (simp at h5;omega)
 cases hwl with
 | cons w1 w2 =>
   cases w2
   cases w1 with
   | list ho hall=>exact⟨_,_,ns,rfl,rfl,ho,vD ns _ hall,S7⟩
theorem Fl (l:OpenLaw)(args:List WData):l.row.toRowW.claim.post args (.bool true) args=true :=
 postW_of (r:=l.row.toRowW) (X:=(true == true))
   (show WShape.has [] (.bool true) .bool=true by first | rfl | decide | simp[WShape.has,WShape.arms,WShape.armsAll])
   (show(WTm.eq .res (.lit (.bool true))).value [] { args:=args,res:=some (.bool true),after:=args }=some (.bool (true == true)) from w_eq_bool (w_res rfl) w_lit) rfl
theorem B8 {l:OpenLaw}{n:Nat}{q:Program}{UG:List Str}{XP:(Str->Option Value)->Heap->Prop}{YP:World->Heap->Prop}{d:DefRec}
   (hn:l.most=some n) (hdf:d.params.defaults=[])
   (call:∀ (w:World) (s₀ s₁ : Shared) (mg mb:Str->Option Value) (fa:Addr) (o:Obj) (pm cd Ta:Value) (a:Addr) (vs:List Value) (ns:List Int),
     Ground q UG [] XP w s₀ mg mb s₁.heap->YP w s₁.heap ->
     s₁.heap.get? fa=some o->o.data=.func (docDef d.name d.params d.body d.scope pm cd Ta)->s₁.heap.CodeRec cd d.name->mg d.name=some (.ref fa) ->
     s₁.heap.get? a=some { cls:=.type "list",data:=.seq vs.toArray }->IntsAre vs ns->ns.length<=n->s₁.gens = #[] ->
     codeAny (model l.prog w) callerA (.call (.ref fa) ⟨[.ref a],[]⟩) (λr s'=>r=.ok (.ret (.bool true))/\OldK s₁.heap s'.heap/\s'.os=s₁.os/\AllBare s'.gens) s₁) :
   WalkO q UG XP YP l.row.toRowW d [] (λf vs=>PySem.call f vs):=by
 intro w s₀ s₁ mg mb G Y fa o pm cd Ta dV kV ho hd Ud hD hmg hg args vals as hpre hlay hrd hwl hlo;obtain rfl:dV=.none:=Dflts.none hD hdf;obtain rfl:kV=.none:=Dflts.noKw hD;obtain⟨a,vs,ns,rfl,rfl,hobj,WG,S7⟩:=Fj hn hpre hwl;refine enter_call (ab0 (call w s₀ s₁ mg mb fa o pm cd Ta a vs ns G Y ho (fd_plain hd) Ud hmg hobj WG S7 hg) λr s' hq=>?_);obtain⟨rfl,h2,h3,h4⟩:=hq;exact⟨.inl ⟨.bool true,.bool true,[],rfl,λ_=>rfl,.bool true,Fl l _,λ_=>⟨List.Pairwise.nil,λ_ hm=>(nomatch hm)⟩⟩,h2,h3,h4⟩
end Att
namespace L2
open PySem PySem.Spec PyProof.Rows
theorem xI:∀ {vs:List Value} {ns:List Int},IntsAre vs ns->aL (ns.map V.int) vs
 | _,_,.nil=>.nil
 | _,_,.cons n t h=>.cons ⟨t,rfl⟩ (xI h)
def IW (H:Hp):Prop:=∀ b,H b=none∨∃ o xs,H b=some (.ky o (.lst xs))
theorem Ic {P:Program}{w:World}{K:W.Frag}{mg mb:Str->Option Value}{CX:dM}{k:Nat}{fa a:Addr}{fd:aa3}{x:Str}{sp:Sp}{s₁ : Shared}{vs:List Value}{ns:List Int}
   (KX:K.In s₁.heap) (hns:s₁.heap.Ns aa4 mg) (hb:s₁.heap.Ns builtinsNs mb) (hbb:∀ x:Str,x ≠ "__name__"->mb x=aaW x) (hlim:s₁.heap.NoLimit) (hg:s₁.gens = #[])
   (ha:s₁.heap.get? a=some { cls:=.type "list",data:=.seq vs.toArray }) (hi:IntsAre vs ns) (hl:ns.length<=aal) (hr:bH k callerA)
   (F:∀ base:Heap,K.In base->base.Ns aa4 mg->c7 P w K mg base CX k fa fd [x] sp) (hbind:∀ (s:Shared) (u:Value),BindsTo s fd ⟨[u],[]⟩ [(x,u)])
   (UT:∀ H:Hp,IW H->ar K H a (ns.map V.int)->sp [.ref a] H (λv _=>v=.bl true) λ_ _ _=>False)
   (hCX:∀ H e s',CX [] H s₁ (λ_ _ _=>False) e s'->False) :
   codeAny (model P w) callerA (.call (.ref fa) ⟨[.ref a],[]⟩) (λr s'=>r=.ok (.ret (.bool true))/\OldK s₁.heap s'.heap/\s'.os=s₁.os/\AllBare s'.gens) s₁:=by
 have rv:=xI hi;have lenV:=hi.length
 -- from an abstract heap in which nothing but the script may be UR
 have core : ∀ H : Hp, IW H -> ar K H a (ns.map V.int) -> dh P w H s₁.heap -> (∀ b, H b ≠ none -> b = a) -> (H a ≠ none -> K.lookup a = none) ->
     codeAny (model P w) callerA (.call (.ref fa) ⟨[.ref a],[]⟩) (λr s'=>r=.ok (.ret (.bool true))/\OldK s₁.heap s'.heap/\s'.os=s₁.os/\AllBare s'.gens) s₁:=by
   intro H hO hS aA hA hK;have VC:∀ {b:Addr} {o:Obj},s₁.heap.get? b=some o->H b=none->(nv s₁.heap H).get? b=some o:=λe n=>Iy e n;have noA:∀ {b:Addr} {o:Obj} {es:Array DictEntry} {ep:Nat},s₁.heap.get? b=some o->o.data=.dict es ep->H b=none:=λ{b o es ep} e d=>by
     cases q:H b with
     | none=>rfl
     | some u =>
       have e':b=a:=hA b (by rw[q];simp);subst e';rw[ha] at e;cases e;have d':Data.seq vs.toArray _=Data.dict es ep:=d;cases d'
   have nsK:∀ {b:Addr} {m:Str->Option Value},s₁.heap.Ns b m->(nv s₁.heap H).Ns b m:=λ{b m} ⟨o,es,ep,e,d,r⟩=>⟨o,es,ep,VC e (noA e d),d,r⟩;have hKb:K.In (nv s₁.heap H):=λb o e=>VC (KX b o e) (by
     cases q:H b with
     | none=>rfl
     | some u =>
       have e':b=a:=hA b (by rw[q];simp);subst e';rw[hK (by rw[q];simp)] at e;cases e)
   have hM:Mod K mg (nv s₁.heap H):=⟨hKb,nsK hns,⟨mb,nsK hb,hbb⟩,let ⟨mc,h1,h2⟩:=hlim;⟨mc,nsK h1,h2⟩⟩
   have e0:sC P w K mg (nv s₁.heap H) callerA [] s₁ H:=⟨rfl,hM,λb o e=>Md e,acx (Gg _ _),trivial,λb hb=>absurd (show b∈([]:List Addr) from hb) (by simp),aA,.of_eq hg⟩
   refine ab0 ((F _ hKb (nsK hns)).run callerA [] s₁ H ⟨[.ref a],[]⟩ [.ref a] [.ref a] _ _ hr e0 (hbind s₁ (.ref a)) (.cons rfl .nil) (UT H hO hS)) λr s' h=>?_;cases r with
   | error e=>exact(hCX H e s' h).elim
   | ok fl =>
     cases fl with
     | next=>exact aaV h
     | brk=>exact aaV h
     | cont=>exact aaV h
     | ret u =>
       obtain⟨v,H',os,bare,un,hok',r',q⟩:=h;have q':v=.bl true:=q;subst q';obtain rfl:u=adi true:=r';refine⟨rfl,OldK.of_keep λb o e=>?_,os,bare⟩;cases q:H b with
       | none=>exact un.keep b o e q (by intro z;exact absurd (show b∈([]:List Addr) from z) (by simp)) (by simp)
       | some u =>
         rcases hO b with z | ⟨ob,xs,z⟩
         . rw[q] at z;cases z
         . have z2 := un.iO b ob _ z;obtain⟨e1,_⟩:=aA b _ z;obtain⟨e2,_⟩:=hok' b _ z2;rw[e] at e1;cases e1;exact e2
 cases hk:K.lookup a with
 | some o =>
   -- the script is one of the module's own objects
   have e:=KX a o hk;rw[ha] at e;cases e
   refine core (λ_=>none) (λ_=>.inl rfl) (.inr ⟨_,vs.toArray,_,hk,rfl,rfl,rfl,by rw[aao,lenV];exact hl,by simpa using rv⟩) (λb u z=>by have z':(none:Option HO)=some u:=z;cases z') (λb z=>absurd rfl z) λz=>absurd rfl z
 | none =>
   refine core (λb=>if b=a then some (.ky { cls:=.type "list",data:=.seq vs.toArray } (.lst (ns.map V.int))) else none) (λb=>?_) (.inl (.inr ⟨{ cls:=.type "list",data:=.seq vs.toArray },if_pos rfl⟩)) (λb u z=>?_) (λb z=>?_) λ_=>hk
   . by_cases hb:b=a
     . exact .inr ⟨_,_,if_pos hb⟩
     . exact .inl (if_neg hb)
   . by_cases hb:b=a
     . have z' := (if_pos hb).symm.trans z;cases z'
       subst hb;exact⟨ha,by rw[aac];exact hl,vs,_,rv,ha⟩
     . have z' := (if_neg hb).symm.trans z;cases z'
   . by_cases hb:b=a
     . exact hb
     . exact absurd (if_neg hb) z
abbrev J8 {K:W.Frag}{h:Heap}(_:K.In h):W.Frag:=K
theorem Lr {l:W.OpenLaw}{n k:Nat}{q:Program}{UG:List Str}{XP:(Str->Option Value)->Heap->Prop}{YP:World->Heap->Prop}{d:DefRec}{K:Params->W.Frag}{CX:World->dM}{sp:World->Sp}{x:Str}
   (hn:l.most=some n) (hn2:n<=aal) (hdf:d.params.defaults=[]) (hr:bH k callerA)
   (hY:∀ (w:World) (h:Heap),YP w h->(K w.params).In h)
   (F:∀ (w:World) (mg:Str->Option Value) (fa:Addr) (h:Heap),(K w.params).In h->h.Ns aa4 mg->mg d.name=some (.ref fa) ->
     ∃ fd:aa3,(∀ (s:Shared) (u:Value),BindsTo s fd ⟨[u],[]⟩ [(x,u)]) /\
       ∀ base:Heap,(K w.params).In base->base.Ns aa4 mg->c7 l.prog w (K w.params) mg base (CX w) k fa fd [x] (sp w))
   (UT:∀ (w:World) (H:Hp) (a:Addr) (ns:List Int),ns.length<=n->IW H->ar (K w.params) H a (ns.map V.int)->sp w [.ref a] H (λv _=>v=.bl true) λ_ _ _=>False)
   (hCX:∀ (w:World) (H:Hp) (s:Shared) (e:Value) (s':Shared),CX w [] H s (λ_ _ _=>False) e s'->False) :
   W.WalkO q UG XP YP l.row.toRowW d [] (λf vs=>PySem.call f vs):=by
 refine Att.B8 hn hdf λw s₀ s₁ mg mb fa o pm cd Ta a vs ns G Y ho hd Ud hmg hobj WG S7 hg=>?_;have KX:=hY w _ Y;obtain⟨fd,hb,hF⟩:=F w mg fa _ KX G.T.g hmg;exact Ic KX G.T.g G.T.b G.T.builtins G.T.nolimit hg hobj WG (aaK S7 hn2) hr hF hb (λH hO hS=>UT w H a ns S7 hO hS) λH e s'=>hCX w H s₁ e s'
def inClass (s:Stmt)(j:Nat):Stmt:=match s with
 | .ClassDef _ _ _ body _ _ _ _ _ _ _=>body.getD j (.Pass ⟨0,0,0,0⟩)
 | _=>.Pass ⟨0,0,0,0⟩
def a9 (s:Stmt):Arguments:=match s with
 | .FunctionDef _ a _ _ _ _ _ _ _ _=>a
 | _=>{ posonlyargs:=[],args:=[],vararg:=none,kwonlyargs:=[],kw_defaults:=[],kwarg:=none,defaults:=[] }
def aU (s:Stmt):List Stmt:=match s with
 | .FunctionDef _ _ b _ _ _ _ _ _ _=>b
 | _=>[]
def ah (s:Stmt):Scope:=match s with
 | .FunctionDef _ _ _ _ _ _ sc _ _ _=>sc
 | _=>{ kind:=.function,names:=[],isGenerator:=false,isCoroutine:=false }
abbrev cb:dM:=λ_ _ _ _ _ _=>False
abbrev E0:XK:=λ_ _ _=>False
theorem b_:dH cb X E0:=λ_ _ _ _ _ _ _ h=>h.elim
structure dY (K:W.Frag)(x qual:Str)(st:Stmt)(f:Addr)(fd:aa3):Prop where
 ex:∃ (oc:Value) (od:Option Addr) (kV Ta pm:Value) (an:Option Addr) (S6 ct:Value) (Tv:Array (Option Value)),
   fd=W.fnOf x qual (a9 st) (aU st) (ah st) .none kV Ta pm an S6 ct/\K.lookup f=some ⟨oc,od,.func fd,Tv⟩/\abR K S6 qual=true
 kp:abh K (.ref f)=true
section
variable {P:Program} {w:World} {K:W.Frag} {mg:Str->Option Value} {base:Heap}
variable {x:Str}
theorem dY.ok {qual:Str}{st:Stmt}{f:Addr}{fd:aa3}{N ps:List Str}{k:Nat}{sp:Sp}(F:dY K x qual st f fd)(S:aq N ps (ah st))(len:∀ vs H Q E,sp vs H Q E->vs.length=ps.length)
   (S_:∀ (S6:Value) (A:Around) (outer:List Env) (s:Shared) (H:Hp) (vs:List V) (Q:VK) (E:XK),bH k (A.deeper (envOfC qual (ah st) s.heap.objs.size f S6))->sp vs H Q E ->
     ∃ t,gj (bW cb P w K mg base N qual (ah st) f S6 A outer s H E).eY (aU st) t/\t { nx:=λ_ H'=>Q .aC H',rt:=Q } (start N vs) H):c7 P w K mg base cb (k+1) f fd ps sp:=by
 obtain⟨oc,od,kV,Ta,pm,an,S6,ct,Tv,rfl,lk,Ud⟩:=F.ex;refine qT lk Ud S len λA outer s H vs Q E hr UT=>?_;obtain⟨t,h,q⟩:=S_ S6 A outer s H vs Q E hr UT;exact⟨t,h.eY,q⟩
theorem dY.binds {qual:Str}{st:Stmt}{f:Addr}{fd:aa3}{ps:List Str}(F:dY K x qual st f fd)
   (h:∀ (kV Ta pm:Value) (an:Option Addr) (S6 ct:Value) (us:List Value),us.length=ps.length->abW (W.fnOf x qual (a9 st) (aU st) (ah st) .none kV Ta pm an S6 ct) ⟨us,[]⟩=pure (ps.zip us)):Binds K fd ps []:=by
 obtain⟨oc,od,kV,Ta,pm,an,S6,ct,Tv,rfl,lk,Ud⟩:=F.ex;exact .all (h kV Ta pm an S6 ct)
theorem gh {qual:Str}{st:Stmt}{f:Addr}{oc:Value}{od an:Option Addr}{Tv:Array (Option Value)}{kV Ta pm S6 ct:Value}(l:K.lookup f=some ⟨oc,od,.func (W.fnOf x qual (a9 st) (aU st) (ah st) .none kV Ta pm an S6 ct),Tv⟩)
   (c:abR K S6 qual=true) (k:abh K (.ref f)=true):dY K x qual st f (W.fnOf x qual (a9 st) (aU st) (ah st) .none kV Ta pm an S6 ct):=⟨⟨oc,od,kV,Ta,pm,an,S6,ct,Tv,rfl,l,c⟩,k⟩
end
theorem jf (hr:bH k A):A.units+1<cLine:=abk (Nat.add_le_add_left (by decide : 1<=64) _) hr.units
section
variable {X:Cx}
variable {x:Str}
theorem pv (i : Nat)(hN : X.N[i]? = some x := by rfl)(hv : Ny X.env.scope x := by first | exact Or.inl rfl | exact Or.inr (Or.inl rfl) | exact Or.inr (Or.inr rfl))(hd : (x == ("__debug__" : Str)) = false := by decide)
   (Ud:(x == ("__classdict__" : Str))=false:=by decide):PE X (.Name x pos) (az i):=F1 hN hv hd Ud
theorem Gp:cW X (.builtin "len") (λxs H Q=>∃ a kvs,xs=[V.ref a]/\H a=some (.dK kvs)/\Q (.int kvs.length) H):=by
 intro gV s Z H xs us Q I r h;obtain⟨a,kvs,rfl,ha,q⟩:=h;obtain⟨u,rfl,ru⟩:=vals1 r;cases ru
 exact Qq I (.inl ha) λt s' I'=>⟨.int kvs.length,H,I',⟨t,rfl⟩,q⟩
end
theorem Rc {A B:Prop}(h:B):if false=true then A else B:=by
 rw[if_neg aap];exact h
theorem Q_ {A B:Prop}(h:A):if true=true then A else B:=by
 rw[if_pos rfl];exact h
def ao (H H':Hp):Prop:=∀ b o,H b=some o->H' b=some o
theorem ao.refl (H:Hp):ao H H:=λ_ _ h=>h
theorem ao.trans (a:ao H H1)(b:ao H1 H2):ao H H2:=λc o h=>b c o (a c o h)
theorem ao.seq {K:W.Frag}{H H':Hp}{a:Addr}{xs:List V}(e:ao H H')(h:ar K H a xs):ar K H' a xs:=by
 rcases h with (h | ⟨o,h⟩) | h
 . exact .inl (.inl (e _ _ h))
 . exact .inl (.inr ⟨o,e _ _ h⟩)
 . exact .inr h
end L2
namespace Bt
theorem O4 (a b:Nat)(h:a &&& b=0):a+b=a ||| b:=by
 have ha:a<2 ^ (a+b+1):=aaz adK (acG (by decide) (by omega));have hb:b<2 ^ (a+b+1):=aaz adK (acG (by decide) (by omega));have hab:a+b<2 ^ (a+b+1):=aaz adK (acG (by decide) (by omega));have e:=BitVec.add_eq_or_of_and_eq_zero (BitVec.ofNat (a+b+1) a) (BitVec.ofNat (a+b+1) b) (by
   apply BitVec.eq_of_toNat_eq;rw[BitVec.toNat_and,acN,acN,acE ha,acE hb,h]
   simp)
 have e2:=congrArg BitVec.toNat e;rw[BitVec.toNat_or,BitVec.toNat_add,acN,acN,acE ha,acE hb,acE hab] at e2;exact e2
def wo (s p:Nat):Nat:=s - (s &&& p)
theorem Qd (s p:Nat):wo s p=s ^^^ (s &&& p):=by
 unfold wo;have h:(s ^^^ (s &&& p))+(s &&& p)=s:=by
   have e:(s ^^^ (s &&& p)) &&& (s &&& p)=0:=by
     apply abp;intro i;simp only[aaS,Nat.testBit_xor,acD];cases s.testBit i <;> cases p.testBit i <;> rfl
   rw[O4 _ _ e];apply abp;intro i;simp only[adD,aaS,Nat.testBit_xor];cases s.testBit i <;> cases p.testBit i <;> rfl
 omega
theorem jF (s p i:Nat):(wo s p).testBit i=(s.testBit i && !p.testBit i):=by
 rw[Qd];simp only[aaS,Nat.testBit_xor];cases s.testBit i <;> cases p.testBit i <;> rfl
end Bt
namespace L3
open PySem PySem.Spec PyProof.Rows L2
abbrev St:=L2.St
def gy (its:List Value):Obj:={ cls:=.type "list",data:=.seq its.toArray its.length }
theorem FN (its:List Value)(y:Value):({ cls:=.type "list",data:=.seq (its.toArray.push y) (its.length+1) }:Obj)=gy (its++[y]):=by
 show({ cls:=.type "list",data:=.seq (its.toArray.push y) (its.length+1) }:Obj)={ cls:=.type "list",data:=.seq (its++[y]).toArray (its++[y]).length }
 rw[aab,aaF,List.push_toArray]
section
variable {prog:Program} {w:World} {A:Around} {R:Result->Shared->Prop} {s:Shared}
theorem Cr (I:Nat->Shared->Prop)
   (Vj : ∀ n s, I n s -> wpAny (model prog w) A (pyNext it) (λr s1 => match r with
     | none=>R (.ok .next) s1
     | some v=>wpAny (model prog w) A (adH Ur it v) (λ_ s2=>wpAny (model prog w) A (assign Ur env v) (λ_ s3 =>
         wpAny (model prog w) A (forIn Vv true λc r=>if r=true then do let ok <- isTrue c env (eval c env);pure (acz ok) else pure (acz r)) (λok s4 =>
           if ok=true then wpAny (model prog w) A (eval V4 env) (λx s5 =>
             wpAny (model prog w) A (call (.builtin "list.append") [TU,x]) (λ_ s6=>∃ m,m<n/\I m s6) (notedBy (model prog w) A env λe s'=>R (.error e) s') s5) (notedBy (model prog w) A env λe s'=>R (.error e) s') s4
           else ∃ m,m<n/\I m s4) (notedBy (model prog w) A env λe s'=>R (.error e) s') s3) (notedBy (model prog w) A env λe s'=>R (.error e) s') s2)
         (notedBy (model prog w) A env λe s'=>R (.error e) s') s1) (notedBy (model prog w) A env λe s'=>R (.error e) s') s)
   (n:Nat) (h:I n s) :
   codeAny (model prog w) A (.compLoop (.ListComp V4 [⟨Ur,iter,Vv,0⟩] scope pos) 0 it TU env) R s:=by
 refine codeAny_loop rfl I (λn s hI=>?_) n h;show wpAny _ A ((compTurn (.ListComp V4 [⟨Ur,iter,Vv,0⟩] scope pos) 0 it TU env).onRaise (λx=>do noteFrame x env;theTreesLotGoes x)) _ _ s;refine wpAny_noted ?_;rw[compTurn_list];refine aad (acs (aad (aaH (Vj n s hI) (λr s1 h1=>?_) λ_ _ h'=>h')));cases r with
 | none=>exact aaj h1
 | some v =>
   refine aad (aaH h1 (λ_ s2 h2=>?_) λ_ _ h'=>h');refine aad (aaH h2 (λ_ s3 h3=>aad (aaH h3 (λok s4 h4=>?_) λ_ _ h'=>h')) λ_ _ h'=>h');cases ok with
   | false=>exact aaj ⟨rfl,h4⟩
   | true =>
     exact aad (aad (aaH h4 (λx s5 h5=>aad (aaH h5 (λ_ s6 h6=>aaj (aaj ⟨rfl,h6⟩)) λ_ _ h'=>h')) λ_ _ h'=>h'))
end
def cw (X:Cx)(scope:Scope)(cl:List (Str×Addr))(own:List Str)(fr:List (Str×Nat))(C:Addr)(s2:Shared)(H2:Hp)(fp:List Addr):Cx :=
 { prog:=X.prog,w:=X.w,K:=X.K,mg:=X.mg,base:=X.base,A:=X.A,N:=own++fr.map (·.1),s₀:=s2,H₀:=H2,env:=compEnvC scope cl C X.env,outer:=X.stack,stack:=X.stack,
   ex:=fp,fn:=λ_=>false,calm:=X.calm,pn:=[],xe:=λ_ _=>False }
def lY (own:List Str)(fr:List (Str×Nat))(Z : St):St:=own.map (λ_=>none)++fr.map λp=>(Z[p.2]?).join
def A0 (env:Env):List (Str×Addr)->Prop
 | []=>True
 | (n,c)::r=>env.cells.lookup n=some c/\A0 env r
theorem A0.get:∀ {cl:List (Str×Addr)} {x:Str} {c:Addr},A0 env cl->cl.lookup x=some c->env.cells.lookup x=some c
 | [],_,_,_,h=>by simp at h
 | (n, d) :: r, x, c, ok, h => by
   rw[abe] at h;cases e:x == n with
   | true =>
     rw[e] at h;have e':x=n:=by simpa using e
     cases h
     rw[e'];exact ok.1
   | false =>
     rw[e] at h;exact A0.get ok.2 h
def y6 (sc:Scope)(x:Str):Prop:=sc.names.lookup x=some .cell∨sc.names.lookup x=some .free
def By (X:Cx)(scope:Scope)(cl:List (Str×Addr)):List (Str×Nat)->Prop
 | []=>True
 | (x,j)::r=>(X.N[j]? = some x/\y6 X.env.scope x/\y6 (relabel scope X.env) x/\(cl.lookup x).isSome=true)/\By X scope cl r
variable {scope:Scope} {X:Cx}
theorem By.get:∀ {fr:List (Str×Nat)} {i:Nat} {p:Str×Nat},By X scope cl fr->fr[i]? = some p ->
   X.N[p.2]? = some p.1/\y6 X.env.scope p.1/\y6 (relabel scope X.env) p.1/\(cl.lookup p.1).isSome=true
 | [],_,_,_,h=>by simp at h
 | (x, j) :: r, 0, p, ok, h => by
   simp at h;subst h;exact ok.1
 | (x,j)::r,i+1,p,ok,h=>By.get (i:=i) ok.2 (by simpa using h)
structure zG (X:Cx)(scope:Scope)(cl:List (Str×Addr))(own:List Str)(fr:List (Str×Nat)):Prop where
 Mu:closureFor scope X.env=pure cl
 cells:A0 X.env cl
 cS:By X scope cl fr
 kind:scope.kind=.function
 Fx:∀ y∈scope.names,y.2≠.cell
 names:∀ y∈scope.names,y.2=.local->scope.names.lookup y.1=some .local
 has:(scope.names.all λy=>y.2 != .free || (cl.lookup y.1).isSome)=true
theorem iH {env:Env}{cl:List (Str×Addr)}:∀ {names:List (Str×NameKind)} {x:Str},(∀ y∈names,y.2≠.cell)->(names.all λy=>y.2 != .free || (cl.lookup y.1).isSome)=true ->
   ((names.map λ(n, k) => if (k == acR && env.scope.kind == .function && env.kindOf n == some .cell) then (n, NameKind.cell) else (n, k)).lookup x = some .cell ∨
    (names.map λ(n,k)=>if (k == acR && env.scope.kind == .function && env.kindOf n == some .cell) then (n,NameKind.cell) else (n,k)).lookup x=some .free)->∃ c,cl.lookup x=some c
 | [],_,_,_,h=>by rcases h with h | h <;> simp at h
 | (n, k) :: r, x, nc, ha, h => by
   rw[acF,aaM] at ha;have ih:=@iH env cl r x (λy hy=>nc y (abb _ hy)) ha.2;have nk:k≠.cell:=nc (n,k) acd;have hk:=ha.1;cases hx:x == n with
   | true =>
     have ex:x=n:=by simpa using hx
     subst ex;by_cases hf:k=.free
     . subst hf;have z:(cl.lookup x).isSome=true:=by simpa using hk
       exact Option.isSome_iff_exists.mp z
     . exfalso
       have hb:(k == acR)=false:=by simpa using hf
       rcases h with h | h
       . rw[aaQ] at h;simp only[hb,Bool.false_and,ace,if_false,abe,beq_self_eq_true] at h;exact nk (aax h)
       . rw[aaQ] at h;simp only[hb,Bool.false_and,ace,if_false,abe,beq_self_eq_true] at h;exact hf (aax h)
   | false =>
     refine ih ?_;rcases h with h | h
     . left
       rw[aaQ] at h;by_cases hc:(k == acR && env.scope.kind == .function && env.kindOf n == some .cell)=true
       . simp only[hc,if_true,abe,hx] at h;exact h
       . simp only[hc,ace,if_false,abe,hx] at h;exact h
     . right
       rw[aaQ] at h;by_cases hc:(k == acR && env.scope.kind == .function && env.kindOf n == some .cell)=true
       . simp only[hc,if_true,abe,hx] at h;exact h
       . simp only[hc,ace,if_false,abe,hx] at h;exact h
def FX (Y:Cx)(Vv:List Expr)(t:TT):Prop :=
 ∀ (gV:List (Addr×Obj)) (s:Shared) (Z : St) (H:Hp) (Q:Bool->Hp->Prop),Inv Y gV Z H s->t Z H Q ->
   wpAny (model Y.prog Y.w) Y.A (forIn Vv true λc r=>if r=true then do let ok <- isTrue c Y.env (eval c Y.env);pure (acz ok) else pure (acz r)) (TP Y gV Z Q) Y.xe s
@[reducible] def y9:TT:=λ_ H Q=>Q true H
theorem c9:FX Y [] y9:=λ_ _ _ H _ I h=>wpAny_tests_nil ⟨H,I,h⟩
theorem wy (h:PT Y c t):FX Y [c] t:=λgV s Z H Q I hw=>wpAny_tests_one (h gV s Z H Q I hw)
def ER (own:List Str)(fr:List (Str×Nat))(wi:TI)(g:TG)(tc:TT)(te:TE)(Td:List V->Hp->Prop):St->Hp->Prop:=λZ H=>wi Z H λJ H1 =>
 ∃ W:Nat->Nat->List V->St->Hp->Prop,(∃ m,W 0 m [] (lY own fr Z) H1)/\∀ i m ys Z' H',W i m ys Z' H' ->
   (J.stop i H'/\ys.length<=aal/\Td ys H') ∨
   (J.go i H'/\∃ N:List V->St->Hp->Prop,(∀ Vp Z2 H2,N Vp Z2 H2->Vp.length<=aal/\∃ m',m'<m/\W (i+1) m' Vp Z2 H2) /\
     ∀ x H2,J.rf i H' x H2->g x Z' H2 λZ3 H3=>tc Z3 H3 λb H4=>if b=true then te Z3 H4 λy H5=>N (ys++[y]) Z3 H5 else N ys Z3 H4)
structure Off (X:Cx)(gV:List (Addr×Obj))(H:Hp)(C:Addr):Prop where
 none:H C=none
 loc:C≠X.env.locals
 above:X.s₀.heap.objs.size<=C
 cell:∀ x c,X.env.cells.lookup x=some c->c≠C
 pin:∀ p∈X.pn++gV,p.1≠C
section
variable {X:Cx} {tg V4 iter:Expr} {Vv:List Expr} {scope:Scope} {cl:List (Str×Addr)} {own:List Str} {fr:List (Str×Nat)} {wi:TI} {g:TG} {tc:TT} {te:TE} {pos:Pos}
theorem xr (hc:X.calm=true)(S:zG X scope cl own fr)(hi:PI X tg iter wi)(hg:∀ C s2 H2 fp,PG (cw X scope cl own fr C s2 H2 fp) tg g)
   (ht:∀ C s2 H2 fp,FX (cw X scope cl own fr C s2 H2 fp) Vv tc) (he:∀ C s2 H2 fp,PE (cw X scope cl own fr C s2 H2 fp) V4 te)
   {gV:List (Addr×Obj)} {s:Shared} {Z : St} {H:Hp} {Td:List V->Hp->Prop} (I:Inv X gV Z H s) (h:ER own fr wi g tc te Td Z H)
   {RR:Value->Addr->Result->Shared->Prop}
   (hR:∀ (D C:Addr) (s4:Shared) (H3:Hp) (ys:List V) (m:Str->Option Value),H3 D=none->Inv X gV Z (upd H3 D (.lst ys)) s4->s4.heap.Ns C m->Off X gV (upd H3 D (.lst ys)) C->Td ys H3->RR (.ref D) C (.ok .next) s4) :
   wpAny (model X.prog X.w) X.A (eval iter X.env) (λx s1=>wpAny (model X.prog X.w) X.A (pyIter x) (λitv s2=>wpAny (model X.prog X.w) X.A (newList []) (λTU s3 =>
     wpAny (model X.prog X.w) X.A (newFunctionEnv scope X.env.globals cl [] X.env.qual none .none (some X.env)) (λcenv s4 =>
       codeAny (model X.prog X.w) X.A (.compStart (.ListComp V4 [⟨tg,iter,Vv,0⟩] scope pos) 0 itv TU { cenv with scope:=relabel scope X.env }) (RR TU cenv.locals) s4) X.xe s3) X.xe s2) X.xe s1) X.xe s:=by
 refine aR (hi gV s Z H _ I h) λv s1 h1=>aR h1 λitv s2 h2=>?_;obtain⟨it,fp,tn,J,H2,rfl,I2,T,st2,f2,W,⟨m0,w0⟩,Vj⟩:=h2;refine abw (wpAny_newFunctionEnv S.Fx (by intro y hy;simp at hy) (λh1 hns1 hsb1=>?_) S.kind);dsimp only at hns1 hsb1 ⊢;generalize hHP:s2.heap.push { cls:=.type "list",dict:=none,data:=.seq ([]:List Value).toArray }=HP at hns1 hsb1 ⊢;have hC:HP.objs.size=s2.heap.objs.size+1:=by rw[<- hHP,abP]
 have hDC:s2.heap.objs.size≠HP.objs.size:=by rw[hC];exact aaw (ab8 _)
 have below:∀ b,b<s2.heap.objs.size->b≠HP.objs.size/\b≠s2.heap.objs.size:=λb hb=>⟨by rw[hC];exact aaw (acu hb),aaw hb⟩;have Va:∀ b o,s2.heap.get? b=some o->h1.get? b=some o:=λb o e=>hsb1.extBut b o (below b (aam e)).1 (aaf _ (hHP ▸ aaf _ e));have T6:h1.get? s2.heap.objs.size=some (gy []):=hsb1.extBut _ _ hDC (aaf _ (hHP ▸ aat _ rfl));have hfpo:∀ b∈fp,b<s2.heap.objs.size:=λb hb=>by obtain⟨o,e,_⟩:=T.obj 0 _ st2 b hb;exact aam e
 have TH:∀ x c,cl.lookup x=some c->X.env.cells.lookup x=some c:=λx c e=>S.cells.get e;have hcD:∀ x c,X.env.cells.lookup x=some c->c<s2.heap.objs.size:=λx c e=>by obtain⟨v,q⟩:=I2.cell x c e;exact q.lt
 have st1:tn 0 h1:=T.keep _ _ _ st2 λb _ o e=>Va b o e;have hDfree:H2 s2.heap.objs.size=none:=I2.aA.fresh (aag _);have hCfree:H2 HP.objs.size=none:=I2.aA.fresh (by rw[hC];exact abm _);have nostk:∀ b,s2.heap.objs.size<=b->b ∉ L2.cS X.stack:=λb hb hm=>by
   rcases List.mem_cons.mp (I2.oH b hm) with e | e
   . exact absurd I2.lt (by rw[<- e];exact Nat.not_lt.mpr hb)
   . exact I2.MX hb e
 have hDlt:s2.heap.objs.size<h1.objs.size:=aam T6
 -- the block's context
 have YOk:(cw X scope cl own fr HP.objs.size s2 H2 fp).Ok:=by
   refine ⟨I2.ok.mod,S.kind,I2.ok.glob,I2.ok.blt,?_,λx y c e1 e2=>I2.ok.inj x y c (TH _ _ e1) (TH _ _ e2),λx hx=>?_,λx c hf=>?_,I2.ok.hd,I2.ok.frames,.inl rfl,λb hb=>⟨?_,λx c e=>?_⟩,
     I2.bs,aaK I2.ok.rH I2.sz,λb o e hb=>?_,λb hb hm=>?_,I2.stack,I2.mv⟩
   . show s2.heap.objs.size <= HP.objs.size;rw[hC];exact abm _
   . exact iH (env:=X.env) S.Fx S.has hx
   . cases hf
   . exact(below b (hfpo b hb)).1
   . exact(f2 b hb).2.2.2.2.1 x c (TH _ _ e)
   . rcases(f2 b hb).2.2.2.1 with z | z
     . exact I2.ok.sS b o e z
     . exact absurd (aam (I2.ok.bs b o e).1) (Nat.not_lt.mpr z)
   . rcases List.mem_cons.mp (I2.oH b hm) with e | e
     . exact(f2 b hb).2.1 e
     . exact(f2 b hb).2.2.1 e
 have hpinD : ∀ {h' : Heap} {its : List Value} {H' : Hp}, h'.get? s2.heap.objs.size = some (gy its) -> H' s2.heap.objs.size = none -> ∀ p ∈ ([(s2.heap.objs.size, gy its)] : List (Addr × Obj)),
     h'.get? p.1=some p.2/\H' p.1=none/\p.1≠HP.objs.size/\p.1 ∉ L2.cS X.stack/\∀ v,p.2.data≠.cell v:=λ{h' its H'} e n p hp=>by
   have e1:p=(s2.heap.objs.size,gy its):=by simpa using hp
   subst e1;exact⟨e,n,hDC,nostk _ (aag _),λv z=>by cases z⟩
 have IY:Inv (cw X scope cl own fr HP.objs.size s2 H2 fp) [(s2.heap.objs.size,gy [])] (lY own fr Z) H2 { s2 with heap:=h1,toks:=s2.toks+([]:List (Str×Value)).length }:=by
   refine⟨YOk,rfl,I2.bare,Un.kept Va,⟨_,hns1,λi x v e1 e2 e3=>?_⟩,λx c e=>?_,hCfree,λx c e=>I2.fN x c (TH _ _ e),hpinD T6 hDfree,I2.aA.kept Va,?_⟩
   . have W8 : (own ++ fr.map (·.1))[i]? = some x := e1;have e2':(own.map (λ_=>(none:Option V))++fr.map λp=>(Z[p.2]?).join)[i]? = some (some v):=e2;by_cases UK:i<own.length
     . rw[aas (by simpa using UK), aah] at e2';rw[aaa UK] at e2';cases e2'
     . rw[aaq (by simpa using UK), aah] at e2';rw[aaq (Nat.not_lt.mp UK),aah] at W8;rw[aac] at e2';cases ef:fr[i - own.length]? with
       | none=>rw[ef] at W8;cases W8
       | some p =>
         rw[ef] at W8 e2';have ex:p.1=x:=aax W8;have ev:(Z[p.2]?).join=some v:=aax e2';obtain⟨hN,hk,UD,hs⟩:=S.cS.get ef;have eZ : Z[p.2]? = some (some v):=by
           cases q : Z[p.2]? with
           | none=>rw[q] at ev;cases ev
           | some o=>rw[q] at ev;exact congrArg some ev
         obtain⟨m,hn,hl⟩:=I2.loc;obtain⟨u,r,l⟩:=hl p.2 p.1 v hN eZ (by rcases hk with k | k;exact .inr (.inl k);exact .inr (.inr k));subst ex;obtain⟨c,ec⟩:=Option.isSome_iff_exists.mp hs;refine⟨u,r,.inr ⟨UD,c,ec,?_⟩⟩;rcases l with ⟨hl1,_⟩ | ⟨_,c',ec',z⟩
         . have hl1' : X.env.scope.names.lookup p.1 = some .local := hl1;rcases hk with z | z
           . rw[z] at hl1';cases hl1'
           . rw[z] at hl1';cases hl1'
         . have := TH _ _ ec;rw[ec'] at this;cases this
           exact z.keeps Va
   . obtain⟨v, z⟩ := I2.cell x c (TH _ _ e);exact⟨v,z.keeps Va⟩
   . show (own.map (λ_ => (none : Option V)) ++ fr.map λp => (Z[p.2]?).join).length = (own ++ fr.map (·.1)).length
     simp
 have Vl:∀ {its:List Value} {H':Hp},(∀ b∈fp,H' b=none)->∀ b∈fp,pI (cw X scope cl own fr HP.objs.size s2 H2 fp) [(s2.heap.objs.size,gy its)] H' b:=λ{its H'} hn b hb =>
   ⟨hn b hb,(below b (hfpo b hb)).1,λhm=>by
       rcases List.mem_cons.mp (I2.oH b hm) with e | e
       . exact(f2 b hb).2.1 e
       . exact(f2 b hb).2.2.1 e,.inl hb,λx c e=>(f2 b hb).2.2.2.2.1 x c (TH _ _ e),λp hp=>by
       have e1:p=(s2.heap.objs.size,gy its):=by
         have hp':p∈([]:List (Addr×Obj))++[(s2.heap.objs.size,gy its)]:=hp
         simpa using hp'
       subst e1;exact(below b (hfpo b hb)).2.symm⟩
 have loop : ∀ s3 : Shared, s3 = { s2 with heap := h1, toks := s2.toks + ([] : List (Str × Value)).length } ->
     codeAny (model X.prog X.w) X.A (.compLoop (.ListComp V4 [⟨tg,iter,Vv,0⟩] scope pos) 0 (.ref it) (.ref s2.heap.objs.size) (compEnvC scope cl HP.objs.size X.env)) (RR (.ref s2.heap.objs.size) HP.objs.size) s3:=by
   rintro s3 rfl
   refine Cr (λn s'=>∃ i ys its Z' H',Inv (cw X scope cl own fr HP.objs.size s2 H2 fp) [(s2.heap.objs.size,gy its)] Z' H' s'/\aL ys its/\tn i s'.heap/\(∀ b∈fp,H' b=none)/\W i n ys Z' H') ?_ m0
     ⟨0,[],[],lY own fr Z,H2,IY,.nil,st1,λb hb=>(f2 b hb).1,w0⟩
   rintro n s3 ⟨i,ys,its,Z3,H3,I3,rv,st3,fr3,w3⟩;rcases Vj i n ys Z3 H3 w3 with ⟨stop,hz,qn⟩ | ⟨go,N,hN,step⟩
   . refine aaH (T.done (cw X scope cl own fr HP.objs.size s2 H2 fp) rfl rfl rfl hc i _ s3 Z3 H3 (λ_ _=>False) I3 (Vl fr3) st3 stop) (λr s4 h4=>?_) λ_ _ f=>f.elim;obtain⟨hr,I4⟩:=h4;subst hr;obtain⟨eD,nD,_⟩:=I4.pin (s2.heap.objs.size,gy its) (by simp[cw]);obtain⟨m,hn,_⟩:=id I4.loc;have nC:H3 HP.objs.size=none:=I4.free;have bu:=I4.base;have J4:Inv X gV Z (upd H3 s2.heap.objs.size (.lst ys)) s4:=by
       refine I2.uz (ch:=fp) I4.os ⟨λb o e n hb hx=>bu.keep b o e n hb hx,λb o e n hb hx=>bu.slot b o e n hb hx,λb o e n hx=>?_,λb o e hx=>bu.there b o e hx,λb xs e=>?_,λb o u e=>?_,λb ps e=>?_⟩ ?_ I4.bare ?_
       . rw[ak (below b (aam e)).2];exact bu.free b o e n hx
       . have z := bu.jC b xs e;rw[ak (ag z nD)];exact z
       . have z := bu.iO b o u e;rw[ak (ag z nD)];exact z
       . obtain⟨Wi, z⟩ := bu.jV b ps e;exact⟨Wi,by rw[ak (ag z nD)];exact z⟩
       . intro b o e;by_cases hb:b=s2.heap.objs.size
         . subst hb;rw[aa] at e;cases e
           exact⟨hz,its,its.length,rv,eD⟩
         . rw[ak hb] at e;exact(I4.aA b o e).iV (λc u _ q=>q) (λc q=>by rw[ak (ag q nD)];exact q) λc xs q=>by rw[ak (ag q nD)];exact q
       . intro b hb;exact⟨(f2 b hb).2.2.2.1,(f2 b hb).2.1,(f2 b hb).2.2.2.2.1,(f2 b hb).2.2.2.2.2⟩
     refine hR _ _ s4 H3 ys m nD J4 hn ⟨?_,?_,?_,?_,?_⟩ qn
     . rw[ak hDC.symm];exact nC
     . exact abU (aaz I2.lt (by rw[hC];exact abm _))
     . exact aaK I2.sz (by rw[hC];exact abm _)
     . exact λx c e=>(below c (hcD x c e)).1
     . exact λp hp=>(below p.1 (aam (I2.pin p hp).1)).1
   . refine aaH (T.item (cw X scope cl own fr HP.objs.size s2 H2 fp) rfl rfl rfl hc i _ s3 Z3 H3 (λ_ _=>False) I3 (Vl fr3) st3 go) (λr s4 h4=>?_) λ_ _ f=>f.elim;obtain⟨u,hr,h4⟩:=h4;subst hr;refine aaH h4 (λ_ s5 h5=>?_) λ_ _ f=>f.elim;obtain⟨x,H5,I5,r5,y5,st5,fr5⟩:=h5;have I5':=I5.pinned (Vl fr5) (T.obj _ _ st5);refine aaH (hg _ _ _ _ _ s5 Z3 H5 x u _ I5' r5 (step x H5 y5)) (λ_ s6 h6=>?_) λ_ _ f=>f.elim;obtain⟨Z6,H6,I6,q6⟩:=h6;refine aaH (ht _ _ _ _ _ s6 Z6 H6 _ I6 q6) (λok s7 h7=>?_) λ_ _ f=>f.elim;obtain⟨H7,I7,q7⟩:=h7;have WA:∀ {Z8:St} {H8:Hp} {s8:Shared} {l:List (Addr×Obj)},Inv (cw X scope cl own fr HP.objs.size s2 H2 fp) (l++iI fp s5.heap) Z8 H8 s8->tn (i+1) s8.heap/\∀ b∈fp,H8 b=none:=λ{Z8 H8 s8 l} I8=>by
       refine⟨T.keep _ _ _ st5 λb hb o e=>(I8.pin (b,o) (aay _ (aay _ (je hb e)))).1,λb hb=>?_⟩;obtain⟨o,e,_⟩:=T.obj _ _ st5 b hb;exact(I8.pin (b,o) (aay _ (aay _ (je hb e)))).2.1
     cases ok with
     | false =>
       rw[if_neg aap] at q7 ⊢;obtain⟨_,m',hm,w7⟩:=hN _ _ _ q7;exact⟨m',hm,i+1,ys,its,Z6,H7,I7.mU,rv,(WA I7).1,(WA I7).2,w7⟩
     | true =>
       rw[if_pos rfl] at q7 ⊢;refine aaH (he _ _ _ _ _ s7 Z6 H7 _ I7 q7) (λy s8 h8=>?_) λ_ _ f=>f.elim;obtain⟨yv,H8,I8,r8,n8⟩:=h8;obtain⟨hlt',m',hm,w8⟩:=hN _ _ _ n8;have Tb:ys.length<aal:=by rw[aab] at hlt';exact hlt'
       obtain⟨eD,nD,nL,_,_⟩:=I8.pin (s2.heap.objs.size,gy its) (by simp[cw]);refine append_at (its:=its.toArray) (n:=its.length) (hsz:=by rw[aao,<- rv.length];exact adq Tb) eD λh9 sb9 eD9=>?_;have I8p:Inv (cw X scope cl own fr HP.objs.size s2 H2 fp) (iI fp s5.heap) Z6 H8 s8:=I8.qF λp hp=>I8.pin p (aay _ (aay _ hp));have I9p:Inv (cw X scope cl own fr HP.objs.size s2 H2 fp) (iI fp s5.heap) Z6 H8 { s8 with heap:=h9 } :=
         I8p.turned (t':=s8.toks) (λb o hb e=>(sb9.2 b hb).trans e) nD nL (.inr (aag _)) (λx c e=>(below c (hcD x c (TH _ _ e))).2) λp hp=>by
           have hp':p∈iI fp s5.heap:=by simpa [cw] using hp
           exact(below p.1 (hfpo _ (xH hp').1)).2
       have eD9':h9.get? s2.heap.objs.size=some (gy (its++[y])):=eD9.trans (congrArg some (FN its y));have I9:Inv (cw X scope cl own fr HP.objs.size s2 H2 fp) [(s2.heap.objs.size,gy (its++[y]))] Z6 H8 { s8 with heap:=h9 }:=I9p.qF (hpinD eD9' nD);have K9:=WA (l:=[]) (by simpa using I9p);exact⟨m',hm,i+1,ys++[yv],its++[y],Z6,H8,I9,rv.append (.cons r8 .nil),K9.1,K9.2,w8⟩
 exact codeAny_compStart_list (loop _ rfl) (T.self _ 0 _ _ _ st1 (loop _ rfl))
def F3 (own:List Str)(fr:List (Str×Nat))(wi:TI)(g:TG)(tc:TT)(te:TE):TE:=λZ H Q=>ER own fr wi g tc te (λys H3=>∀ p,H3 p=none->Q (.ref p) (upd H3 p (.lst ys))) Z H
theorem fw (hc:X.calm=true)(S:zG X scope cl own fr)(hi:PI X tg iter wi)(hg:∀ C s2 H2 fp,PG (cw X scope cl own fr C s2 H2 fp) tg g)
   (ht:∀ C s2 H2 fp,FX (cw X scope cl own fr C s2 H2 fp) Vv tc) (he:∀ C s2 H2 fp,PE (cw X scope cl own fr C s2 H2 fp) V4 te)
   (hs:∀ x,foldedSetIterable iter X.env x=pure x:=by intro _;rfl):PE X (.ListComp V4 [⟨tg,iter,Vv,0⟩] scope pos) (F3 own fr wi g tc te):=by
 intro gV s Z H Q I h;rw[eval_ListComp];refine wpAny_comprehension_free (use:=none) rfl hs S.Mu S.kind S.names ?_;refine xr hc S hi hg ht he I h λD C s4 H3 ys m nD J hn off q=>?_;refine⟨m,hn,λh' sb=>⟨.ref D,_,J.turned (t':=s4.toks) (λb o hb e=>(sb.2 b hb).trans e) off.none off.loc (.inr off.above) off.cell off.pin,rfl,q D nD⟩⟩
def uh (i:Nat)(own:List Str)(fr:List (Str×Nat))(wi:TI)(g:TG)(tc:TT)(te:TE):TS:=λD Z H=>ER own fr wi g tc te (λys H3=>∀ p,H3 p=none->be i (.ref p) Z (upd H3 p (.lst ys)) D.nx) Z H
theorem fu (hN:X.N.Nodup)(UK:X.N[i]? = some y)(hx:X.env.scope.names.lookup y=some .local)(hc:X.calm=true)(S:zG X scope cl own fr)(hi:PI X tg iter wi)(hg:∀ C s2 H2 fp,PG (cw X scope cl own fr C s2 H2 fp) tg g)
   (ht:∀ C s2 H2 fp,FX (cw X scope cl own fr C s2 H2 fp) Vv tc) (he:∀ C s2 H2 fp,PE (cw X scope cl own fr C s2 H2 fp) V4 te)
   (hsw:acV (.ListComp V4 [⟨tg,iter,Vv,0⟩] scope pos) (some (.Name y py)) spos.line X.env=pure true:=by rfl)
   (hs:∀ x,foldedSetIterable iter X.env x=pure x:=by intro _;rfl):PS X (.Assign [.Name y py] (.ListComp V4 [⟨tg,iter,Vv,0⟩] scope pos) spos) (uh i own fr wi g tc te):=by
 intro gV s Z H D I h;rw[exec_Assign_Name_used _ _ _ _ hsw];refine aad (acs (aad ?_));show wpAny _ X.A (do let _ <- comprehension (.ListComp V4 [⟨tg,iter,Vv,0⟩] scope pos) scope X.env _ (newList []) false (eval iter X.env) (some (assign (.Name y py) X.env))) _ _ s;refine aad (aaH (wpAny_comprehension_free (use:=some (assign (.Name y py) X.env)) (Q:=λ_ s'=>SP X gV D .next s') rfl hs S.Mu S.kind S.names ?_) (λ_ s' hq=>aaj (aaj hq)) λ_ _ e=>e);refine xr hc S hi hg ht he I h λDa C s4 H3 ys m nD J hn off q=>?_;show wpAny _ X.A (assign (.Name y py) X.env (.ref Da)) _ _ _;refine wpAny_assign_Name (xO J hN UK (.inl hx) (v:=.ref Da) rfl (λs5 I5 VW=>?_) (.inr hx));obtain⟨a,sb,ha⟩:=VW;have nCa:C≠a:=by
   rcases ha with z | z
   . rw[z];exact off.loc
   . exact(off.cell _ _ z).symm
 refine⟨m,hn.sameBut sb nCa,λh' sb'=>⟨_,_,I5.turned (t':=s5.toks) (λb o hb e=>(sb'.2 b hb).trans e) off.none off.loc (.inr off.above) off.cell off.pin,(qR _ _ _ _).1 (q Da nD)⟩⟩
end
section
variable {K:W.Frag} {a:Addr} {xs:List V} {own:List Str} {fr:List (Str×Nat)} {g:TG} {tc:TT} {te:TE} {Td:List V->Hp->Prop} {Z : St} {H:Hp}
def iz (J:It)(g:TG)(tc:TT)(te:TE)(Td:List V->Hp->Prop)(Z0:St)(H1:Hp):Prop :=
 ∃ W:Nat->Nat->List V->St->Hp->Prop,(∃ m,W 0 m [] Z0 H1)/\∀ i m ys Z' H',W i m ys Z' H' ->
   (J.stop i H'/\ys.length<=aal/\Td ys H') ∨
   (J.go i H'/\∃ N:List V->St->Hp->Prop,(∀ Vp Z2 H2,N Vp Z2 H2->Vp.length<=aal/\∃ m',m'<m/\W (i+1) m' Vp Z2 H2) /\
     ∀ x H2,J.rf i H' x H2->g x Z' H2 λZ3 H3=>tc Z3 H3 λb H4=>if b=true then te Z3 H4 λy H5=>N (ys++[y]) Z3 H5 else N ys Z3 H4)
variable {Z0:St}
theorem fW (Pv:Nat->List V->St->Hp->Prop)(h0:Pv 0 [] Z0 H)(hl:∀ i ys Z H,i<=xs.length->Pv i ys Z H->ar K H a xs/\ys.length<=aal)
   (hs:∀ i x ys Z H,xs[i]? = some x->Pv i ys Z H->g x Z H λZ3 H3=>tc Z3 H3 λb H4=>if b=true then te Z3 H4 λy H5=>Pv (i+1) (ys++[y]) Z3 H5 else Pv (i+1) ys Z3 H4)
   (hd:∀ ys Z H,Pv xs.length ys Z H->Td ys H):iz (x_ K a) g tc te Td Z0 H:=by
 refine⟨λi m ys Z H=>m=xs.length - i/\i<=xs.length/\Pv i ys Z H,⟨xs.length,by simp,aaT _,h0⟩,?_⟩;rintro i m ys Z H ⟨rfl,hi,p⟩;obtain⟨q,hz⟩:=hl i ys Z H hi p;by_cases Tb:i<xs.length
 . refine .inr ⟨⟨xs, xs[i], q, by simp[Tb]⟩, Pv (i + 1), λVp Z2 H2 p' => ⟨(hl (i + 1) Vp Z2 H2 Tb p').2, xs.length - (i + 1), by omega, rfl, Tb, p'⟩, λx H2 y => ?_⟩;obtain⟨e,y⟩:=y;subst e;exact hs i x ys Z _ (y xs q) p
 . have e : i = xs.length := by omega
   subst e;exact .inl ⟨⟨xs,q,aag _⟩,hz,hd ys Z H p⟩
variable {n:Nat}
theorem eE {lo:Int}(Pv:Nat->List V->St->Hp->Prop)(h0:Pv 0 [] Z0 H)(hl:∀ i ys Z H,i<=n->Pv i ys Z H->ys.length<=aal)
   (hs:∀ i ys Z H,i<n->Pv i ys Z H->g (.int (lo+i)) Z H λZ3 H3=>tc Z3 H3 λb H4=>if b=true then te Z3 H4 λy H5=>Pv (i+1) (ys++[y]) Z3 H5 else Pv (i+1) ys Z3 H4)
   (hd:∀ ys Z H,Pv n ys Z H->Td ys H):iz (qj lo n) g tc te Td Z0 H:=by
 refine⟨λi m ys Z H=>m=n - i/\i<=n/\Pv i ys Z H,⟨n,by simp,aaT _,h0⟩,?_⟩;rintro i m ys Z H ⟨rfl,hi,p⟩;by_cases Tb:i<n
 . refine .inr ⟨Tb, Pv (i + 1), λVp Z2 H2 p' => ⟨hl (i + 1) Vp Z2 H2 Tb p', n - (i + 1), by omega, rfl, Tb, p'⟩, λx H2 y => ?_⟩;obtain⟨e,y⟩:=y;subst e y;exact hs i ys Z _ Tb p
 . have e : i = n := by omega
   subst e;exact .inl ⟨aag _,hl _ ys Z H hi p,hd ys Z H p⟩
end
open PySem PySem.Spec PyProof.Rows L2 PySem.SeqAt
variable {o:HO} {p q:Addr} {H:Hp}
theorem ai (hq:H q=some u)(hp:H p=none):upd H p o q=some u:=by
 rw[ak (ag hq hp)];exact hq
theorem cq (T9:q≠p)(hq:H q=u):upd H p o q=u:=by
 rw[ak T9];exact hq
theorem bw (h:upd H p o q=none):H q=none/\q≠p:=by
 by_cases e:q=p
 . subst e;rw[aa] at h;cases h
 . rw[ak e] at h;exact⟨h,e⟩
theorem ae (h:H p=none):ao H (upd H p o):=λb u q=>ai q h
variable {H1:Hp}
theorem bA (s:ao H H1)(h:H p=none):ao H (upd H1 p o):=λb u q=>by
 rw[ak (ag q h)];exact s b u q
variable {xs:List V} {H':Hp}
theorem ck {K:W.Frag}{a:Addr}(e:ao H H')(h:aI K H a xs):aI K H' a xs:=by
 rcases h with (h | ⟨o,h⟩) | h
 . exact .inl (.inl (e _ _ h))
 . exact .inl (.inr ⟨o,e _ _ h⟩)
 . exact .inr h
mutual
def Dp (K:W.Frag)(H:Hp):PyData->V->Prop
 | .none,v=>v=.aC
 | .bool b,v=>v=.bl b
 | .int i,v=>v=.int i
 | .str x,v=>v=.str x
 | .list ds,v=>∃ a xs,v=.ref a/\ar K H a xs/\eA K H ds xs
 | .tuple ds,v=>∃ a xs,v=.ref a/\aI K H a xs/\eA K H ds xs
 | .dict _,_=>False
def eA (K:W.Frag)(H:Hp):List PyData->List V->Prop
 | [],vs=>vs=[]
 | d::ds,vs=>∃ v r,vs=v::r/\Dp K H d v/\eA K H ds r
end
theorem cG {K:W.Frag}(i:Int):Dp K H (.int i) (.int i):=by rw[Dp]
theorem ju {K:W.Frag}{a:Addr}{ds:List PyData}(h:ar K H a xs)(q:eA K H ds xs):Dp K H (.list ds) (.ref a):=by
 rw[Dp];exact⟨a,_,rfl,h,q⟩
theorem gD {K:W.Frag}{a:Addr}{ds:List PyData}(h:aI K H a xs)(q:eA K H ds xs):Dp K H (.tuple ds) (.ref a):=by
 rw[Dp];exact⟨a,_,rfl,h,q⟩
theorem cK {K:W.Frag}:eA K H [] []:=by rw[eA]
theorem aT {K:W.Frag}{d:PyData}{ds:List PyData}{v:V}{r:List V}(h:Dp K H d v)(q:eA K H ds r):eA K H (d::ds) (v::r):=by
 rw[eA];exact⟨_,_,rfl,h,q⟩
section
variable {X:Cx} {gV:List (Addr×Obj)} {Z : St} {H:Hp} {s:Shared}
mutual
theorem jI (I:Inv X gV Z H s):∀ (d:PyData) (v:V) (u:Value),Dp X.K H d v->RelV v u->∃ as,Reads s.heap u d as
 | .none, v, u, h, r => by
   rw[Dp] at h;subst h;cases (show u=abq from r);exact⟨_,.none⟩
 | .bool b, v, u, h, r => by
   rw[Dp] at h;subst h;cases (show u=adi b from r);exact⟨_,.bool b⟩
 | .int i, v, u, h, r => by
   rw[Dp] at h;subst h;obtain⟨t,e⟩:=(show ∃ t,u=abt i t from r);subst e;exact⟨_,.int i t⟩
 | .str x, v, u, h, r => by
   rw[Dp] at h;subst h;obtain⟨t,e⟩:=(show ∃ t,u=adF x t from r);subst e;exact⟨_,.str x t⟩
 | .list ds, v, u, h, r => by
   rw[Dp] at h;obtain⟨a,xs,e,hq,ha⟩:=h;subst e;cases (show u=Tg a from r)
   obtain⟨its,rv,pl,hz⟩:=I.list hq;obtain⟨o,ho,hc,n,hd⟩:=pl.isList;obtain⟨as,z⟩:=k_ I ds xs its ha rv;exact⟨_,.list ho hc hd (by simpa using z)⟩
 | .tuple ds, v, u, h, r => by
   rw[Dp] at h;obtain⟨a,xs,e,hq,ha⟩:=h;subst e;cases (show u=Tg a from r)
   obtain⟨its,rv,pl,hz⟩:=I.tuple hq;obtain⟨o,ho,hc,n,hd⟩:=pl;obtain⟨as,z⟩:=k_ I ds xs its ha rv;exact⟨_,.tuple ho hc hd (by simpa using z)⟩
 | .dict _,v,u,h,r=>by rw[Dp] at h;exact h.elim
theorem k_ (I:Inv X gV Z H s):∀ (ds:List PyData) (vs:List V) (us:List Value),eA X.K H ds vs->aL vs us->∃ as,ReadsAll s.heap us ds as
 | [], vs, us, h, r => by
   rw[eA] at h;subst h;cases r;exact⟨_,.nil⟩
 | d :: ds, vs, us, h, r => by
   rw[eA] at h;obtain⟨v,rr,e,h1,h2⟩:=h;subst e;cases r with
   | cons r1 r2 =>
     obtain⟨as,z1⟩:=jI I d _ _ h1 r1;obtain⟨bs,z2⟩:=k_ I ds _ _ h2 r2;exact⟨_,.cons z1 z2⟩
end
end
def OC (K:W.Frag):R2:=λx y H Q=>∃ dx dy,Dp K H dx x/\Dp K H dy y/\shaped dx=true/\shaped dy=true/\Q (.bl (adN dx dy)) H
def OJ (K:W.Frag):R2:=λx y H Q=>∃ dx dy,Dp K H dx x/\Dp K H dy y/\shaped dx=true/\shaped dy=true/\Q (.bl (!PyData.eqv dx dy)) H
def gf (K:W.Frag):R2:=λx y H Q=>QN x y H Q∨OC K x y H Q
def gG (K:W.Frag):R2:=λx y H Q=>QQ x y H Q∨OJ K x y H Q
section
variable {X:Cx}
theorem OI (hu:X.A.units+64<cLine):bQ X (aaU .Eq) (OC X.K):=by
 intro gV s Z H x y v u Q I rx ry h;obtain⟨dx,dy,hx,hy,sx,sy,q⟩:=h;obtain⟨as,ra⟩:=jI I dx x v hx rx;obtain⟨bs,rb⟩:=jI I dy y u hy ry;exact eq_dataH ra rb sx sy hu ⟨.bl _,H,I,rfl,q⟩
theorem O6 (hu:X.A.units+64<cLine):bQ X (aaU .NotEq) (OJ X.K):=by
 intro gV s Z H x y v u Q I rx ry h;obtain⟨dx,dy,hx,hy,sx,sy,q⟩:=h;obtain⟨as,ra⟩:=jI I dx x v hx rx;obtain⟨bs,rb⟩:=jI I dy y u hy ry;exact ne_dataH ra rb sx sy hu ⟨.bl _,H,I,rfl,q⟩
theorem O8 (hu:X.A.units+64<cLine):bQ X (aaU .Eq) (gf X.K):=P7.or (OI hu)
theorem Fw (hu:X.A.units+64<cLine):bQ X (aaU .NotEq) (gG X.K):=QG.or (O6 hu)
end
theorem ya (d:PyData)(h:shaped d=true):d.canLay0=true:=(Bool.and_eq_true_iff.mp h).1
variable {Q:VK} {y:V}
theorem KA {K:W.Frag}{x:V}(h:DT x y=true)(q:Q (.bl (decide (x=y))) H):gf K x y H Q:=.inl ⟨h,q⟩
theorem JR {K:W.Frag}{x:V}(h:DT x y=true)(q:Q (.bl (!decide (x=y))) H):gG K x y H Q:=.inl ⟨h,q⟩
theorem Kr {K:W.Frag}{x:V}(d:PyData)(hx:Dp K H d x)(hy:Dp K H d y)(hs:shaped d=true)(q:Q (.bl true) H):gf K x y H Q :=
 .inr ⟨d,d,hx,hy,hs,hs,by rw[eqv_refl d (ya d hs)];exact q⟩
theorem Qa {K:W.Frag}{x:V}(d:PyData)(hx:Dp K H d x)(hy:Dp K H d y)(hs:shaped d=true)(q:Q (.bl false) H):gG K x y H Q :=
 .inr ⟨d,d,hx,hy,hs,hs,by rw[eqv_refl d (ya d hs)];exact q⟩
def qw:V->Value
 | .ty n=>.type n
 | .ref a=>.ref a
 | _=>.none
theorem IV (r:RelV c u)(h:qw c≠.none):u=qw c:=by
 cases c <;> first | exact r | exact(h rfl).elim
def iU (K:W.Frag):List V->Hp->VK->Prop:=λxs H Q=>∃ x c t b,xs=[x,c]/\qw c≠.none/\bP K H x t/\acj K t (qw c)=some b/\Q (.bl b) H
theorem IS:cW X (.builtin "isinstance") (iU X.K):=by
 intro gV s Z H xs us Q I r h;obtain⟨x,c,t,b,rfl,hc,ty,e,q⟩:=h;obtain⟨u,w',rfl,rx,rc⟩:=vals2 r;cases IV rc hc
 exact Gw I rx ty e λtk=>⟨.bl b,H,I.tok _,rfl,q⟩
variable {b:Bool}
theorem eX {K:W.Frag}{x c:V}{t:Value}(hc:qw c≠.none)(ty:bP K H x t)(e:acj K t (qw c)=some b)(q:Q (.bl b) H):iU K [x,c] H Q:=⟨x,c,t,b,rfl,hc,ty,e,q⟩
theorem DO:adM (.type "bool") "__index__" = pure (some (.builtin "int.__index__")):=by rw[typeLookup_type,adJ];kernel_rfl
variable {s:Shared}
theorem oQ {M : Model}{A : Around}{E : Value -> Shared -> Prop}{Q : Option Int -> Shared -> Prop}(h : Q (some (if b then 1 else 0)) s) :
   wpAny M A (acq (.bool b)) Q E s:=by
 unfold acq;refine aad (adG (T:="bool") (show s.TypeIs (.bool b) "bool" from rfl) DO ?_);show wpAny M A (asIndex (.bool b) >>= _) Q E s;refine aad (wpAny_of_eq (a:=if b then 1 else 0) rfl ?_);show wpAny M A (if (!Builtin.List.listFitsIndex (if b then 1 else 0))=true then _ else _) Q E s;rw[if_neg (by cases b <;> decide)];exact aaj h
variable {l:Addr}
theorem qW {prog:Program}{w:World}{A:Around}{E:Value->Shared->Prop}{items:Array Value}{b:Bool}{x:Value}{Q:Value->Shared->Prop}(hl:s.heap.IsList l items)
   (hx:items[if b then 1 else 0]? = some x) (h:Q x s):wpAny (model prog w) A (getItem (.ref l) (.bool b)) Q E s:=by
 obtain⟨o,ho,hc,ne,hd⟩:=id hl;unfold getItem
 try with_reducible refine aa_ ?_
 first | refine aad (aaj ?_) | skip
 refine aad (wpAny_sequenceKey hl.typeIs (by decide) ?_)
 refine aad (acv (name:=aae "__getitem__") hl.typeIs slot_list_getitem
   (acK slot_list_getitem hl.typeIs entry_list_getitem ?_ (args_list_getitem _ _)))
 show wpAny _ _ (acq (.bool b) >>= _) _ _ s;refine aad (oQ ?_);cases b with
 | true =>
   have WQ:items[1]? = some x:=hx;show wpAny _ _ ((seqItemAt l 1 >>= λr=>pure (r.map (1,·))) >>= _) _ _ s;refine aad (aad (wpAny_seqItemAt ho hd (aaj ?_)));rw[WQ]
   first
     | exact aad (aaj (aaj ⟨x,rfl,aaj h⟩))
     | exact aaj ⟨x,rfl,aaj h⟩
 | false =>
   have WQ:items[0]? = some x:=hx;show wpAny _ _ ((seqItemAt l 0 >>= λr=>pure (r.map (0,·))) >>= _) _ _ s;refine aad (aad (wpAny_seqItemAt ho hd (aaj ?_)));rw[WQ]
   first
     | exact aad (aaj (aaj ⟨x,rfl,aaj h⟩))
     | exact aaj ⟨x,rfl,aaj h⟩
def Nj (K:W.Frag):R2:=λx y H Q=>∃ p xs b v,x=.ref p/\y=.bl b/\ar K H p xs/\xs[if b then 1 else 0]? = some v/\Q v H
theorem Ly:nR X (Nj X.K):=by
 intro value Ts gV s Z H x y v u Q I rx ry h hs;obtain⟨p,xs,b,z,rfl,rfl,hq,he,q⟩:=h;cases rx
 cases ry
 obtain⟨its,r,pl,hz⟩:=I.list hq;obtain⟨w,ew,V6⟩:=r.get he
 exact adz (x:=w) pl.isList.typeIs slot_list_getitem.lookup
   (qW (Q:=λr s'=>r=w/\EP X gV Z Q r s') pl.isList (by simpa using ew) ⟨rfl,z,H,I,V6,q⟩) hs
def bI (K:W.Frag):R2:=λx y H Q=>Q6 K x y H Q∨Nj K x y H Q
theorem OD:nR X (bI X.K):=NG.or Ly
variable {i:Int}
theorem b9 {K:W.Frag}{v:V}(h:ar K H p xs)(e:cZ xs i=some v)(q:Q v H):bI K (.ref p) (.int i) H Q:=.inl (.inl ⟨p,xs,i,v,rfl,rfl,h,e,q⟩)
theorem vo {K:W.Frag}{v:V}(h:aI K H p xs)(e:cZ xs i=some v)(q:Q v H):bI K (.ref p) (.int i) H Q:=.inl (.inr (.inl ⟨p,xs,i,v,rfl,rfl,h,e,q⟩))
def Rf:R2:=λx y H Q=>∃ i j,x=.str i/\y=.str j/\i.length+j.length<=aal/\Q (.str (i++j)) H
def eK (K:W.Frag):R2:=λx y H Q=>lM (λi j=>.int (i+j)) x y H Q∨MR x y H Q∨JZ K x y H Q∨Rf x y H Q
theorem LI:bQ X (abD .Add) (eK X.K):=Nw.or (MU.or (Mj.or ED))
variable {j:Int}
theorem KY {K:W.Frag}(q:Q (.int (i+j)) H):eK K (.int i) (.int j) H Q:=.inl q
theorem qu {K:W.Frag}{a b:Addr}{ys:List V}(ha:H a=some (.lst xs))(hb:H b=some (.lst ys))(hz:xs.length+ys.length<=aal)(q:∀ p,H p=none->Q (.ref p) (upd H p (.lst (xs++ys)))) :
   eK K (.ref a) (.ref b) H Q:=.inr (.inl ⟨a,b,xs,ys,rfl,rfl,ha,hb,hz,q⟩)
def zo:R2:=λx y H Q=>rI AY (λi j=>.int (i*j)) x y H Q∨O1 x y H Q
theorem HN:bQ X (abD .Mult) zo:=N0.or Oe
theorem Jq (h:AY i j)(q:Q (.int (i*j)) H):zo (.int i) (.int j) H Q:=.inl ⟨i,j,rfl,rfl,h,q⟩
def jY (K:W.Frag):V->Option Int->Option Int->Hp->VK->Prop:=λx lo hi H Q=>N6 K x lo hi H Q∨NA K x lo hi H Q
theorem Pj:vN X (jY X.K):=Ln.or NB
structure iE (P:Program)(w:World)(K:W.Frag)(mg:Str->Option Value)(base:Heap)(CX:dM)(k:Nat)(x:Str)(sp:Sp):Prop where
 ex:∃ (f:Addr) (fd:aa3) (ps:List Str),c7 P w K mg base CX k f fd ps sp/\mg x=some (.ref f)/\abh K (.ref f)=true/\Binds K fd ps []
structure mO (P:Program)(w:World)(K:W.Frag)(mg:Str->Option Value)(base:Heap)(CX:dM)(k:Nat)(C:Addr)(m:Str)(sp:Sp):Prop where
 cl:er K C
 ex:∃ (f:Addr) (fd:aa3) (ps:List Str),Aj K C m f/\c7 P w K mg base CX k f fd ps sp/\Binds K fd ps []
structure CW (P:Program)(w:World)(K:W.Frag)(mg:Str->Option Value)(base:Heap)(CX:dM)(k:Nat)(x:Str)(C:Addr)(sp:Sp):Prop where
 ex:∃ (f:Addr) (fd:aa3) (ps:List Str),Mk K C f/\c7 P w K mg base CX k f fd ps sp/\mg x=some (.ref C)/\Binds K fd ps []
variable {sp:Sp} {C:Addr}
theorem mO.mono {P:Program}{w:World}{K:W.Frag}{mg:Str->Option Value}{base:Heap}{CX:dM}{j k:Nat}{m:Str}(M:mO P w K mg base CX j C m sp)(h:j<=k):mO P w K mg base CX k C m sp:=by
 obtain⟨f,fd,ps,a,b,c⟩:=M.ex;exact⟨M.cl,f,fd,ps,a,b.mono h,c⟩
@[reducible] def cj (sp:Sp) (E:XK) (t:TA):TE:=λZ H Q=>t Z H λvs H1=>sp vs H1 Q E
@[reducible] def zK (C:Addr) (sp:Sp) (E:XK) (t:TA):TE:=λZ H Q=>t Z H λvs H1=>∀ x dx,H1 x=none->H1 dx=none->dx≠x ->
 sp (.ref x::vs) (upd (upd H1 dx (.own x)) x (.ins C dx [])) (λv H2=>v=.aC/\Q (.ref x) H2) E
def DC (P:Program)(w:World)(K:W.Frag)(mg:Str->Option Value)(base:Heap)(CX:dM)(k:Nat)(m:Str)(E:XK)(Z : St)(t:TA):V->Hp->VK->Prop:=λx H1 Q =>
 ∃ a C dx fs sp,x=.ref a/\H1 a=some (.ins C dx fs)/\fs.lookup m=none/\mO P w K mg base CX k C m sp/\t Z H1 λvs H2=>sp (.ref a::vs) H2 Q E
@[reducible] def cH (P:Program) (w:World) (K:W.Frag) (mg:Str->Option Value) (base:Heap) (CX:dM) (k:Nat) (m:Str) (E:XK) (ta:TE) (t:TA):TE:=λZ H Q=>ta Z H λx H1=>DC P w K mg base CX k m E Z t x H1 Q
section
variable {X:Cx} {CX:dM} {k:Nat} {C:Addr} {sp:Sp} {E:XK} {x m:Str} {p pos Tc:Pos} {e o:Expr} {es:List Expr} {ta:TE} {t:TA}
theorem bj (G : iE X.prog X.w X.K X.mg X.base CX k x sp)(hr : bH k X.A)(hx : dH CX X E)(hg : Gl X x)(ha : PA X (e :: es) t)(Tw : (x == ("__debug__" : Str)) = false := by decide)
   (he:aai (e::es) X.env=(false,eval e X.env)::aai es X.env:=by rfl) (S9:(backTo pos (aai es X.env)).any (·.1)=false:=by rfl):PE X (.Call (.Name x p) (e::es) [] pos) (cj sp E t):=by
 obtain⟨f,fd,ps,F,hm,hk,hb⟩:=G.ex;have z:=LK (p:=p) (pos:=pos) F hr hg hm hk hb .nil hx ha Tw he S9;intro gV s Z H Q I h;refine z gV s Z H Q I ?_;have e1:J0 sp [] E t=cj sp E t:=by
   funext Z H Q
   show t Z H (λvs H1=>sp (vs++[]) H1 Q E)=t Z H (λvs H1=>sp vs H1 Q E);simp only[aaL]
 rw[e1];exact h
theorem zC (G : CW X.prog X.w X.K X.mg X.base CX k x C sp)(hr : bH (k + 1) X.A)(hx : dH CX X E)(hg : Gl X x)(ha : PA X (e :: es) t)(Tw : (x == ("__debug__" : Str)) = false := by decide)
   (he:aai (e::es) X.env=(false,eval e X.env)::aai es X.env:=by rfl) (S9:(backTo pos (aai es X.env)).any (·.1)=false:=by rfl):PE X (.Call (.Name x p) (e::es) [] pos) (zK C sp E t):=by
 obtain⟨f,fd,ps,M,F,hm,hb⟩:=G.ex;have z:=Dh (p:=p) (pos:=pos) M F hr hg hm hb .nil hx ha Tw he S9;intro gV s Z H Q I h;refine z gV s Z H Q I ?_;have e1:Ky C sp [] E t=zK C sp E t:=by
   funext Z H Q
   show t Z H (λvs H1=>∀ x dx,H1 x=none->H1 dx=none->dx≠x->sp (.ref x::(vs++[])) _ _ E)=t Z H (λvs H1=>∀ x dx,H1 x=none->H1 dx=none->dx≠x->sp (.ref x::vs) _ _ E);simp only[aaL]
 rw[e1];exact h
theorem Jm (he:PE X o ta)(hr:bH k X.A)(hx:dH CX X E)(ha:PA X (e::es) t)
   (Tj:aai (e::es) X.env=(false,eval e X.env)::aai es X.env:=by rfl) (S9:(backTo pos (aai es X.env)).any (·.1)=false:=by rfl)
   (ht : eval (.Call (.Attribute o m Tc) (e :: es) [] pos) X.env = (do
     let ov <- eval o X.env
     standAt Tc.atName
     let (f,first) <- holding [ov] (acW ov m pl)
     ac2 pos f first (backTo pos (aai (e::es) X.env)) (ac3 pos (abZ [] X.env))):=by rfl) :
   PE X (.Call (.Attribute o m Tc) (e::es) [] pos) (cH X.prog X.w X.K X.mg X.base CX k m E ta t):=by
 intro gV s Z H Q I h;refine W.methodCall_KW (pl:=pl) (aR (he gV s Z H _ I h) λu s1 zq=>?_) ht;obtain⟨x,H1,I1,rx,a,C,dx,fs,sp,ex,ea,l,M,q⟩:=zq;subst ex;obtain rfl:u=Tg a:=rx;obtain⟨f,fd,ps,hm,F,hb⟩:=M.ex;refine uI I1 ea M.cl hm l ?_;refine adw (first:=[.ref a]) (h₀:=X.base) I.ok.mod.uL hm.kp (aR (ha pos gV s1 Z H1 _ I1 q) λus s2 zq=>bR zq λvs H2 I2 r q2=>⟨I2.df,?_⟩) Tj S9;exact AO (us:=.ref a::us) (vs:=.ref a::vs) F hr hb .nil hx I2 (.cons rfl r) (by rw[aaL];exact q2)
theorem GG (he:PE X o ta)(hr:bH k X.A)(hx:dH CX X E)
   (ht : eval (.Call (.Attribute o m Tc) [] [] pos) X.env = (do
     let ov <- eval o X.env
     standAt Tc.atName
     let (f,first) <- holding [ov] (acW ov m pl)
     ac2 pos f first (backTo pos (aai [] X.env)) (ac3 pos (abZ [] X.env))):=by rfl) :
   PE X (.Call (.Attribute o m Tc) [] [] pos) (cH X.prog X.w X.K X.mg X.base CX k m E ta aQ):=by
 intro gV s Z H Q I h;refine W.methodCall_KW (pl:=pl) (aR (he gV s Z H _ I h) λu s1 zq=>?_) ht;obtain⟨x,H1,I1,rx,a,C,dx,fs,sp,ex,ea,l,M,q⟩:=zq;subst ex;obtain rfl:u=Tg a:=rx;obtain⟨f,fd,ps,hm,F,hb⟩:=M.ex;refine uI I1 ea M.cl hm l ?_;exact W.callWith_K0 (first:=[.ref a]) I1.df hm.kp (AO (us:=[.ref a]) (vs:=[.ref a]) F hr hb .nil hx I1 (.cons rfl .nil) q)
end
theorem i_:aaW "len" = some (.builtin "len"):=by nofun
theorem Qh:aaW "all" = some (.builtin "all"):=by nofun
theorem oO:aaW "isinstance" = some (.builtin "isinstance"):=by nofun
theorem JL:aaW "max" = some (.builtin "max"):=by nofun
theorem Pz:aaW "int" = some (.type "int"):=by nofun
theorem Bc:aaW "list" = some (.type "list"):=by nofun
def iW (K:W.Frag):List V->Hp->VK->Prop:=λxs H Q=>∃ x n,xs=[x]/\Ov K x H n/\Q (.int n) H
theorem F7:cW X (.builtin "len") (iW X.K):=Jg
theorem dU {K:W.Frag}(h:ar K H p xs)(q:Q (.int xs.length) H):iW K [.ref p] H Q:=⟨.ref p,xs.length,rfl,.inl ⟨xs,h,rfl⟩,q⟩
def D3 (K:W.Frag):List V->Hp->VK->Prop:=λxs H Q=>∃ p ys,xs=[.ref p]/\(ar K H p ys∨aI K H p ys)/\∀ l,H l=none->Q (.ref l) (upd H l (.lst ys))
theorem Ep:cW X (.type "list") (D3 X.K):=BC
theorem CZ {K:W.Frag}(h:ar K H p xs)(q:∀ l,H l=none->Q (.ref l) (upd H l (.lst xs))):D3 K [.ref p] H Q:=⟨p,xs,rfl,.inl h,q⟩
theorem Lz {K:W.Frag}(h:aI K H p xs)(q:∀ l,H l=none->Q (.ref l) (upd H l (.lst xs))):D3 K [.ref p] H Q:=⟨p,xs,rfl,.inr h,q⟩
def MO (g:Int->Int->Int):List V->Hp->VK->Prop:=λxs H Q=>∃ i j,xs=[.int i,.int j]/\Q (.int (g i j)) H
theorem xA (hc:X.calm=true):cW X (.builtin "max") (MO λi j=>if j > i then j else i):=Gu hc
theorem P0 (q:Q (.int (g i j)) H):MO g [.int i,.int j] H Q:=⟨i,j,rfl,q⟩
theorem J9 {K:W.Frag}{lo hi:Option Int}(h:ar K H p xs)(q:∀ l,H l=none->Q (.ref l) (upd H l (.lst (fR xs lo hi)))):jY K (.ref p) lo hi H Q:=.inl ⟨p,xs,rfl,h,q⟩
theorem y8 {K:W.Frag}{lo hi:Option Int}(h:aI K H p xs)(hn : ¬ (HT.bg xs.length 0 lo=0/\HT.bg xs.length xs.length hi=xs.length))(q:∀ l,H l=none->Q (.ref l) (upd H l (.tup (fR xs lo hi)))) :
   jY K (.ref p) lo hi H Q:=.inr ⟨p,xs,rfl,h,hn,q⟩
def Hs (K:W.Frag)(x:V)(H:Hp)(Q:Bool->Hp->Prop):Prop:=∃ k,Jl K x H k/\Q k H
theorem NV {K:W.Frag}{Q:Bool->Hp->Prop}(q:Q b H):Hs K (.bl b) H Q:=⟨b,rfl,q⟩
theorem Mv {K:W.Frag}{Q:Bool->Hp->Prop}(q:Q (i != 0) H):Hs K (.int i) H Q:=⟨_,rfl,q⟩
variable {A B:Prop}
theorem PF (h:B):if (!true)=true then A else B:=h
theorem Py (h:A):if (!false)=true then A else B:=h
theorem C2 {K:W.Frag}{a:Addr}(h:ar K H a xs)(hp:H p=none):ar K (upd H p o) a xs:=ao.seq (ae hp) h
theorem Dk {K:W.Frag}{a:Addr}(h:aI K H a xs)(hp:H p=none):aI K (upd H p o) a xs:=ck (ae hp) h
theorem K1 (s:ao H H')(h:H q=some u):H' q=some u:=s _ _ h
variable {Z : St}
theorem Mt {to ti:TE}{t:En}{v:V}{Q:St->Hp->Prop}(q:to Z H λo H1=>ti Z H1 λi H2=>t o i v H2 λH3=>Q Z H3):Pq to ti t v Z H Q:=q
theorem lT {k:Int}{j:Nat}{v:V}{Q:Hp->Prop}(h:H p=some (.lst xs))(e:og xs.length k=some j)(q:Q (upd H p (.lst (xs.set j v)))):EC (.ref p) (.int k) v H Q:=⟨p,xs,k,j,rfl,rfl,h,e,q⟩
theorem sW (h:H l=some (.lst xs))(z:xs.length<aal)(q:Q .aC (upd H l (.lst (xs++[y])))):wC (.ref l) [y] H Q:=⟨l,xs,y,rfl,rfl,h,z,q⟩
theorem ty_list {K:W.Frag}(h:H p=some (.lst xs)):C9 K "list" (.ref p) H:=.inl ⟨rfl,xs,ar.of h⟩
variable {R:It->Hp->Prop} {ta:TA}
@[reducible] def Nu (K:W.Frag) (tl:TE):TI:=λZ H R=>tl Z H λx H1=>∃ a,x=.ref a/\(((∃ xs,ar K H1 a xs)/\R (x_ K a) H1)∨((∃ xs,aI K H1 a xs)/\R (Kg K a) H1))
theorem Nq (q:ta Z H λvs H1=>∃ j:Int,vs=[.int j]/\-(2 ^ 62)<=j/\j<2 ^ 62/\R (qj 0 j.toNat) H1):mP ta Z H R:=q
theorem Ms (q:ta Z H λvs H1=>∃ i j:Int,vs=[.int i,.int j]/\(-(2 ^ 62)<=i/\i<2 ^ 62/\-(2 ^ 62)<=j/\j<2 ^ 62)/\R (qj i (j - i).toNat) H1):Eb ta Z H R:=q
theorem Pe {tg l:Expr}{tl:TE}(hl:PE X l tl):PI X tg l (Nu X.K tl):=by
 intro gV s Z H R I h;refine aR (hl gV s Z H _ I h) λv s1 zq=>bR zq λx H1 I1 r1 q1=>?_;obtain⟨a,e,hq⟩:=q1;subst e;cases r1
 rcases hq with ⟨⟨xs,hq⟩,q⟩ | ⟨⟨xs,hq⟩,q⟩
 . obtain ⟨its, rv, p, hz⟩ := I1.list hq;refine abL p.isList ?_;refine ⟨s1.heap.objs.size,[s1.heap.objs.size],_,_,H1,rfl,I1.kept (t':=s1.toks) λb o e=>aaf _ e,GU a _,⟨_,aat _ rfl,rfl,rfl⟩,λb hb=>?_,q⟩;have e:b=s1.heap.objs.size:=by simpa using hb
   subst e;exact I1.ua (aag _) (I1.aA.fresh (aag _))
 . obtain ⟨its, rv, p, hz⟩ := I1.tuple hq;refine wpAny_pyIter_tuple (show s1.heap.IsTuple a its.toArray from p) ?_;refine ⟨s1.heap.objs.size,[s1.heap.objs.size],_,_,H1,rfl,I1.kept (t':=s1.toks) λb o e=>aaf _ e,EA a _,⟨_,aat _ rfl,rfl,rfl⟩,λb hb=>?_,q⟩;have e:b=s1.heap.objs.size:=by simpa using hb
   subst e;exact I1.ua (aag _) (I1.aA.fresh (aag _))
section
variable {Z : St} {H:Hp} {Q:VK}
theorem FG {C:Int->Int->Prop}{g:Int->Int->V}(h:C i j)(q:Q (g i j) H):rI C g (.int i) (.int j) H Q:=⟨i,j,rfl,rfl,h,q⟩
theorem aX {P:Program}{w:World}{K:W.Frag}{mg:Str->Option Value}{base:Heap}{CX:dM}{k:Nat}{m:Str}{E:XK}{t:TA}{dx:Addr}{fs:List (Str×V)}(h:H p=some (.ins C dx fs))(l:fs.lookup m=none)(M:mO P w K mg base CX k C m sp)
   (q:t Z H λvs H2=>sp (.ref p::vs) H2 Q E):DC P w K mg base CX k m E Z t (.ref p) H Q:=⟨p,C,dx,fs,sp,rfl,h,l,M,q⟩
theorem Fu {K:W.Frag}{f:Str}{dx:Addr}{fs:List (Str×V)}{v:V}(h:H p=some (.ins C dx fs))(c:er K C)(n:a8 K C f)(l:fs.lookup f=some v)(q:Q v H):Pk K f (.ref p) H Q:=⟨p,C,dx,fs,v,rfl,h,c,n,l,q⟩
end
section
variable {Z : St} {H:Hp} {Q:Bool->Hp->Prop}
@[reducible] def wm (K:W.Frag) (ta:TE):TT:=λZ H Q=>ta Z H λx H'=>Hs K x H' Q
theorem MA {a:Expr}{ta:TE}(ha:PE X a ta)(he:∀ TQ,isTrue a X.env TQ=(do let v <- TQ;standAt a.pos;holding [v] (truthy v)):=by intro _;rfl):PT X a (wm X.K ta):=Ja ha he
end
section
variable {D:Ends} {Z : St} {H:Hp}
theorem LH {K:W.Frag}{f:Str}{dx:Addr}{fs:List (Str×V)}(h:H p=some (.ins C dx fs))(c:er K C)(n:a8 K C f)(l:fs.length<1000)(q:D.nx Z (upd H p (.ins C dx (au f y fs)))):JO K f y D Z (.ref p) H:=⟨p,C,dx,fs,rfl,h,c,n,l,q⟩
end
theorem cR [Decidable c](h1:c->A)(h2 : ¬ c->B):if decide c=true then A else B:=by
 by_cases h:c
 . rw[if_pos (decide_eq_true h)];exact h1 h
 . rw[if_neg (by rw[decide_eq_false h];exact aap)];exact h2 h
theorem vz [Decidable c](h1 : ¬ c->A)(h2:c->B):if (!decide c)=true then A else B:=by
 by_cases h:c
 . rw[if_neg (by rw[decide_eq_true h];decide)];exact h2 h
 . rw[if_pos (by rw[decide_eq_false h];rfl)];exact h1 h
theorem eW {a b:Int}(h1:a=b->A)(h2:a≠b->B):if decide (V.int a=V.int b)=true then A else B :=
 cR (λe=>h1 (by cases e;rfl)) λe=>h2 λz=>e (by rw[z])
theorem gP {a b:Int}(h1:a≠b->A)(h2:a=b->B):if (!decide (V.int a=V.int b))=true then A else B :=
 vz (λe=>h1 λz=>e (by rw[z])) λe=>h2 (by cases e;rfl)
section
variable {P:Program} {w:World} {K:W.Frag} {mg:Str->Option Value} {base:Heap} {x qual:Str} {st:Stmt} {N ps:List Str} {sp:Sp} {C:Addr}
def HL (P:Program)(w:World)(K:W.Frag)(mg:Str->Option Value)(base:Heap)(qual:Str)(st:Stmt)(N:List Str)(f:Addr)(S6:Value)(A:Around)(outer:List Env)(s:Shared)(E:XK)(Q:VK)(H:Hp)(vs:List V):Prop :=
 ∃ t,gj (bW cb P w K mg base N qual (ah st) f S6 A outer s H E).eY (aU st) t/\t { nx:=λ_ H'=>Q .aC H',rt:=Q } (start N vs) H
def BodyOk (P:Program)(w:World)(K:W.Frag)(mg:Str->Option Value)(base:Heap)(k:Nat)(qual:Str)(st:Stmt)(N:List Str)(sp:Sp):Prop :=
 ∀ (f:Addr) (S6:Value) (A:Around) (outer:List Env) (s:Shared) (H:Hp) (vs:List V) (Q:VK) (E:XK),bH k (A.deeper (envOfC qual (ah st) s.heap.objs.size f S6))->sp vs H Q E ->
   HL P w K mg base qual st N f S6 A outer s E Q H vs
theorem ba (k:Nat)(h:∃ f fd,dY K x qual st f fd/\mg x=some (.ref f)/\Binds K fd ps [])(S:aq N ps (ah st))(len:∀ vs H Q E,sp vs H Q E->vs.length=ps.length)
   (S_:BodyOk P w K mg base k qual st N sp):iE P w K mg base cb (k+1) x sp:=by
 obtain⟨f,fd,F,hm,hb⟩:=h;exact⟨f,fd,ps,F.ok S len (S_ f),hm,F.kp,hb⟩
theorem aB (k:Nat)(c:er K C)(h:∃ f fd,dY K x qual st f fd/\Aj K C x f/\Binds K fd ps [])(S:aq N ps (ah st))(len:∀ vs H Q E,sp vs H Q E->vs.length=ps.length)
   (S_:BodyOk P w K mg base k qual st N sp):mO P w K mg base cb (k+1) C x sp:=by
 obtain⟨f,fd,F,hm,hb⟩:=h;exact⟨c,f,fd,ps,hm,F.ok S len (S_ f),hb⟩
theorem eM {y:Str}(k:Nat)(hy:mg y=some (.ref C))(h:∃ f fd,dY K "__init__" qual st f fd/\Mk K C f/\Binds K fd ps [])(S:aq N ps (ah st))(len:∀ vs H Q E,sp vs H Q E->vs.length=ps.length)
   (S_:BodyOk P w K mg base k qual st N sp):CW P w K mg base cb (k+1) y C sp:=by
 obtain⟨f,fd,F,hm,hb⟩:=h;exact⟨f,fd,ps,hm,F.ok S len (S_ f),hy,hb⟩
end
section
variable {X:Cx} {K:W.Frag}
theorem dW (h:X.K=K):bQ X (abD .Add) (eK K):=by subst h;exact LI
theorem FR (h:X.K=K)(hu:X.A.units+64<cLine):bQ X (aaU .Eq) (gf K):=by subst h;exact O8 hu
theorem mj (h:X.K=K)(hu:X.A.units+64<cLine):bQ X (aaU .NotEq) (gG K):=by subst h;exact Fw hu
theorem OM (h:X.K=K):bQ X (aaU .In) (x9 K false):=by subst h;exact Fc
theorem FJ (h:X.K=K):bQ X (aaU .NotIn) (x9 K true):=by subst h;exact AQ
theorem di (h:X.K=K):nR X (bI K):=by subst h;exact OD
theorem R1 (h:X.K=K):vN X (jY K):=by subst h;exact Pj
theorem dP {tg l:Expr}{tl:TE}(h:X.K=K)(hl:PE X l tl):PI X tg l (Nu K tl):=by subst h;exact Pe hl
theorem ez (h:X.K=K):cW X (.builtin "len") (iW K):=by subst h;exact F7
theorem DP (h:X.K=K):cW X (.type "list") (D3 K):=by subst h;exact Ep
theorem xU (h:X.K=K):cW X (.builtin "isinstance") (iU K):=by subst h;exact IS
theorem cD {e:Expr}{f:Str}{pos:Pos}{ta:TE}(h:X.K=K)(he:PE X e ta)(hb:ab3 e f X.env (eval e X.env)=eval e X.env:=by rfl):PE X (.Attribute e f pos) (Bh K ta f):=by subst h;exact OA he hb
variable {pos:Pos}
theorem wx {o value : Expr}{f : Str}{TF : Pos}{ta tv : TE}(h : X.K = K)(ha : PE X o ta)(hv : PE X value tv)(hs : acV value (some (.Attribute o f TF)) pos.line X.env = pure false := by rfl) :
   PS X (.Assign [.Attribute o f TF] value pos) (NH K ta tv f):=by subst h;exact N4 ha hv hs
theorem CU {a:Expr}{ta:TE}(h:X.K=K)(ha:PE X a ta)(he:∀ TQ,isTrue a X.env TQ=(do let v <- TQ;standAt a.pos;holding [v] (truthy v)):=by intro _;rfl):PT X a (wm K ta):=by subst h;exact MA ha he
theorem wb {pos:Pos}(hK:X.K=K)(hc:X.calm=true)(h:GX X es t)
   (hn:(acQ es X.env).length=n:=by rfl) (Tj:(acQ es X.env).findIdx? (·.1)=none:=by rfl):PG X (.Tuple es k pos) (Jk K n t):=by subst hK;exact Ou hc h hn Tj
theorem v_ {o:Expr}{to:TE}{name:Str}{Tc S8:Pos}{T id:String}{r:V->List V->Hp->VK->Prop}(h:X.K=K)(pa:PlainAttrs T)(slot:Slot T name id)(hty:typeOf (.builtin id)=pure (.type "method_descriptor"))(hm:Gc X id r)(ho:PE X o to)
   (Tt:ab3 o name X.env (eval o X.env)=eval o X.env:=by rfl) (T7:(Tc.endLine == S8.line)=true:=by rfl):PE X (.Call (.Attribute o name Tc) [] [] S8) (OY K T r to):=by subst h;exact OR pa slot hty hm ho Tt T7
theorem Ac {o e:Expr}{es:List Expr}{to:TE}{t:TA}{name:Str}{Tc S8:Pos}{T id:String}{r:V->List V->Hp->VK->Prop}(h:X.K=K)(pa:PlainAttrs T)(slot:Slot T name id)(hty:typeOf (.builtin id)=pure (.type "method_descriptor"))(hm:Gc X id r)(ho:PE X o to)(ha:PA X (e::es) t)
   (Tt:ab3 o name X.env (eval o X.env)=eval o X.env:=by rfl)
   (Wu:((backTo S8 (aai (e::es) X.env)).all (λx=>!x.1) && (ac3 S8 (abZ [] X.env)).all (λx=>x.1.isSome)
     && decide ((e::es).length+([]:List Keyword).length+(if ([]:List Keyword).isEmpty then 0 else 1)<30))=true:=by rfl)
   (T7:(Tc.endLine == S8.line)=true:=by rfl) (hs:aai (e::es) X.env=(false,eval e X.env)::aai es X.env:=by rfl) (Tp:(backTo S8 (aai es X.env)).any (·.1)=false:=by rfl) :
   PE X (.Call (.Attribute o name Tc) (e::es) [] S8) (MQ K T r to t):=by subst h;exact QI pa slot hty hm ho ha Tt Wu T7 hs Tp
end
section
variable {X:Cx} {P:Program} {w:World} {K:W.Frag} {mg:Str->Option Value} {base:Heap} {CX:dM} {k:Nat} {E:XK} {m:Str} {pos Tc:Pos} {e o:Expr} {es:List Expr} {ta:TE} {t:TA}
theorem AU (hP:X.prog=P/\X.w=w/\X.K=K/\X.mg=mg/\X.base=base)(he:PE X o ta)(hr:bH k X.A)(hx:dH CX X E)(ha:PA X (e::es) t)
   (Tj:aai (e::es) X.env=(false,eval e X.env)::aai es X.env:=by rfl) (S9:(backTo pos (aai es X.env)).any (·.1)=false:=by rfl)
   (ht : eval (.Call (.Attribute o m Tc) (e :: es) [] pos) X.env = (do
     let ov <- eval o X.env
     standAt Tc.atName
     let (f,first) <- holding [ov] (acW ov m pl)
     ac2 pos f first (backTo pos (aai (e::es) X.env)) (ac3 pos (abZ [] X.env))):=by rfl) :
   PE X (.Call (.Attribute o m Tc) (e::es) [] pos) (cH P w K mg base CX k m E ta t):=by
 obtain⟨rfl,rfl,rfl,rfl,rfl⟩:=hP;exact Jm (pl:=pl) he hr hx ha Tj S9 ht
theorem kN (hP:X.prog=P/\X.w=w/\X.K=K/\X.mg=mg/\X.base=base)(he:PE X o ta)(hr:bH k X.A)(hx:dH CX X E)
   (ht : eval (.Call (.Attribute o m Tc) [] [] pos) X.env = (do
     let ov <- eval o X.env
     standAt Tc.atName
     let (f,first) <- holding [ov] (acW ov m pl)
     ac2 pos f first (backTo pos (aai [] X.env)) (ac3 pos (abZ [] X.env))):=by rfl) :
   PE X (.Call (.Attribute o m Tc) [] [] pos) (cH P w K mg base CX k m E ta aQ):=by
 obtain⟨rfl,rfl,rfl,rfl,rfl⟩:=hP;exact GG (pl:=pl) he hr hx ht
end
theorem K0 {R:Addr->Prop}(q:∀ p,H p=none->R p):∀ p,H p=none->R p:=q
theorem f9 (h:upd H p o q=none):H q=none:=(bw h).1
theorem aG (s:ao H H')(h:H' q=none):H q=none:=by
 cases e:H q with
 | none=>rfl
 | some u=>rw[s _ _ e] at h;cases h
theorem same_none (s:ao H H1)(h:H1 p=none):ao H (upd H1 p o):=s.trans (ae h)
def iN {α : Type}(xs:List α)(f : α->V)(Sg:St->Prop)(H:Hp)(i:Nat)(ys:List V)(Z : St)(H1:Hp):Prop:=ao H H1/\Sg Z/\ys=(xs.take i).map f
theorem iN.next {α : Type}{xs:List α}{f : α->V}{Sg:St->Prop}{H5:Hp}{i:Nat}{ys:List V}{Z3:St}{x : α}(c:iN xs f Sg H i ys Z H1)(hx:xs[i]? = some x)(e:y=f x)(s:ao H H5)(sg:Sg Z3):iN xs f Sg H (i+1) (ys++[y]) Z3 H5:=by
 obtain⟨_,_,rfl⟩:=c;refine⟨s,sg,?_⟩;subst e;rw[abF,hx,abx,aaE];rfl
theorem Kt (h1:b=true->A)(h2:b=false->B):if b=true then A else B:=by
 cases b with
 | true=>exact h1 rfl
 | false=>exact h2 rfl
theorem RK {R:Prop}(h1 : -(2 ^ 62)<=j)(h2:j<2 ^ 62)(q:R) : -(2 ^ 62)<=j/\j<2 ^ 62/\R:=⟨h1,h2,q⟩
theorem PU {K:W.Frag}{a:Addr}(h:ar K H a xs)(q:A):((∃ xs,ar K H a xs)/\A)∨((∃ xs,aI K H a xs)/\B):=.inl ⟨⟨xs,h⟩,q⟩
theorem QB {K:W.Frag}{a:Addr}(h:aI K H a xs)(q:B):((∃ xs,ar K H a xs)/\A)∨((∃ xs,aI K H a xs)/\B):=.inr ⟨⟨xs,h⟩,q⟩
theorem Qg {K:W.Frag}{R:Prop}(h:H p=some (.lst xs))(q:R):C9 K "list" (.ref p) H/\R:=⟨ty_list h,q⟩
theorem C3 {K:W.Frag}:Dp K H .none .aC:=by rw[Dp]
theorem iB:upd (upd H p o1) p o2=upd H p o2:=KW ..
variable {D:Ends}
theorem HH {i:Nat}{own:List Str}{fr:List (Str×Nat)}{wi:TI}{g:TG}{tc:TT}{te:TE}{Zi:St}(h:lY own fr Z = Zi)(q:wi Z H λJ H1=>iz J g tc te (λys H3=>∀ p,H3 p=none->be i (.ref p) Z (upd H3 p (.lst ys)) D.nx) Zi H1):uh i own fr wi g tc te D Z H:=by subst h;exact q
theorem IJ (h:lY own fr Z = Zi)(q:wi Z H λJ H1=>iz J g tc te (λys H3=>∀ p,H3 p=none->Q (.ref p) (upd H3 p (.lst ys))) Zi H1):F3 own fr wi g tc te Z H Q:=by subst h;exact q
def oZ:R2:=λx y H Q=>y=.aC/\Q (.bl (decide (x=.aC))) H
def kB:R2:=λx y H Q=>y=.aC/\Q (.bl (!decide (x=.aC))) H
theorem wG:bQ X (aaU .Is) oZ:=MI
theorem ze:bQ X (aaU .IsNot) kB:=Lq
theorem MG (q:Q (.bl false) H):oZ (.ref p) .aC H Q:=⟨rfl,q⟩
theorem Nt (q:Q (.bl true) H):oZ .aC .aC H Q:=⟨rfl,q⟩
theorem Nz (q:Q (.bl false) H):oZ (.int i) .aC H Q:=⟨rfl,q⟩
theorem Mc (q:Q (.bl false) H):kB .aC .aC H Q:=⟨rfl,q⟩
theorem K2 {K:W.Frag}{a:Addr}(s:ao H H1)(h:H p=none)(q:ar K H a xs):ar K (upd H1 p o) a xs:=ao.seq (bA s h) q
def Ai (i j:Int):Prop:=0<=j/\j<=1000000/\∃ k:Nat,k<=1000000/\i.natAbs<2 ^ k
theorem K6:bQ X (abD .LShift) (rI Ai λi j=>.int (i*2 ^ j.toNat)):=E8 λi j _ _ _ _ _ hc q=>by
 obtain⟨h0,h1,k,hk,hb⟩:=hc
 have:=PySem.intBits_le_iff.mpr hb
 exact lshift_int h0 (by have e:(2:Int) ^ 27=134217728:=rfl;rw[e];omega) q
theorem qK (h0 : 0<=j)(h1:j<=1000000):Ai 1 j:=⟨h0,h1,1,by decide,by decide⟩
theorem qD (j:Nat):(1:Int)*2 ^ j=((2 ^ j:Nat):Int):=by rw[Int.one_mul];exact(Int.natCast_pow 2 j).symm
theorem gu (s t:Nat):aaJ (s:Int) (t:Int)=((s &&& t:Nat):Int):=by
 unfold aaJ;rw[decide_eq_true (abl s),decide_eq_true (abl t)];show((((s:Int).toNat &&& (t:Int).toNat:Nat)):Int)=_;rw[aaD,aaD]
theorem fV (s t:Nat):aaJ (s:Int) (aav (t:Int))=((Bt.wo s t:Nat):Int):=by
 have hn : ¬ (0:Int)<=aav (t:Int):=by unfold aav;omega
 have e:(aav (aav (t:Int))).toNat=t:=by unfold aav;omega
 unfold aaJ;rw[decide_eq_true (abl s),decide_eq_false hn];show(s:Int) - (((s:Int).toNat &&& (aav (aav (t:Int))).toNat:Nat):Int)=_;rw[aaD,e]
 have:(s &&& t)<=s:=acM
 unfold Bt.wo;omega
theorem xP (s t:Nat):ady (s:Int) (t:Int)=((s ||| t:Nat):Int):=by
 have hs : ¬ (0:Int)<=aav (s:Int):=by unfold aav;omega
 have ht : ¬ (0:Int)<=aav (t:Int):=by unfold aav;omega
 have es:(aav (aav (s:Int))).toNat=s:=by unfold aav;omega
 have et:(aav (aav (t:Int))).toNat=t:=by unfold aav;omega
 unfold ady aaJ;rw[decide_eq_false hs,decide_eq_false ht];show aav (aav (((aav (aav (s:Int))).toNat ||| (aav (aav (t:Int))).toNat:Nat):Int))=_;rw[es,et];unfold aav;omega
theorem eI {K:W.Frag}{x:V}(h:ar K H p xs)(f1:dQ x=true)(f2:xs.all dQ=true)(q:Q (.bl (eV x xs)) H):x9 K false x (.ref p) H Q:=⟨p,xs,rfl,.inl h,f1,f2,q⟩
def KG:List V->Hp->VK->Prop:=λxs H Q=>∃ a kvs,xs=[.ref a]/\Rd H a (.dK kvs)/\∀ p,H p=none->Q (.ref p) (upd H p (.dK kvs))
theorem D4:cW X (.type "dict") KG:=by
 intro gV s Z H xs us Q I r h;obtain⟨a,kvs,rfl,e,q⟩:=h;obtain⟨u,rfl,rx⟩:=vals1 r;cases rx
 exact Ij I e λp s' hp I'=>⟨.ref p,_,I',rfl,q p hp⟩
variable {kvs:List (Key×V)}
theorem zR (h:H a=some (.dK kvs))(q:∀ p,H p=none->Q (.ref p) (upd H p (.dK kvs))):KG [.ref a] H Q:=⟨a,kvs,rfl,.inl h,q⟩
theorem AK (q:∀ p,H p=none->Q (.ref p) (upd H p (.dK []))):GH Z H Q:=q
theorem F_ (q:tv Z H λv H1=>td Z H1 λx H2=>ty Z H2 λy H3=>∃ a H4,x=.ref a/\tT H3 a y v H4/\D.nx Z H4):Kj td ty tv D Z H:=q
theorem ji {k:Int}{v:V}{R:Hp->Prop}(h:H p=some (.dK kvs))(hl:kvs.length<aal)(q:R (upd H p (.dK (putK kvs (.inl k) v)))):∃ a H4,V.ref p=.ref a/\tT H a (.int k) v H4/\R H4 :=
 ⟨p,_,rfl,tT.k (k:=.inl k) h hl,q⟩
theorem As (q:td Z H λx H1=>ty Z H1 λy H2=>∃ a v,x=.ref a/\gH H2 a y (some v)/\Q v H2):KI td ty Z H Q:=q
theorem Ee (q:ty Z H λy H1=>td Z H1 λx H2=>∃ a o,x=.ref a/\gH H2 a y o/\Q (.bl o.isSome) H2):NC ty td Z H Q:=q
theorem Ab {k:Int}{R:Option V->Prop}(h:H p=some (.dK kvs))(q:R (cP kvs (.inl k))):∃ a o,V.ref p=.ref a/\gH H a (.int k) o/\R o:=⟨p,_,rfl,gH.k (k:=.inl k) h,q⟩
theorem Rv {t:TE}{Q:Bool->Hp->Prop}(q:t Z H λx H'=>∃ b,x=.bl b/\Q b H'):tB t Z H Q:=q
def Df:V->List V->Hp->VK->Prop:=λx xs H Q=>∃ i,x=.int i/\xs=[]/\Q (.int ((abn i:Nat):Int)) H
theorem EZ:Gc X "int.bit_length" Df:=by
 intro gV s Z H x xs v us Q I rx rs h;obtain⟨i,rfl,rfl,q⟩:=h;cases rs
 obtain⟨t,rfl⟩:=(show ∃ t,v=abt i t from rx)
 refine call_gives F.slot_int_bit_length (typeIs_int s i t) F.entry_int_bit_length (F.args_int_bit_length_1 _) (AutoIntG2.int_bit_length_int_0 i t) ?_;exact⟨.int _,H,I.tok _,⟨_,rfl⟩,q⟩
theorem Ag (q:Q (.int ((abn i:Nat):Int)) H):Df (.int i) [] H Q:=⟨i,rfl,rfl,q⟩
theorem Kv {K:W.Frag}{R:Prop}(q:R):C9 K "int" (.int i) H/\R:=⟨rfl,q⟩
structure fm (K:W.Frag)(x qual:Str)(st:Stmt)(f:Addr)(fd:aa3):Prop where
 ex:∃ (oc:Value) (od:Option Addr) (da:Addr) (kV Ta pm:Value) (an:Option Addr) (S6 ct:Value) (Tv:Array (Option Value)) (o:Obj) (n:Nat),
   fd=W.fnOf x qual (a9 st) (aU st) (ah st) (.ref da) kV Ta pm an S6 ct/\K.lookup f=some ⟨oc,od,.func fd,Tv⟩/\abR K S6 qual=true/\K.lookup da=some o/\o.data=.seq #[.none] n
 kp:abh K (.ref f)=true
variable {f:Addr} {st:Stmt} {x qual:Str}
theorem KQ {K:W.Frag}{da:Addr}{o:Obj}{oc:Value}{od an:Option Addr}{Tv:Array (Option Value)}{kV Ta pm S6 ct:Value}(l:K.lookup f=some ⟨oc,od,.func (W.fnOf x qual (a9 st) (aU st) (ah st) (.ref da) kV Ta pm an S6 ct),Tv⟩)
   (d:K.lookup da=some o/\∃ n,o.data=.seq #[.none] n) (c:abR K S6 qual=true) (k:abh K (.ref f)=true):fm K x qual st f (W.fnOf x qual (a9 st) (aU st) (ah st) (.ref da) kV Ta pm an S6 ct) :=
 let ⟨n,e⟩:=d.2;⟨⟨oc,od,da,kV,Ta,pm,an,S6,ct,Tv,o,n,rfl,l,c,d.1,e⟩,k⟩
section
variable {P:Program} {w:World} {K:W.Frag} {mg:Str->Option Value} {base:Heap}
variable {N ps:List Str} {fd:aa3}
theorem fm.ok (F:fm K x qual st f fd)(S:aq N ps (ah st))(len:∀ vs H Q E,sp vs H Q E->vs.length=ps.length)
   (S_:∀ (S6:Value) (A:Around) (outer:List Env) (s:Shared) (H:Hp) (vs:List V) (Q:VK) (E:XK),bH k (A.deeper (envOfC qual (ah st) s.heap.objs.size f S6))->sp vs H Q E ->
     ∃ t,gj (bW cb P w K mg base N qual (ah st) f S6 A outer s H E).eY (aU st) t/\t { nx:=λ_ H'=>Q .aC H',rt:=Q } (start N vs) H):c7 P w K mg base cb (k+1) f fd ps sp:=by
 obtain⟨oc,od,da,kV,Ta,pm,an,S6,ct,Tv,o,n,rfl,lk,Ud,_,_⟩:=F.ex;refine qT lk Ud S len λA outer s H vs Q E hr UT=>?_;obtain⟨t,h,q⟩:=S_ S6 A outer s H vs Q E hr UT;exact⟨t,h.eY,q⟩
theorem fm.vc {ps:List Str}(F:fm K x qual st f fd)
   (h:∀ (da:Addr) (kV Ta pm:Value) (an:Option Addr) (S6 ct:Value) (us:List Value),us.length+1=ps.length->∃ k:Option (Array Value)->Sem (List (Str×Value)),abW (W.fnOf x qual (a9 st) (aU st) (ah st) (.ref da) kV Ta pm an S6 ct) ⟨us,[]⟩=acr (.ref da) >>= k/\k (some #[.none])=pure (ps.zip (us++[.none]))):Binds K fd ps [.none]:=by
 obtain⟨oc,od,da,kV,Ta,pm,an,S6,ct,Tv,o,n,rfl,lk,Ud,ld,ed⟩:=F.ex;intro s us KX hl;obtain⟨k,h1,h2⟩:=h da kV Ta pm an S6 ct us (by rw[aab] at hl;exact hl);exact .of_defaults rfl (KX _ _ ld) ed h1 h2
end
structure QW (P:Program)(w:World)(K:W.Frag)(mg:Str->Option Value)(base:Heap)(CX:dM)(k:Nat)(x:Str)(C:Addr)(sp:Sp):Prop where
 ex:∃ (f:Addr) (fd:aa3) (ps:List Str),Mk K C f/\c7 P w K mg base CX k f fd ps sp/\mg x=some (.ref C)/\Binds K fd ps [.none]
section
variable {P:Program} {w:World} {K:W.Frag} {mg:Str->Option Value} {base:Heap} {x qual:Str} {st:Stmt} {N ps:List Str} {sp:Sp} {C:Addr}
theorem Me {y:Str}(k:Nat)(hy:mg y=some (.ref C))(h:∃ f fd,fm K "__init__" qual st f fd/\Mk K C f/\Binds K fd ps []/\Binds K fd ps [.none])(S:aq N ps (ah st))(len:∀ vs H Q E,sp vs H Q E->vs.length=ps.length)
   (S_:BodyOk P w K mg base k qual st N sp):CW P w K mg base cb (k+1) y C sp/\QW P w K mg base cb (k+1) y C sp:=by
 obtain⟨f,fd,F,hm,hb,UE⟩:=h;exact⟨⟨f,fd,ps,hm,F.ok S len (S_ f),hy,hb⟩,⟨f,fd,ps,hm,F.ok S len (S_ f),hy,UE⟩⟩
end
theorem JT {K:W.Frag}{neg:Bool}{x:V}(h:ar K H p xs)(hx:dQ x=true)(hs:xs.all dQ=true)(q:Q (.bl (if neg then !eV x xs else eV x xs)) H):x9 K neg x (.ref p) H Q:=⟨p,xs,rfl,.inl h,hx,hs,q⟩
section
variable {K:W.Frag} {a:Addr} {xs:List V} {g:TG} {tc:TT} {te:TE} {Td:List V->Hp->Prop} {H:Hp}
variable {Z0:St}
theorem zf (Pv:Nat->List V->St->Hp->Prop)(h0:Pv 0 [] Z0 H)(hl:∀ i ys Z H,i<=xs.length->Pv i ys Z H->aI K H a xs/\ys.length<=aal)
   (hs:∀ i x ys Z H,xs[i]? = some x->Pv i ys Z H->g x Z H λZ3 H3=>tc Z3 H3 λb H4=>if b=true then te Z3 H4 λy H5=>Pv (i+1) (ys++[y]) Z3 H5 else Pv (i+1) ys Z3 H4)
   (hd:∀ ys Z H,Pv xs.length ys Z H->Td ys H):iz (Kg K a) g tc te Td Z0 H:=by
 refine⟨λi m ys Z H=>m=xs.length - i/\i<=xs.length/\Pv i ys Z H,⟨xs.length,by simp,aaT _,h0⟩,?_⟩;rintro i m ys Z H ⟨rfl,hi,p⟩;obtain⟨q,hz⟩:=hl i ys Z H hi p;by_cases Tb:i<xs.length
 . refine .inr ⟨⟨xs, xs[i], q, by simp[Tb]⟩, Pv (i + 1), λVp Z2 H2 p' => ⟨(hl (i + 1) Vp Z2 H2 Tb p').2, xs.length - (i + 1), by omega, rfl, Tb, p'⟩, λx H2 y => ?_⟩;obtain⟨e,y⟩:=y;subst e;exact hs i x ys Z _ (y xs q) p
 . have e : i = xs.length := by omega
   subst e;exact .inl ⟨⟨xs,q,aag _⟩,hz,hd ys Z H p⟩
theorem xD {α : Type}{xs:List α}{emb : α->V}(f : α->V)(Sg:St->Prop)(hl:aI K H a (xs.map emb))(hz:xs.length<=aal)(h0:Sg Z0)
   (hs:∀ (i:Nat) (x : α) (ys:List V) (Z : St) (H1:Hp),xs[i]? = some x->iN xs f Sg H i ys Z H1->ao H H1->Sg Z ->
     g (emb x) Z H1 λZ3 H3=>tc Z3 H3 λb H4=>if b=true then te Z3 H4 λy H5=>iN xs f Sg H (i+1) (ys++[y]) Z3 H5 else iN xs f Sg H (i+1) ys Z3 H4)
   (hd:∀ H1,ao H H1->Td (xs.map f) H1):iz (Kg K a) g tc te Td Z0 H:=by
 refine zf (xs:=xs.map emb) (iN xs f Sg H) ⟨ao.refl _,h0,rfl⟩ ?_ ?_ ?_
 . rintro i ys Z H1 hi ⟨s,_,rfl⟩;refine⟨ck s hl,?_⟩;rw[aac,aaA];omega
 . intro i x ys Z H1 hx c;rw[aah] at hx;obtain⟨z,hz,rfl⟩:=Option.map_eq_some_iff.mp hx;exact hs i z ys Z H1 hz c c.1 c.2.1
 . rintro ys Z H1 ⟨s,_,rfl⟩;rw[aac,aa0];exact hd H1 s
end
section
variable {prog:Program} {w:World} {A:Around} {E:Value->Shared->Prop} {s:Shared}
theorem O5 {it t:Addr}{i:Nat}{its:Array Value}{Q:Value->Shared->Prop}(hi:s.heap.IsTupleIter it t i)(ht:s.heap.IsTuple t its)
   (q1:∀ x,its[i]? = some x->∀ h',h'.IsTupleIter it t (i+1)->aca it s.heap h'->Q x { s with heap:=h' })
   (q2:its[i]? = none->A.handled=none/\∀ h' e,Heap.ExtBut it s.heap h'->(∃ o,h'.get? e=some o/\o.cls=.type "StopIteration")->E (.ref e) { s with heap:=h' }) :
   wpAny (model prog w) A (abo (.ref it)) Q E s:=by
 obtain⟨o,ho,hc,hd⟩:=id hi;obtain⟨ot,hot,_,nt,hdt⟩:=ht;unfold abo;refine aad (acv (name:=aae "__next__") hi.typeIs F.slot_tuple_iterator_next (acK F.slot_tuple_iterator_next hi.typeIs F.entry_tuple_iterator_next ?_ (F.args_tuple_iterator_next_1 _)));show wpAny _ _ (field (.ref it) 0 >>= _) _ _ _;refine aad (aby ho hd (x:=.ref t) rfl ?_);show wpAny _ _ (if (Tg t == abq)=true then _ else _) _ _ _;rw[if_neg (show ¬ (Tg t == abq)=true from λz=>aap z)];show wpAny _ _ (field (.ref it) 1 >>= _) _ _ _;refine aad (aby ho hd (x:=.int i 0) rfl ?_);show wpAny _ _ (acr (.ref t) >>= _) _ _ _;refine aad (ac_ hot hdt ?_);cases hx:its[i]? with
 | some x =>
   simp only[aaD,hx];refine aad (ac9 ho hd (by simp) (aaj ⟨x,rfl,aaj (q1 x hx _ ?_ (ac7 ..))⟩));refine⟨_,aa9 _ ho (adt (ach hd _)),(Obj.cls_mapFields ..).trans hc,?_⟩;rw[ach hd];simp[rawInt]
 | none =>
   obtain⟨hh,q2⟩:=q2 hx;simp only[aaD,hx];refine aad (wpAny_rule (aad (ac9 ho hd (by simp) ?_)));show wpAny _ _ (newExc (.type "StopIteration") [] >>= _) _ _ _;refine aad ?_;simp only[newExc,newTuple];refine aad (abw ?_ (by size_fits));refine aad (m:=firstArgMember _ _) (wpAny_of_eq (a:=abq) (by first | rfl | (simp only[firstArgMember];rfl)) (abw ?_ (by size_fits)));simp only[raiseNew];refine aad (wpAny_handled ?_);rw[show A.in1.handled=none from hh];refine aad (aaj (wpAny_throw ?_));exact q2 _ _ (((ac7 ..).extBut.push _).push _) ⟨_,aat _ rfl,rfl⟩
end
def JP (K:W.Frag)(a b:Addr):It :=
 ⟨λi H=>∃ xs ys x y,aI K H a xs/\aI K H b ys/\xs[i]? = some x/\ys[i]? = some y,
  λi H v H'=>∃ T x y,v=.ref T/\H T=none/\H'=upd H T (.tup [x,y])/\∀ xs ys,aI K H a xs->aI K H b ys->xs[i]? = some x/\ys[i]? = some y,
  λi H=>∃ xs ys,aI K H a xs/\aI K H b ys/\(xs.length<=i∨ys.length<=i)⟩
theorem xv {gV:List (Addr×Obj)}{h':Heap}{ch:List Addr}{T:Addr}{xs:List V}(I:Inv X gV Z H s)(hf:∀ b∈ch,pI X gV H b)(hT:s.heap.objs.size<=T)
   (k:∀ b o,b ∉ ch->s.heap.get? b=some o->h'.get? b=some o) (kc:∀ b∈ch,∃ o,h'.get? b=some o) (new:b8 X.prog X.w (upd H T (.tup xs)) h' T (.tup xs)):Inv X gV Z (upd H T (.tup xs)) { s with heap:=h' }:=by
 have hn:H T=none:=I.aA.fresh hT;have nc:∀ b u,H b=some u->b ∉ ch:=λb u e hb=>by rw[(hf b hb).1] at e;cases e
 have nT:∀ b o,s.heap.get? b=some o->b≠T:=λb o e z=>absurd (aam e) (by rw[z];exact Nat.not_lt.mpr hT);refine I.uz (ch:=ch) rfl ⟨λb o e _ _ hc=>k b o hc e,λb o e _ _ hc=>⟨o.slots,k b o hc e⟩,λb o e n _=>by rw[ak (nT b o e)];exact n,λb o e hc=>⟨o,k b o hc e⟩,λb xs e=>?_,λb o u e=>?_,λb ps e=>⟨#[],?_⟩⟩ ?_ I.bare ?_
 . rw[ak (ag e hn)];exact e
 . rw[ak (ag e hn)];exact e
 . rw[ak (ag e hn),e];simp
 . intro b u e;by_cases hb:b=T
   . subst hb;rw[aa] at e;cases e
     exact new
   . rw [ak hb] at e;refine (I.aA b u e).iV (λc v hc q=>k c v ?_ q) (λc q=>by rw [ak (ag q hn)];exact q) λc ys q=>by rw [ak (ag q hn)];exact q
     rcases hc with z | z
     . rw[z];exact nc b u e
     . exact nc c _ z
 . intro b hb;obtain⟨f0,f1,f2,f3,f4,f5⟩:=hf b hb;exact⟨f3,f1,f4,f5⟩
theorem PR:aaW "zip" = some (.type "zip"):=by nofun
def Pc (K:W.Frag)(ta:TA):TI:=λZ H R=>ta Z H λvs H1=>∃ a b xs ys,vs=[.ref a,.ref b]/\aI K H1 a xs/\aI K H1 b ys/\R (JP K a b) H1
theorem Qr {K:W.Frag}(q:ta Z H λvs H1=>∃ a b xs ys,vs=[.ref a,.ref b]/\aI K H1 a xs/\aI K H1 b ys/\R (JP K a b) H1):Pc K ta Z H R:=q
variable {Z0:St}
theorem Gz {K:W.Frag}{a b:Addr}{α : Type}{xs:List α}{e1 e2 : α->V}{g:TG}{tc:TT}{te:TE}{Td:List V->Hp->Prop}(f : α->V)(Sg:St->Prop)(ha:aI K H a (xs.map e1))(hb:aI K H b (xs.map e2))(hz:xs.length<=aal)(h0:Sg Z0)
   (hs:∀ (i:Nat) (x : α) (ys:List V) (Z : St) (H1:Hp) (T:Addr),xs[i]? = some x->iN xs f Sg H i ys Z H1->ao H H1->Sg Z->H1 T=none ->
     g (.ref T) Z (upd H1 T (.tup [e1 x,e2 x])) λZ3 H3=>tc Z3 H3 λb H4=>if b=true then te Z3 H4 λy H5=>iN xs f Sg H (i+1) (ys++[y]) Z3 H5 else iN xs f Sg H (i+1) ys Z3 H4)
   (hd:∀ H1,ao H H1->Td (xs.map f) H1):iz (JP K a b) g tc te Td Z0 H:=by
 refine⟨λi m ys Z H1=>m=xs.length - i/\i<=xs.length/\iN xs f Sg H i ys Z H1,⟨xs.length,by simp,aaT _,ao.refl _,h0,rfl⟩,?_⟩;rintro i m ys Z H1 ⟨rfl,hi,c⟩;obtain⟨s,sg,rfl⟩:=id c;by_cases Tb:i<xs.length
 . refine .inr ⟨⟨_, _, e1 xs[i], e2 xs[i], ck s ha, ck s hb, by simp [Tb], by simp [Tb]⟩, iN xs f Sg H (i + 1), λVp Z2 H2 p' => ⟨?_, xs.length - (i + 1), by omega, rfl, Tb, p'⟩, λv H2 y => ?_⟩
   . obtain⟨_, _, rfl⟩ := p';rw[aac,aaA];omega
   . obtain ⟨T, x, y', rfl, hT, rfl, hxy⟩ := y;obtain ⟨q1,q2⟩:=hxy _ _ (ck s ha) (ck s hb);have W8:e1 xs[i]=x:=by simpa [Tb] using q1
     have e2':e2 xs[i]=y':=by simpa [Tb] using q2
     rw[<- W8,<- e2'];exact hs i xs[i] _ Z H1 T (by simp[Tb]) c s sg hT
 . have e : i = xs.length := by omega
   subst e;refine .inl ⟨⟨_,_,ck s ha,ck s hb,.inl (by simp)⟩,?_,?_⟩
   . rw[aac,aaA];omega
   . rw[aa0];exact hd H1 s
variable {n:Nat}
theorem Rm {K:W.Frag}{a:Addr}{its:Array Value}{od:Option Addr}{sl:Array (Option Value)}(l:K.lookup a=some ⟨.type "tuple",od,.seq its n,sl⟩)(hz:its.size<=aal)(v:aL xs its.toList):∀ H,aI K H a xs:=λH=>.inr ⟨_,its,n,l,rfl,rfl,hz,v⟩
theorem Kf (h:H l=some (.lst (xs++[y])))(q:Q y (upd H l (.lst xs))):Od (.ref l) [] H Q:=by
 refine⟨l,xs++[y],y,rfl,rfl,h,?_,?_⟩
 . simp
 . simpa using q
theorem Jx {b:Addr}{zs:List V}(h:H l=some (.lst xs))(hb:H b=some (.lst zs))(hz:xs.length+zs.length<=aal)(q:Q .aC (upd H l (.lst (xs++zs)))):C5 (.ref l) [.ref b] H Q:=⟨l,b,xs,zs,rfl,rfl,h,hb,hz,q⟩
theorem PS.eY (h:PS X.eY st t):PS X st t:=λgV s Z H D I hw =>
 aaH (h gV s Z H D (I.fP _) hw) (λ_ _ q=>q.eg) λ_ _ z=>z.elim
theorem PA.eY (h:PA X.eY es t):PA X es t:=λpos gV s Z H Q I hw =>
 aaH (h pos gV s Z H Q (I.fP _) hw) (λ_ _ zq=>bR zq λv H' I' r q=>⟨v,H',I'.eg,r,q⟩) λ_ _ z=>z.elim
theorem FP {P:Program}{w:World}{h0 h5:Heap}{l:List Addr}(x:dh P w H h0)(hl:∀ b∈l,H b=none)(k:(acm h0 l).StaysIn h5):dh P w H h5:=λa o e=>by
 refine(x a o e).iV (λb u hb q=>k b u (W.hideAll_get _ q λhm=>?_)) (λ_ q=>q) λ_ _ q=>q;have hn:=hl b hm;rcases hb with rfl | hb
 . rw[e] at hn;cases hn
 . rw[hb] at hn;cases hn
theorem Je {fs:List Addr}{h h0 h5:Heap}{l:List Addr}(u:Un fs [] H H' h h0)(hl:∀ b∈l,b∈fs∨h.objs.size<=b)(k:(acm h0 l).StaysIn h5)(up:h0.UpToSlots h5)
   (hf:∀ b∈fs,H b=none/\∀ o,h.get? b=some o->∀ vs,o.data≠.fields vs):Un fs [] H H' h h5:=by
 have nl:∀ b o,h.get? b=some o->b ∉ fs->b ∉ l:=λb o q hb hm=>by
   rcases hl b hm with z | z
   . exact hb z
   . exact absurd (aaz (aam q) z) (abB _)
 have sl:∀ b o,h.get? b=some o->b∈fs->∃ sl,h5.get? b=some { o with slots:=sl }:=λb o q hb=>by
   obtain⟨s1,e1⟩:=u.slot b o q (hf b hb).1 hb (by simp);obtain⟨s2,e2⟩:=up b _ e1 ((hf b hb).2 o q);exact⟨s2,e2⟩
 refine⟨λb o q n hb hx=>k b o (W.hideAll_get _ (u.keep b o q n hb hx) (nl b o q hb)),λb o q _ hb _=>sl b o q hb,u.free,λb o q hx=>?_,u.jC,u.iO,u.jV⟩;by_cases hb:b∈fs
 . obtain⟨s2, e2⟩ := sl b o q hb;exact⟨_,e2⟩
 . obtain⟨o', e'⟩ := u.there b o q hx;exact⟨o',k b o' (W.hideAll_get _ e' (nl b o q hb))⟩
structure A8 (P:Program)(w:World)(outer:List Env)(H:Hp)(s:Shared)(ea C:Addr)(H':Hp)(s':Shared):Prop where
 os:s'.os=s.os
 bare:AllBare s'.gens
 ex:∃ (h0:Heap) (l:List Addr) (a0:Value),Un (cS outer) [] H H' s.heap h0/\dh P w H' h0/\(∀ b∈l,H' b=none/\(b∈cS outer∨s.heap.objs.size<=b))/\h0.get? ea=none /\
   Heap.FlyingW (acm h0 l) outer ea (.ref C) a0 s'.heap/\h0.UpToSlots s'.heap
def eQ (P:Program)(w:World):dM:=λouter H s E e s'=>∃ (ea C:Addr) (H':Hp),e=.ref ea/\A8 P w outer H s ea C H' s'/\E (.ref C) none H'
structure Ae (K:W.Frag)(mg:Str->Option Value)(x:Str)(C:Addr):Prop where
 glob:mg x=some (.ref C)
 ex:W.excIn K C [.type "ValueError",.type "Exception",.type "BaseException",.type "object"] "ValueError.__new__" = true
theorem Ae.obj {K:W.Frag}{mg:Str->Option Value}{h:Heap}(c:Ae K mg x C)(X:K.In h) :
   ∃ (bm:List Value) (N:Addr) (nm qn:Str) (bs:List Value) (hd:Bool) (sn:List Str) (sub:List Value) (ab:Bool) (col:Option Bool) (dd:Option Addr) (k0 k1 k2 k3 k5:Option Value) (mN:Str->Option Value),
     h.get? C=some (acY nm qn C N bs bm hd sn sub ab col dd k0 k1 k2 k3 k5 "ValueError.__new__")/\h.Ns N mN/\mN "__init__" = none /\
     OwnTail h [.type "ValueError",.type "Exception",.type "BaseException",.type "object"] bm:=by
 have hq:=c.ex;unfold W.excIn at hq;split at hq
 . rename_i dd cd sl WR;split at hq
   . rename_i C' bm k0 k1 k2 k3 id k5 VR Wb;simp only[aaM,ac1,beq_iff_eq] at hq;obtain⟨⟨⟨⟨⟨e1,e2⟩,e3⟩,e4⟩,e5⟩,e6⟩:=hq;subst e1 e2;obtain⟨nm,bs,mro,ns,qn,hd,sn,sub,ab,col,del⟩:=cd;dsimp only at VR e3 e5 e6;subst VR e3;obtain⟨sl⟩:=sl;dsimp only at Wb;subst Wb;exact⟨bm,ns,nm,qn,bs,hd,sn,sub,ab,col,dd,k0,k1,k2,k3,k5,_,X _ _ WR,.of_isNs (W.isNs_of_in X e5),W.nsMap_none_of_in X e5 e6,W.tail_of_in X e4⟩
   . cases hq
 . cases hq
def GP (C:Addr)(E:XK)(t:TA):TS:=λ_ Z H=>t Z H λvs H1=>vs.length<=1000/\E (.ref C) none H1
theorem A4 (Tj:X.stack=X.env::X.outer)(UL:X.env.frame=some X.env.locals):cS X.stack=X.env.locals::cS X.outer:=by
 rw[Tj];unfold cS;rw[abH,UL]
theorem zh {gV:List (Addr×Obj)}{h':Heap}{e C:Addr}{args:List Value}{Q:Unit->Shared->Prop}{Ex:Value->Shared->Prop}(I:Inv X gV Z H s)
   (Tj:X.stack=X.env::X.outer) (UL:X.env.frame=some X.env.locals) (hex:X.ex=[]) (hx:acS s.heap h' e (.ref C) args)
   (hQ:∀ s',A8 X.prog X.w X.outer X.H₀ X.s₀ e C H s'->Q () s'):wpAny (model X.prog X.w) X.A (leaving X.env (.ref e)) Q Ex { s with heap:=h' }:=by
 have hfs:=A4 Tj UL;have WU:∀ env∈X.stack,∀ a,env.frame=some a->a∈cS X.stack:=λenv he b hb=>List.mem_filterMap.mpr ⟨env,he,hb⟩;have hl:s.heap.FunFrames (acm s.heap (cS X.stack)) (X.env::X.outer):=by
   have z:=W.funFrames_hide I.stack WU;rw[Tj] at z ⊢;exact z
 refine wpAny_leaves_madeW (s:={ s with heap:=h' }) (by rw[<- Tj];exact I.ok.frames) UL (λb o q=>W.of_hideAll _ q) hl hx λh2 t x1 _ _ x4=>hQ _ ⟨I.os,I.bare,?_⟩;have hb:=I.base;rw[hex] at hb;refine⟨s.heap,cS X.stack,.ref t,hb,I.aA,λb hm=>⟨I.mv b hm,?_⟩,hx.new,x1,(Heap.UpToSlots.of_keeps hx.keeps).trans x4⟩;rw[hfs] at hm;rcases List.mem_cons.mp hm with rfl | hm
 . exact .inr I.ok.above
 . exact .inl hm
theorem ni {P:Program}{w:World}{K:W.Frag}{mg:Str->Option Value}{base:Heap}{N:List Str}{qual:Str}{scope:Scope}{f:Addr}{cd:Value}{A:Around}{outer:List Env}{s0:Shared}{H0:Hp}{E:XK}
   {C:Addr} {x:Str} {np S8 pos:Pos} {e0:Expr} {es:List Expr} {t:TA} (c:Ae K mg x C) (hg:Gl (bW (eQ P w) P w K mg base N qual scope f cd A outer s0 H0 E) x)
   (ha:PA (bW (eQ P w) P w K mg base N qual scope f cd A outer s0 H0 E).eY (e0::es) t) (Tw:(x == ("__debug__" : Str))=false:=by decide)
   (he:aai (e0::es) (bW (eQ P w) P w K mg base N qual scope f cd A outer s0 H0 E).env=(false,eval e0 (bW (eQ P w) P w K mg base N qual scope f cd A outer s0 H0 E).env)::aai es (bW (eQ P w) P w K mg base N qual scope f cd A outer s0 H0 E).env:=by rfl)
   (S9:(backTo S8 (aai es (bW (eQ P w) P w K mg base N qual scope f cd A outer s0 H0 E).env)).any (·.1)=false:=by rfl) :
   PS (bW (eQ P w) P w K mg base N qual scope f cd A outer s0 H0 E) (.Raise (some (.Call (.Name x np) (e0::es) [] S8)) none pos) (GP C E t):=by
 intro gV s Z H D I h;obtain⟨bm,N',nm,qn,bs,hd,sn,sub,ab,col,dd,k0,k1,k2,k3,k5,mN,hC,hN,hni,TL⟩:=c.obj I.ok.mod.uL
 refine wpAny_Raise_call_subU (C:=C) (mN:=mN) (N:=N') (nm:=nm) (q:=qn) (bs:=bs) (bm:=bm) (hdct:=hd) (sn:=sn) (sub:=sub) (ab:=ab) (col:=col) (dd:=dd) (k0:=k0) (k1:=k1) (k2:=k2) (k3:=k3) (k5:=k5)
   abv (by nofun) abv (TL.hasType (by nofun)) (I.ok.hd rfl) (by rw[he];show(false || (backTo S8 (aai es _)).any (·.1))=false;rw[S9];rfl) hni ?_
 refine eS I hg c.glob ⟨rfl,?_⟩ Tw;have Ua:=(L3.PA.eY ha) S8 gV s Z H _ I h;rw[he] at Ua ⊢;refine acB (aR Ua λus s1 zq=>?_);obtain⟨vs,H1,I1,r,S7,q⟩:=zq;refine⟨rfl,?_,I1.bk _ _ hC,hN.keeps I1.bk,TL.keeps I1.bk,λh' e hm=>?_⟩
 . show us.length <= aal;rw[<- r.length];exact aaK S7 (by nofun)
 . exact zh (X:=bW (eQ P w) P w K mg base N qual scope f cd A outer s0 H0 E) I1 rfl rfl rfl hm λs' th=>⟨e,C,H1,rfl,th,q⟩
theorem lQ {P:Program}{w:World}{K:W.Frag}{mg:Str->Option Value}{base:Heap}{N:List Str}{qual:Str}{scope:Scope}{f:Addr}{cd:Value}{A:Around}{outer:List Env}{s0:Shared}{H0:Hp}{E:XK} :
   dH (eQ P w) (bW (eQ P w) P w K mg base N qual scope f cd A outer s0 H0 E) E:=by
 intro gV Z H s e s' I h;obtain⟨ea,C,H',rfl,⟨os,bare,h0,l,a0,u,aA,hl,hn,fl,up⟩,q⟩:=h;show wpAny _ _ (leaving _ (.ref ea)) _ _ s';refine wpAny_leaves_onW (outer:=outer) I.ok.frames rfl fl λh2 fl2 up2=>⟨ea,C,H',rfl,⟨os.trans I.os,bare,h0,l,a0,?_,aA,λb hb=>⟨(hl b hb).1,?_⟩,hn,fl2,up.trans up2⟩,q⟩
 . have J := I.call (h' := h0) (g' := s'.gens) (d' := s'.drawn) (t' := s'.toks) (ch := []) u aA bare (λb z => absurd z (by simp));exact J.base
 . rcases(hl b hb).2 with z | z
   . have z' : b ∈ cS (envOfC qual scope s0.heap.objs.size f cd :: outer) := z;have e1:cS (envOfC qual scope s0.heap.objs.size f cd::outer)=s0.heap.objs.size::cS outer:=by unfold cS;rw [abH];rfl
     rw[e1] at z';rcases List.mem_cons.mp z' with rfl | z'
     . exact .inr (aag _)
     . exact .inl z'
   . exact .inr (aaK I.sz z)
section
variable {P:Program} {w:World} {K:W.Frag} {mg:Str->Option Value} {base:Heap} {x qual:Str} {st:Stmt} {N ps:List Str} {sp:Sp} {C:Addr} {k:Nat}
def LX (P:Program)(w:World)(K:W.Frag)(mg:Str->Option Value)(base:Heap)(qual:Str)(st:Stmt)(N:List Str)(f:Addr)(S6:Value)(A:Around)(outer:List Env)(s:Shared)(E:XK)(Q:VK)(H:Hp)(vs:List V):Prop :=
 ∃ t,gj (bW (eQ P w) P w K mg base N qual (ah st) f S6 A outer s H E) (aU st) t/\t { nx:=λ_ H'=>Q .aC H',rt:=Q } (start N vs) H
def zd (P:Program)(w:World)(K:W.Frag)(mg:Str->Option Value)(base:Heap)(k:Nat)(qual:Str)(st:Stmt)(N:List Str)(sp:Sp):Prop :=
 ∀ (f:Addr) (S6:Value) (A:Around) (outer:List Env) (s:Shared) (H:Hp) (vs:List V) (Q:VK) (E:XK),bH k (A.deeper (envOfC qual (ah st) s.heap.objs.size f S6))->sp vs H Q E ->
   LX P w K mg base qual st N f S6 A outer s E Q H vs
variable {fd:aa3}
theorem dY.Ka (F:dY K x qual st f fd)(S:aq N ps (ah st))(len:∀ vs H Q E,sp vs H Q E->vs.length=ps.length)(S_:zd P w K mg base k qual st N sp):c7 P w K mg base (eQ P w) (k+1) f fd ps sp:=by
 obtain⟨oc,od,kV,Ta,pm,an,S6,ct,Tv,rfl,lk,Ud⟩:=F.ex;exact qT lk Ud S len λA outer s H vs Q E hr UT=>S_ f S6 A outer s H vs Q E hr UT
theorem zD (k:Nat)(h:∃ f fd,dY K x qual st f fd/\mg x=some (.ref f)/\Binds K fd ps [])(S:aq N ps (ah st))(len:∀ vs H Q E,sp vs H Q E->vs.length=ps.length)
   (S_:zd P w K mg base k qual st N sp):iE P w K mg base (eQ P w) (k+1) x sp:=by
 obtain⟨f,fd,F,hm,hb⟩:=h;exact⟨f,fd,ps,dY.Ka F S len S_,hm,F.kp,hb⟩
end
section
variable {X:Cx} {gV:List (Addr×Obj)} {Z : St} {H:Hp} {s:Shared}
abbrev Cx.sup (X:Cx)(e:Addr)(pl:List (Addr×Obj)):Cx:={ X with A:=X.A.mark (some (.ref e)),calm:=false,xe:=λ_ _=>False,pn:=X.pn++pl }
variable {e:Addr}
theorem Cx.Ok.sup (ok:X.Ok):(Cx.sup X e pl).Ok :=
 ⟨ok.mod,ok.kind,ok.glob,ok.blt,ok.above,ok.inj,ok.has,ok.Ax,(λz=>by cases z),ok.frames,ok.Dq,ok.JI,ok.bs,ok.rH,ok.sS,ok.wZ,ok.gv,ok.uR⟩
theorem Cx.Ok.u_ (ok:(Cx.sup X e pl).Ok)(h:X.calm=true->X.A.handled=none):X.Ok :=
 ⟨ok.mod,ok.kind,ok.glob,ok.blt,ok.above,ok.inj,ok.has,ok.Ax,h,ok.frames,ok.Dq,ok.JI,ok.bs,ok.rH,ok.sS,ok.wZ,ok.gv,ok.uR⟩
theorem Inv.sup (I:Inv X gV Z H s)(h:∀ p∈pl,s.heap.get? p.1=some p.2/\H p.1=none/\p.1≠X.env.locals/\p.1 ∉ X.fs/\∀ v,p.2.data≠.cell v):Inv (Cx.sup X e pl) gV Z H s :=
 ⟨Cx.Ok.sup I.ok,I.os,I.bare,I.base,I.loc,I.cell,I.free,I.fN,λp hp=>by
   rcases List.mem_append.mp hp with hp | hp
   . rcases List.mem_append.mp hp with hp | hp
     . exact I.pin p (aa5 _ hp)
     . exact h p hp
   . exact I.pin p (aay _ hp),I.aA,I.len⟩
theorem Inv.u_ (I:Inv (Cx.sup X e pl) gV Z H s)(h:X.calm=true->X.A.handled=none):Inv X gV Z H s :=
 ⟨Cx.Ok.u_ I.ok h,I.os,I.bare,I.base,I.loc,I.cell,I.free,I.fN,λp hp=>by
   rcases List.mem_append.mp hp with hp | hp
   . exact I.pin p (aa5 _ (aa5 _ hp))
   . exact I.pin p (aay _ hp),I.aA,I.len⟩
end
def JM (X:Cx)(gV:List (Addr×Obj))(Z : St)(Ew:XK)(ex:Value)(s':Shared):Prop :=
 ∃ (ea C:Addr) (H1:Hp) (s1:Shared) (H':Hp),ex=.ref ea/\Inv X gV Z H1 s1/\A8 X.prog X.w X.stack H1 s1 ea C H' s'/\Ew (.ref C) none H'
abbrev TB:=Ends->XK->St->Hp->Prop
def PB (X:Cx)(body:List Stmt)(tb:TB):Prop :=
 ∀ (gV:List (Addr×Obj)) (s:Shared) (Z : St) (H:Hp) (D:Ends) (Ew:XK),Inv X gV Z H s->tb D Ew Z H->wpAny (model X.prog X.w) X.A (execs body X.env) (SP X gV D) (JM X gV Z Ew) s
section
variable {X:Cx} {gV:List (Addr×Obj)} {Z : St} {H:Hp} {s:Shared} {k:Nat} {g x n:Str} {sp:Sp} {e:Expr} {es:List Expr} {t:TA} {gp S8 pos py:Pos}
theorem Ck (G:iE X.prog X.w X.K X.mg X.base (eQ X.prog X.w) k g sp)(hr:bH k X.A)(hg:Gl X g)(ha:PA X.eY (e::es) t)(I:Inv X gV Z H s)(h:t Z H λvs H1=>sp vs H1 Q Ew)
   (Tw:(g == ("__debug__" : Str))=false) (he:aai (e::es) X.env=(false,eval e X.env)::aai es X.env) (S9:(backTo S8 (aai es X.env)).any (·.1)=false) :
   wpAny (model X.prog X.w) X.A (eval (.Call (.Name g gp) (e::es) [] S8) X.env) (EP X gV Z Q) (JM X gV Z Ew) s:=by
 obtain⟨f,fd,ps,F,hm,hk,hb⟩:=G.ex;refine abf (eS I hg hm ?_ Tw);refine adw (h₀:=X.base) I.ok.mod.uL hk (aaH (ha S8 gV s Z H _ (I.fP _) h) (λus s1 zq=>bR zq λvs H1 I1 r q=>⟨I1.df,?_⟩) λ_ _ z=>z.elim) he S9;have J:Inv X gV Z H1 s1:=I1.eg;have hl:us.length=ps.length:=by rw[<- r.length];exact F.len _ _ _ _ q
 have Vz:=hb s1 us J.df (by rw[aaL];exact hl);rw[aaL] at Vz;refine acP (ab0 (F.run X.A X.stack s1 H1 ⟨us,[]⟩ us vs Q Ew hr J.AS Vz r q) λr2 s' hq=>?_);cases r2 with
 | error ex =>
   obtain⟨ea,C,H',rfl,th,q2⟩:=(show eQ X.prog X.w X.stack H1 s1 Ew ex s' from hq)
   exact⟨ea,C,H1,s1,H',rfl,J,th,q2⟩
 | ok fl =>
   cases fl with
   | ret u=>exact J.after hq
   | next=>exact aaV hq
   | brk=>exact aaV hq
   | cont=>exact aaV hq
def Kb (sp:Sp)(i:Nat)(t:TA):TB:=λD Ew Z H=>t Z H λvs H1=>sp vs H1 (λv H2=>D.nx (Z.set i (some v)) H2) Ew
theorem OS {i:Nat}(hN:X.N.Nodup)(hi:X.N[i]? = some x)(hx:Loc X.env.scope x)(G:iE X.prog X.w X.K X.mg X.base (eQ X.prog X.w) k g sp)(hr:bH k X.A)(hg:Gl X g)(ha:PA X.eY (e::es) t)
   (hf:X.fn x=true∨X.env.scope.names.lookup x=some .local:=by first | exact .inl rfl | exact .inr rfl | assumption) (Tw:(g == ("__debug__" : Str))=false:=by decide)
   (he:aai (e::es) X.env=(false,eval e X.env)::aai es X.env:=by rfl) (S9:(backTo S8 (aai es X.env)).any (·.1)=false:=by rfl) :
   PB X [.Assign [.Name x py] (.Call (.Name g gp) (e::es) [] S8) pos] (Kb sp i t):=by
 intro gV s Z H D Ew I h;refine adu (wpAny_Assign_Name (aaH (Ck G hr hg ha I h Tw he S9) (λv s1 zq=>bR zq λy H1 I1 r1 q1=>?_) λ_ _ z=>z) rfl);exact nj I1 hN hi hx r1 (λs2 I2=>abK ⟨_,H1,I2,q1⟩) hf
end
section
variable {X:Cx} {gV:List (Addr×Obj)} {Z : St} {H H1 H':Hp} {s s1 s':Shared} {ea C:Addr}
theorem kO {h0 h5:Heap}{l:List Addr}(I:Inv X gV Z H1 s1)(os:s'.os=s1.os)(bare:AllBare s'.gens)(u:Un (cS X.stack) [] H1 H' s1.heap h0)(aA:dh X.prog X.w H' h0)
   (hl:∀ b∈l,H' b=none/\(b∈cS X.stack∨s1.heap.objs.size<=b)) (k:(acm h0 l).StaysIn h5) (up:h0.UpToSlots h5):Inv X gV Z H' { s' with heap:=h5 } :=
 I.uz (s':={ s' with heap:=h5 }) os (Je u (λb hb=>(hl b hb).2) k up λb hb=>⟨I.mv b hb,λo q=>by
   obtain⟨_,o',q',d⟩:=I.stack.mem hb;rw[q] at q';cases q';exact d⟩) (FP aA (λb hb=>(hl b hb).1) k) bare (λb z=>absurd z (by simp))
end
open PySem PySem.Spec PyProof.Rows L2 PySem.SeqAt PySem.W Builtin Builtin.ObjectAttr Builtin.Getset_descriptor
structure Ot (K:W.Frag)(C:Addr):Prop where
 cl:(W.clsIn K C).isSome=true
 ga:abg K (.ref C) "__getattribute__" = some (some (.builtin "BaseException.__getattribute__"))
 gt:abg K (.ref C) "__getattr__" = some none
 co:abg K (.ref C) "__class__" = some (some (.builtin "object.__class__"))
 gs:W.specialIn K (.builtin "object.__class__") "__get__" = some (some (.builtin "getset_descriptor.__get__"))
 tk:W.takesIn K (.builtin "object.__class__")=some true
 mo:W.mroIn K C (.type "object")=some true
 mb:W.mroIn K C (.type "BaseException")=some true
section
variable {prog:Program} {w:World} {A:Around} {E:Value->Shared->Prop} {s:Shared} {K:W.Frag} {x C:Addr} {ox:Obj}
theorem jj {E:XK}{t:TA}{Z : L2.St}(h:t Z H λvs H1=>vs.length<=1000/\E (.ref C) none H1):GP C E t D Z H:=h
end
def D_ (K:W.Frag)(a b c:Addr):It :=
 ⟨λi H=>∃ xs ys zs x y u,aI K H a xs/\aI K H b ys/\aI K H c zs/\xs[i]? = some x/\ys[i]? = some y/\zs[i]? = some u,
  λi H v H'=>∃ T x y u,v=.ref T/\H T=none/\H'=upd H T (.tup [x,y,u])/\∀ xs ys zs,aI K H a xs->aI K H b ys->aI K H c zs->xs[i]? = some x/\ys[i]? = some y/\zs[i]? = some u,
  λi H=>∃ xs ys zs,aI K H a xs/\aI K H b ys/\aI K H c zs/\(xs.length<=i∨ys.length<=i∨zs.length<=i)⟩
def KC (K:W.Frag)(ta:TA):TI:=λZ H R=>ta Z H λvs H1=>∃ a b c xs ys zs,vs=[.ref a,.ref b,.ref c]/\aI K H1 a xs/\aI K H1 b ys/\aI K H1 c zs/\R (D_ K a b c) H1
theorem M7 {K:W.Frag}(q:ta Z H λvs H1=>∃ a b c xs ys zs,vs=[.ref a,.ref b,.ref c]/\aI K H1 a xs/\aI K H1 b ys/\aI K H1 c zs/\R (D_ K a b c) H1):KC K ta Z H R:=q
theorem Hv {K:W.Frag}{a b c:Addr}{ys zs:List V}{g:TG}{tb:TS}{D:Ends}(hy:ys.length=xs.length)(hz:zs.length=xs.length)(Pv:Nat->St->Hp->Prop)(h0:Pv 0 Z H)(hl:∀ i Z H,i<=xs.length->Pv i Z H->aI K H a xs/\aI K H b ys/\aI K H c zs)
   (hs:∀ i x y u T Z H,xs[i]? = some x->ys[i]? = some y->zs[i]? = some u->Pv i Z H->H T=none->g (.ref T) Z (upd H T (.tup [x,y,u])) λZ2 H2=>tb { D with nx:=Pv (i+1),ct:=Pv (i+1),bk:=D.nx } Z2 H2) (hd:∀ Z H,Pv xs.length Z H->D.nx Z H):zO (D_ K a b c) g tb D Z H:=by
 refine⟨λi m Z H=>m=xs.length - i/\i<=xs.length/\Pv i Z H,⟨xs.length,by simp,aaT _,h0⟩,?_⟩;rintro i m Z H ⟨rfl,hi,p⟩;obtain⟨q1,q2,q3⟩:=hl i Z H hi p;by_cases Tb:i<xs.length
 . refine .inr ⟨⟨xs, ys, zs, xs[i], ys[i], zs[i], q1, q2, q3, by simp[Tb], by simp[hy, Tb], by simp[hz, Tb]⟩, Pv (i + 1), λZ' H' p' => ⟨xs.length - (i + 1), by omega, rfl, Tb, p'⟩, λx H' y => ?_⟩;obtain⟨T,x',y',u',rfl,hT,rfl,hxy⟩:=y;obtain⟨r1,r2,r3⟩:=hxy _ _ _ q1 q2 q3;exact hs i x' y' u' T Z H r1 r2 r3 p hT
 . have e : i = xs.length := by omega
   subst e;exact .inl ⟨⟨xs,ys,zs,q1,q2,q3,.inl (aag _)⟩,hd Z H p⟩
theorem pF:∀ {vs:List Value} {ns:List Int},IntsAre vs ns->aL (ns.map V.int) vs
 | [],_,h=>by cases h;exact .nil
 | _::_,_,h=>by cases h with | cons n t h=>exact .cons ⟨_,rfl⟩ (pF h)
theorem vQ:∀ {vs:List Value} {ns:List Int},vs.length=ns.length->(∀ (j:Nat) (v:Value),vs[j]? = some v->∃ n t,ns[j]? = some n/\v=.int n t)->IntsAre vs ns
 | [],[],_,_=>.nil
 | [],_::_,h,_=>by simp at h
 | _::_,[],h,_=>by simp at h
 | v :: vs, n :: ns, hl, h => by
   obtain⟨n',t,e1,e2⟩:=h 0 v rfl;simp only[List.getElem?_cons_zero,Option.some.injEq] at e1;subst e1 e2;exact .cons _ _ (vQ (by simpa using hl) λj u hu=>by
     obtain⟨n2,t2,e3,e4⟩:=h (j+1) u (by simpa using hu);exact⟨n2,t2,by simpa using e3,e4⟩)
def FQ:List V->Hp->VK->Prop:=λxs H Q=>∃ (a:Addr) (kvs:List (Key×V)) (ks:List Int),xs=[.ref a]/\Rd H a (.dK kvs)/\kvs.map (·.1)=ks.map Sum.inl/\ks.length<64 /\
 ∀ (ks':List Int) (p:Addr),ks'.Perm ks->ks'.Pairwise (· <= ·)->H p=none->Q (.ref p) (upd H p (.lst (ks'.map V.int)))
theorem A9 (hc:X.calm=true):cW X (.builtin "sorted") FQ:=by
 intro gV s Z H xs us Q I r h;obtain⟨a,kvs,ks,rfl,e,hk,h64,q⟩:=h;obtain⟨u,rfl,rx⟩:=vals1 r;cases rx
 have hh:X.A.handled=none:=I.ok.hd hc;obtain⟨z,hd,vs,TV,dd⟩:=kK I.aA e;obtain⟨ep,T3⟩:=dd.dictAt;have hlv:vs.length=ks.length:=by rw[<- TV.length,<- aac (f:=(·.1)) (as:=kvs),hk,aac]
 refine Calls.call_function_entry kind_sorted plain_sorted entry_sorted (args_sorted1 _) ?_;unfold Builtin.«sorted»;refine aad (m:=checkCount "sorted" 1 1 _) (aaj ?_);refine aad (W.kdu_collect (A:=X.A.in1) (W.kdl_dict (knd:=c4 X.prog X.w) (kvs:=vs) (ep:=ep) hd) hh T3 (by rw[hlv,aaI];omega) λh' tk TU hk' T6=>?_);have hl:TU.toList.length=ks.length:=by rw[ab5,<- hlv];exact T6.1
 have hI:IntsAre TU.toList ks:=vQ hl λj v hv=>by
   obtain⟨k,x,e1,e2⟩:=T6.2 j v (by rw[<- adh];exact hv);have e3:(kvs.map (·.1))[j]? = some k:=by
     have e4:∀ {kvs:List (Key×V)} {vs:List (Key×Value)},KV kvs vs->kvs.map (·.1)=vs.map (·.1):=λr=>by
       unfold KV at r
       induction r with
       | nil=>rfl
       | cons r1 r2 ih=>rw[aaQ,aaQ,r1.1,ih]
     rw[e4 TV,aah,e1];rfl
   rw[hk,aah] at e3;obtain⟨n,e5,e6⟩:=Option.map_eq_some_iff.mp e3;rcases cE e2 with ⟨i,t,e7,e8⟩ | ⟨x,t,e7,e8⟩
   . rw[e7] at e6;cases e6
     exact⟨_,t,e5,e8⟩
   . rw[e7] at e6;cases e6
 refine aad (wpAny_newList ?_ (by rw[hl,aaI];omega));have hoL:(h'.push (seqObj "list" TU.toList.toArray 0)).get? h'.objs.size=some (seqObj "list" TU.toList.toArray 0):=aat _ rfl;show wpAny _ _ _ _ _ { s with heap:=h'.push (seqObj "list" TU.toList.toArray 0),toks:=tk };refine aad (aa_ (acK slot_list_sort ⟨_,hoL,rfl⟩ entry_list_sort (list_sort_tree hoL hI (by omega) λout ns' a1 a2 a3=>⟨_,rfl,?_⟩) (args_list_sort _)));have I1:Inv X gV Z H { s with heap:=h',toks:=tk }:=I.un (Un.kept hk') (I.aA.kept hk');obtain⟨e9,he⟩:=sortedHeap_at (out:=out) hoL;have hn:H h'.objs.size=none:=I1.aA.fresh (aag _);refine aaj ⟨_,rfl,.ref h'.objs.size,_,I1.laid (o:=.lst (ns'.map V.int)) (λb o hb'=>?_) (aag _) ⟨?_,out.toList,e9,pF a1,?_⟩,rfl,q ns' _ a2 a3 hn⟩
 . have Tb := aam hb';rw[sortedHeap_old (aaw Tb) (by rw[size_push'];exact acu Tb)];exact aaf _ hb'
 . rw[aac,a2.length_eq,aaI];omega
 . exact he
theorem L4 {Q:VK}(h:H a=some (.dK kvs))(hk:kvs.map (·.1)=ks.map Sum.inl)(hl:ks.length<64)
   (q:∀ (ks':List Int) (p:Addr),ks'.Perm ks->ks'.Pairwise (· <= ·)->H p=none->Q (.ref p) (upd H p (.lst (ks'.map V.int)))):FQ [.ref a] H Q:=⟨a,kvs,ks,rfl,.inl h,hk,hl,q⟩
structure lF (K:W.Frag)(dv:Value)(x qual:Str)(st:Stmt)(f:Addr)(fd:aa3):Prop where
 ex:∃ (oc:Value) (od:Option Addr) (da:Addr) (kV Ta pm:Value) (an:Option Addr) (S6 ct:Value) (Tv:Array (Option Value)) (o:Obj) (n:Nat),
   fd=W.fnOf x qual (a9 st) (aU st) (ah st) (.ref da) kV Ta pm an S6 ct/\K.lookup f=some ⟨oc,od,.func fd,Tv⟩/\abR K S6 qual=true/\K.lookup da=some o/\o.data=.seq #[dv] n
 kp:abh K (.ref f)=true
theorem wH {K:W.Frag}{dv:Value}{da:Addr}{n:Nat}{oc dc:Value}{od an dd:Option Addr}{Tv dl:Array (Option Value)}{kV Ta pm S6 ct:Value}(l:K.lookup f=some ⟨oc,od,.func (W.fnOf x qual (a9 st) (aU st) (ah st) (.ref da) kV Ta pm an S6 ct),Tv⟩)
   (d:K.lookup da=some ⟨dc,dd,.seq #[dv] n,dl⟩) (c:abR K S6 qual=true) (k:abh K (.ref f)=true):lF K dv x qual st f (W.fnOf x qual (a9 st) (aU st) (ah st) (.ref da) kV Ta pm an S6 ct) :=
 ⟨⟨oc,od,da,kV,Ta,pm,an,S6,ct,Tv,_,n,rfl,l,c,d,rfl⟩,k⟩
section
variable {P:Program} {w:World} {K:W.Frag} {mg:Str->Option Value} {base:Heap} {dv:Value}
variable {N ps:List Str} {fd:aa3}
theorem lF.ok (F:lF K dv x qual st f fd)(S:aq N ps (ah st))(len:∀ vs H Q E,sp vs H Q E->vs.length=ps.length)
   (S_:BodyOk P w K mg base k qual st N sp):c7 P w K mg base cb (k+1) f fd ps sp:=by
 obtain⟨oc,od,da,kV,Ta,pm,an,S6,ct,Tv,o,n,rfl,lk,Ud,_,_⟩:=F.ex;refine qT lk Ud S len λA outer s H vs Q E hr UT=>?_;obtain⟨t,h,q⟩:=S_ f S6 A outer s H vs Q E hr UT;exact⟨t,h.eY,q⟩
theorem lF.binds {ps:List Str}(F:lF K dv x qual st f fd)
   (h:∀ (da:Addr) (kV Ta pm:Value) (an:Option Addr) (S6 ct:Value) (us:List Value),us.length=ps.length->∃ k:Option (Array Value)->Sem (List (Str×Value)),abW (W.fnOf x qual (a9 st) (aU st) (ah st) (.ref da) kV Ta pm an S6 ct) ⟨us,[]⟩=acr (.ref da) >>= k/\k (some #[dv])=pure (ps.zip us)):Binds K fd ps []:=by
 obtain⟨oc,od,da,kV,Ta,pm,an,S6,ct,Tv,o,n,rfl,lk,Ud,ld,ed⟩:=F.ex;intro s us KX hl;rw[aaL] at hl ⊢;obtain⟨k,h1,h2⟩:=h da kV Ta pm an S6 ct us hl;exact .of_defaults rfl (KX _ _ ld) ed h1 h2
theorem lF.vc {ps:List Str}(F:lF K dv x qual st f fd)
   (h:∀ (da:Addr) (kV Ta pm:Value) (an:Option Addr) (S6 ct:Value) (us:List Value),us.length+1=ps.length->∃ k:Option (Array Value)->Sem (List (Str×Value)),abW (W.fnOf x qual (a9 st) (aU st) (ah st) (.ref da) kV Ta pm an S6 ct) ⟨us,[]⟩=acr (.ref da) >>= k/\k (some #[dv])=pure (ps.zip (us++[dv]))):Binds K fd ps [dv]:=by
 obtain⟨oc,od,da,kV,Ta,pm,an,S6,ct,Tv,o,n,rfl,lk,Ud,ld,ed⟩:=F.ex;intro s us KX hl;obtain⟨k,h1,h2⟩:=h da kV Ta pm an S6 ct us (by rw[aab] at hl;exact hl);exact .of_defaults rfl (KX _ _ ld) ed h1 h2
end
structure JS (P:Program)(w:World)(K:W.Frag)(mg:Str->Option Value)(base:Heap)(CX:dM)(k:Nat)(x:Str)(C:Addr)(dV:V)(sp:Sp):Prop where
 ex:∃ (f:Addr) (fd:aa3) (ps:List Str) (dv:Value),Mk K C f/\c7 P w K mg base CX k f fd ps sp/\mg x=some (.ref C)/\Binds K fd ps [dv]/\RelV dV dv
def vd (C:Addr)(dV:V)(sp:Sp)(E:XK)(t:TA):TE:=λZ H Q=>t Z H λvs H1=>∀ x dx,H1 x=none->H1 dx=none->dx≠x ->
 sp (.ref x::(vs++[dV])) (upd (upd H1 dx (.own x)) x (.ins C dx [])) (λv H2=>v=.aC/\Q (.ref x) H2) E
section
variable {X:Cx} {CX:dM} {k:Nat} {C:Addr} {dV:V} {sp:Sp} {E:XK} {x m:Str} {p pos Tc:Pos} {e o:Expr} {es:List Expr} {ta:TE} {t:TA}
theorem JC (G : JS X.prog X.w X.K X.mg X.base CX k x C dV sp)(hr : bH (k + 1) X.A)(hx : dH CX X E)(hg : Gl X x)(ha : PA X (e :: es) t)(Tw : (x == ("__debug__" : Str)) = false := by decide)
   (he:aai (e::es) X.env=(false,eval e X.env)::aai es X.env:=by rfl) (S9:(backTo pos (aai es X.env)).any (·.1)=false:=by rfl):PE X (.Call (.Name x p) (e::es) [] pos) (vd C dV sp E t):=by
 obtain⟨f,fd,ps,dv,M,F,hm,hb,rv⟩:=G.ex;exact Dh (p:=p) (pos:=pos) M F hr hg hm hb (.cons rv .nil) hx ha Tw he S9
theorem LM (q:t Z H λvs H1=>∀ x dx,H1 x=none->H1 dx=none->dx≠x->sp (.ref x::(vs++[dV])) (upd (upd H1 dx (.own x)) x (.ins C dx [])) (λv H2=>v=.aC/\Q (.ref x) H2) E):vd C dV sp E t Z H Q:=q
end
section
variable {P:Program} {w:World} {K:W.Frag} {mg:Str->Option Value} {base:Heap} {x qual:Str} {st:Stmt} {N ps:List Str} {sp:Sp} {C:Addr}
theorem Lc {y:Str}{dV:V}(k:Nat)(hy:mg y=some (.ref C))(h:∃ f fd dv,lF K dv "__init__" qual st f fd/\Mk K C f/\Binds K fd ps []/\Binds K fd ps [dv]/\RelV dV dv)(S:aq N ps (ah st))(len:∀ vs H Q E,sp vs H Q E->vs.length=ps.length)
   (S_:BodyOk P w K mg base k qual st N sp):CW P w K mg base cb (k+1) y C sp/\JS P w K mg base cb (k+1) y C dV sp:=by
 obtain⟨f,fd,dv,F,hm,hb,UE,rv⟩:=h;exact⟨⟨f,fd,ps,hm,F.ok S len S_,hy,hb⟩,⟨f,fd,ps,dv,hm,F.ok S len S_,hy,UE,rv⟩⟩
end
end L3
namespace FB
open PySem PySem.Spec PyProof.Rows L2 L3 PySem.SeqAt
inductive Rw where
 | set (b n:Int) | copy (b o:Int) | add (b o t:Int) | sub (b o t:Int) | mul (b o t:Int) | less (b o t:Int)
 | grow (m:Int) | shrink (m:Int) | put (b c:Int) | get (b c:Int)
 | dr (t:Int) | branch (b t:Int) | call (t:Int) | back (b:Int) | drop (b:Int)
def aH (b:Int):Prop:=0<=b/\b<=7
def isVal (n:Int):Prop:=0<=n/\n<=4294967295
def aF (n:Int):Prop:=0<=n/\n<=4000
def aM (n:Int):Prop:=0<=n/\n<=2000
def Rw.ok:Rw->Prop
 | .set b n=>aH b/\isVal n
 | .copy b o=>aH b/\aH o
 | .add b o t | .sub b o t | .mul b o t | .less b o t=>aH b/\aH o/\aH t
 | .grow m | .shrink m=>aF m
 | .put b c | .get b c=>aH b/\aF c
 | .dr t | .call t=>aM t
 | .branch b t=>aH b/\aM t
 | .back b | .drop b=>aH b
def gI (xs:List Int)(i:Int):Int:=xs.getD i.toNat 0
def sI (xs:List Int)(i v:Int):List Int:=xs.set i.toNat v
theorem dw (xs:List Int)(i v:Int):(sI xs i v).length=xs.length:=by unfold sI;exact aaZ ..
variable {i:Int} {xs:List Int}
theorem PL (h0 : 0<=i)(h1:i<xs.length):cZ (xs.map V.int) i=some (.int (gI xs i)):=by
 have e:i=((i.toNat:Nat):Int):=by omega
 have hl:i.toNat<xs.length:=by omega
 have z:cZ (xs.map V.int) ((i.toNat:Nat):Int)=some (.int (gI xs i)):=bF (by
   rw[aah,aaa hl];simp[gI,List.getD,aaa hl])
 rw[<- e] at z;exact z
theorem A1 {xs:List V}(h0 : 0<=i)(h1:i<xs.length):og xs.length i=some i.toNat:=by
 unfold og;rw[if_pos h0,if_pos h1]
theorem NM (xs:List Int)(i v:Int):(xs.map V.int).set i.toNat (.int v)=(sI xs i v).map V.int:=by
 unfold sI;rw[List.map_set]
variable {H:Hp} {p:Addr}
theorem Oa {k v:Int}{Q:Hp->Prop}(h:H p=some (.lst (xs.map V.int)))(h0 : 0<=k)(h1:k<xs.length)(q:Q (upd H p (.lst ((sI xs k v).map V.int)))):EC (.ref p) (.int k) (.int v) H Q :=
 lT h (A1 h0 (by rw[aac];exact h1)) (by rw[NM];exact q)
variable {Q:VK}
theorem Mr {K:W.Frag}(h:ar K H p (xs.map V.int))(q:Q (.int xs.length) H):iW K [.ref p] H Q:=dU h (by rw[aac];exact q)
theorem IA (h:H l=some (.lst [.int n]))(h0 : 0<=k)(h1:k<=4001)(q:∀ p,H p=none->Q (.ref p) (upd H p (.lst ((aau k.toNat n).map V.int)))):zo (.ref l) (.int k) H Q:=by
 refine .inr ⟨l,k,_,rfl,rfl,h,by omega,by omega,?_,λp hp=>?_⟩
 . show 1 * k.toNat <= aal;rw[aaI];omega
 . have e : (aau k.toNat [V.int n]).flatten = (aau k.toNat n).map V.int := by
     generalize k.toNat=j
     induction j with
     | zero=>rfl
     | succ j ih=>rw[abu,acn,ih,abu];rfl
   rw[e];exact q p hp
theorem IL {K:W.Frag}{a b:Addr}{ys:List Int}(ha:H a=some (.lst (xs.map V.int)))(hb:H b=some (.lst (ys.map V.int)))(hz:xs.length+ys.length<=aal)(q:∀ p,H p=none->Q (.ref p) (upd H p (.lst ((xs++ys).map V.int)))) :
   eK K (.ref a) (.ref b) H Q:=qu ha hb (by rw[aac,aac];exact hz) (by rw[<- aaE];exact q)
def cV (xs:List Int)(lo hi:Option Int):List Int:=(xs.drop (HT.bg xs.length 0 lo)).take (HT.bg xs.length xs.length hi - HT.bg xs.length 0 lo)
theorem IH (xs:List Int)(lo hi:Option Int):fR (xs.map V.int) lo hi=(cV xs lo hi).map V.int:=by
 unfold fR cV;rw[aac,List.map_take,List.map_drop]
theorem Bw (xs:List Int)(lo hi:Option Int):(cV xs lo hi).length<=xs.length:=by
 unfold cV;rw[aaA,abz];omega
theorem fT (xs:List Int)(h0 : 0<=k):cV xs none (some k)=xs.take k.toNat:=by
 unfold cV;have e:HT.bg xs.length 0 none=0:=rfl;have e2:HT.bg xs.length xs.length (some k)=min k.toNat xs.length:=by
   show(if k<0 then _ else _)=_;rw[if_neg (by omega)]
 rw[e,e2,List.drop_zero,Nat.sub_zero];rcases Nat.le_total k.toNat xs.length with h | h
 . rw[ads h]
 . rw[Nat.min_eq_right h,aa0,adg h]
theorem QC {K:W.Frag}{lo hi:Option Int}(h:ar K H p (xs.map V.int))(q:∀ l,H l=none->Q (.ref l) (upd H l (.lst ((cV xs lo hi).map V.int)))):jY K (.ref p) lo hi H Q :=
 J9 h (by rw[IH];exact q)
def Rw.run:Rw->Int->List Int->List Int->Option (Int×List Int×List Int)
 | .set b n,a,bs,pl=>some (a+1,sI bs b n,pl)
 | .copy b o,a,bs,pl=>some (a+1,sI bs b (gI bs o),pl)
 | .add b o t,a,bs,pl=>some (a+1,sI bs b ((gI bs o+gI bs t)%4294967296),pl)
 | .sub b o t,a,bs,pl=>some (a+1,sI bs b ((gI bs o - gI bs t)%4294967296),pl)
 | .mul b o t,a,bs,pl=>some (a+1,sI bs b ((gI bs o*gI bs t)%4294967296),pl)
 | .less b o t,a,bs,pl=>some (a+1,sI bs b (if gI bs o<gI bs t then 1 else 0),pl)
 | .grow m,a,bs,pl=>if (pl.length:Int)+m > 4000 then none else some (a+1,bs,pl++aau m.toNat 0)
 | .shrink m,a,bs,pl=>if (pl.length:Int)<m then none else some (a+1,bs,pl.take (pl.length - m.toNat))
 | .put b c,a,bs,pl=>if (pl.length:Int)<=c then none else some (a+1,bs,sI pl (pl.length - 1 - c) (gI bs b))
 | .get b c,a,bs,pl=>if (pl.length:Int)<=c then none else some (a+1,sI bs b (gI pl (pl.length - 1 - c)),pl)
 | .dr t,_,bs,pl=>some (t,bs,pl)
 | .branch b t,a,bs,pl=>some (if gI bs b=0 then a+1 else t,bs,pl)
 | .call t,a,bs,pl=>some (t,sI bs 7 (a+1),pl)
 | .back b,_,bs,pl=>some (gI bs b,bs,pl)
 | .drop _,_,_,_=>none
def Rw.dz:Rw->Int->List Int
 | .dr t,_=>[t]
 | .branch _ t,a=>[a+1,t]
 | .back _,_=>[]
 | .drop _,_=>[]
 | _,a=>[a+1]
theorem Jy (r:Rw)(n:Int):(r.dz n).length<=2:=by cases r <;> simp[Rw.dz]
def Rw.aE:Rw->Int->Option Int
 | .grow m,h=>if h+m > 4000 then none else some (h+m)
 | .shrink m,h=>if h<m then none else some (h - m)
 | .put _ c,h=>if h<=c then none else some h
 | .get _ c,h=>if h<=c then none else some h
 | _,h=>some h
def fz (s p src:Nat):Nat:=if s &&& src=0 then Bt.wo s p else s ||| p
def Rw.keep:Rw->Nat->Int->Nat
 | .set b _,s,_ | .add b _ _,s,_ | .sub b _ _,s,_ | .mul b _ _,s,_ | .less b _ _,s,_=>Bt.wo s (2 ^ b.toNat)
 | .copy b o,s,_=>fz s (2 ^ b.toNat) (2 ^ o.toNat)
 | .shrink m,s,h=>Bt.wo s ((2 ^ m.toNat - 1)*2 ^ (8+h - m).toNat)
 | .put b c,s,h=>fz s (2 ^ (8+h - 1 - c).toNat) (2 ^ b.toNat)
 | .get b c,s,h=>fz s (2 ^ b.toNat) (2 ^ (8+h - 1 - c).toNat)
 | .call _,s,_=>Bt.wo s 143
 | _,s,_=>s
def Rw.eU:Rw->Str×List Int
 | .set b n=>("set",[b,n])
 | .copy b o=>("copy",[b,o])
 | .add b o t=>("add",[b,o,t])
 | .sub b o t=>("sub",[b,o,t])
 | .mul b o t=>("mul",[b,o,t])
 | .less b o t=>("less",[b,o,t])
 | .grow m=>("grow",[m])
 | .shrink m=>("shrink",[m])
 | .put b c=>("put",[b,c])
 | .get b c=>("get",[b,c])
 | .dr t=>("jump",[t])
 | .branch b t=>("branch",[b,t])
 | .call t=>("call",[t])
 | .back b=>("back",[b])
 | .drop b=>("drop",[b])
def Rw.mW:Rw->List (Str×V)
 | .set b n=>au "number" (.int n) (au "box" (.int b) [])
 | .copy b o=>au "one" (.int o) (au "box" (.int b) [])
 | .add b o t | .sub b o t | .mul b o t | .less b o t=>au "other" (.int t) (au "one" (.int o) (au "box" (.int b) []))
 | .grow m | .shrink m=>au "many" (.int m) []
 | .put b c | .get b c=>au "cell" (.int c) (au "box" (.int b) [])
 | .dr t | .call t=>au "target" (.int t) []
 | .branch b t=>au "target" (.int t) (au "box" (.int b) [])
 | .back b | .drop b=>au "box" (.int b) []
structure bG where
 S4:Addr
 cN:Addr
 bX:Addr
 cI:Addr
 Ql:Addr
 Qn:Addr
 OU:Addr
 cm:Addr
 bB:Addr
 cO:Addr
 cM:Addr
 cp:Addr
 bt:Addr
 aY:Addr
 a_:Addr
 bc:Addr
 Pt:Addr
 P9:Addr
 pS:Addr
 La:Addr
 fe:Addr
 Rg:Addr
 b3:Addr
 Q3:Addr
 ax:Addr
 dE:Addr
 Pw:Addr
 Q8:Addr
 RO:Addr
 jk:Addr
 R6:Addr
 RM:Addr
 gQ:Addr
 iA:Addr
 R4:Addr
 Pu:Addr
def Rw.cls (a:bG):Rw->Addr
 | .set ..=>a.cN
 | .copy ..=>a.bX
 | .add ..=>a.cI
 | .sub ..=>a.Ql
 | .mul ..=>a.Qn
 | .less ..=>a.OU
 | .grow ..=>a.cm
 | .shrink ..=>a.bB
 | .put ..=>a.cO
 | .get ..=>a.cM
 | .dr ..=>a.cp
 | .branch ..=>a.bt
 | .call ..=>a.aY
 | .back ..=>a.a_
 | .drop ..=>a.bc
def bC (a:bG)(H:Hp)(p:Addr)(r:Rw):Prop:=∃ dx,H p=some (.ins (r.cls a) dx r.mW)
theorem bC.same (h:bC a H p r)(s:ao H H'):bC a H' p r:=let ⟨dx,e⟩:=h;⟨dx,s _ _ e⟩
def xZ:Sp:=λvs H Q _=>∃ n top:Int,vs=[.int n,.int top]/\0<=n/\n<=top/\Q (.int n) H
def xq (K:W.Frag):Sp:=λvs H Q _=>∃ (p:Addr) (xs:List Int) (b v:Int),vs=[.ref p,.int b,.int v]/\ar K H p (xs.map V.int)/\0<=b/\b<xs.length /\
 ∀ q,H q=none->Q (.ref q) (upd H q (.lst ((sI xs b v).map V.int)))
def vH (H:Hp)(x dx C:Addr)(fs:List (Str×V))(Q:VK):Prop:=H x=some (.ins C dx [])/\∀ H',(∀ b o,H b=some o->b≠x->H' b=some o)->H' x=some (.ins C dx fs)->Q .aC H'
def lR (C:Addr)(mk:Int->Rw):Sp:=λvs H Q _=>∃ (x dx:Addr) (i:Int),vs=[.ref x,.int i]/\(mk i).ok/\vH H x dx C (mk i).mW Q
def mh (C:Addr)(mk:Int->Int->Rw):Sp:=λvs H Q _=>∃ (x dx:Addr) (i j:Int),vs=[.ref x,.int i,.int j]/\(mk i j).ok/\vH H x dx C (mk i j).mW Q
def Gk (C:Addr)(mk:Int->Int->Int->Rw):Sp:=λvs H Q _=>∃ (x dx:Addr) (i j k:Int),vs=[.ref x,.int i,.int j,.int k]/\(mk i j k).ok/\vH H x dx C (mk i j k).mW Q
variable {x:Addr}
theorem Dc (hc:r.cls a=C)(q:∀ p H',ao H H'->H p=none->bC a H' p r->Q (.ref p) H')(hx:H x=none)(U2:H dx=none) :
   vH (upd (upd H dx (.own x)) x (.ins C dx [])) x dx C r.mW (λv H2=>v=.aC/\Q (.ref x) H2):=by
 refine⟨aa,λH' kp hH'=>⟨rfl,q x H' (λb o e=>?_) hx ⟨dx,by rw[hc];exact hH'⟩⟩⟩;exact kp b o (by rw[ak (ag e hx),ak (ag e U2)];exact e) (ag e hx)
theorem Bi (hk:(mk i j).ok)(hc:(mk i j).cls a=C)(q:∀ p H',ao H H'->H p=none->bC a H' p (mk i j)->Q (.ref p) H') :
   ∀ x dx,H x=none->H dx=none->dx≠x->mh C mk (.ref x::[.int i,.int j]) (upd (upd H dx (.own x)) x (.ins C dx [])) (λv H2=>v=.aC/\Q (.ref x) H2) E:=λx dx hx U2 _=>⟨x,dx,i,j,rfl,hk,Dc hc q hx U2⟩
theorem Mp (hk:(mk i j k).ok)(hc:(mk i j k).cls a=C)(q:∀ p H',ao H H'->H p=none->bC a H' p (mk i j k)->Q (.ref p) H') :
   ∀ x dx,H x=none->H dx=none->dx≠x->Gk C mk (.ref x::[.int i,.int j,.int k]) (upd (upd H dx (.own x)) x (.ins C dx [])) (λv H2=>v=.aC/\Q (.ref x) H2) E:=λx dx hx U2 _=>⟨x,dx,i,j,k,rfl,hk,Dc hc q hx U2⟩
theorem oM:∀ b o,H b=some o->b≠x->upd (upd H x o1) x o2 b=some o:=λb o e ne=>by rw[ak ne,ak ne];exact e
theorem lP:∀ b o,H b=some o->b≠x->upd H x o1 b=some o:=λb o e ne=>by rw[ak ne];exact e
theorem Im:∀ b o,H b=some o->b≠x->upd (upd (upd H x o1) x o2) x o3 b=some o:=λb o e ne=>by rw[ak ne,ak ne,ak ne];exact e
def g_ (H:Hp)(Q:VK):Option (Int×List Int×List Int)->Prop
 | none=>∀ H',ao H H'->Q .aC H'
 | some (n,bs,pl)=>∀ (t b p:Addr) (H':Hp),ao H H'->H t=none->H b=none->H p=none->t≠b->t≠p->b≠p->H' t=some (.tup [.int n,.ref b,.ref p])->H' b=some (.lst (bs.map V.int))->H' p=some (.lst (pl.map V.int))->Q (.ref t) H'
def d_ (K:W.Frag)(a:bG)(r:Rw):Sp:=λvs H Q _=>∃ (x b p:Addr) (n:Int) (bs pl:List Int),vs=[.ref x,.int n,.ref b,.ref p]/\bC a H x r/\r.ok/\ar K H b (bs.map V.int)/\bs.length=8/\(∀ v∈bs,isVal v) /\
 ar K H p (pl.map V.int)/\pl.length<=4000/\g_ H Q (r.run n bs pl)
def ee (a:bG)(r:Rw):Sp:=λvs H Q _=>∃ (x:Addr) (n:Int),vs=[.ref x,.int n]/\bC a H x r/\∀ p,H p=none->Q (.ref p) (upd H p (.lst ((r.dz n).map V.int)))
def bM:Option Int->V
 | none=>.aC
 | some i=>.int i
def c_ (a:bG)(r:Rw):Sp:=λvs H Q _=>∃ (x:Addr) (h:Int),vs=[.ref x,.int h]/\bC a H x r/\Q (bM (r.aE h)) H
def dD (a:bG)(r:Rw):Sp:=λvs H Q _=>∃ (x:Addr) (s:Nat) (h:Int),vs=[.ref x,.int (s:Int),.int h]/\bC a H x r/\r.ok/\0<=h/\h<=4000/\(r.aE h).isSome=true/\Q (.int (r.keep s h:Nat)) H
def CS:Sp:=λvs H Q _=>∃ b:Int,vs=[.int b]/\0<=b/\b<=7/\Q (.int ((2 ^ b.toNat:Nat):Int)) H
def Ap:Sp:=λvs H Q _=>∃ c h:Int,vs=[.int c,.int h]/\0<=c/\c<h/\h<=4000/\Q (.int ((2 ^ (8+h - 1 - c).toNat:Nat):Int)) H
def yg:Sp:=λvs H Q _=>∃ s p:Nat,vs=[.int (s:Int),.int (p:Int)]/\Q (.int (Bt.wo s p:Nat)) H
def zU:Sp:=λvs H Q _=>∃ s p t:Nat,vs=[.int (s:Int),.int (p:Int),.int (t:Int)]/\Q (.int (fz s p t:Nat)) H
variable {E:XK}
theorem LP (h0 : 0<=b)(h1:b<=7)(q:Q (.int ((2 ^ b.toNat:Nat):Int)) H):CS [.int b] H Q E:=⟨b,rfl,h0,h1,q⟩
theorem IM (h0 : 0<=c)(h1:c<h)(h2:h<=4000)(q:Q (.int ((2 ^ (8+h - 1 - c).toNat:Nat):Int)) H):Ap [.int c,.int h] H Q E:=⟨c,h,rfl,h0,h1,h2,q⟩
theorem yb {s p:Nat}(q:Q (.int (Bt.wo s p:Nat)) H):yg [.int (s:Int),.int (p:Int)] H Q E:=⟨s,p,rfl,q⟩
theorem Jz {s p t:Nat}(q:Q (.int (fz s p t:Nat)) H):zU [.int (s:Int),.int (p:Int),.int (t:Int)] H Q E:=⟨s,p,t,rfl,q⟩
theorem Fi (h0 : 0<=n)(h1:n<=top)(q:Q (.int n) H):xZ [.int n,.int top] H Q E:=⟨n,top,rfl,h0,h1,q⟩
theorem GO {K:W.Frag}{b v:Int}{E:XK}(h:ar K H p (xs.map V.int))(h0 : 0<=b)(h1:b<xs.length)(q:∀ q,H q=none->Q (.ref q) (upd H q (.lst ((sI xs b v).map V.int)))) :
   xq K [.ref p,.int b,.int v] H Q E:=⟨p,xs,b,v,rfl,h,h0,h1,q⟩
theorem ff (hb:H b=none)(hp:upd H b (.lst (bs.map V.int)) p=none)(ht:upd (upd H b (.lst (bs.map V.int))) p (.lst (pl.map V.int)) t=none)(q:g_ H Q (some (n,bs,pl))) :
   Q (.ref t) (upd (upd (upd H b (.lst (bs.map V.int))) p (.lst (pl.map V.int))) t (.tup [.int n,.ref b,.ref p])):=by
 have h1:=bw hp;have h2:=bw ht;have h3:=bw h2.1;refine q t b p _ ((ae hb).trans ((ae hp).trans (ae ht))) h3.1 hb h1.1 h3.2 h2.2 h1.2.symm aa ?_ ?_
 . rw[ak h3.2.symm,ak h1.2.symm,aa]
 . rw[ak h2.2.symm,aa]
def cellAt (ns:List Int)(k:Int):Int:=ns.getD k.toNat 0
def hV (K:W.Frag):Sp:=λvs H Q _=>∃ (p:Addr) (ns:List Int) (k:Int),vs=[.ref p,.int k]/\ar K H p (ns.map V.int)/\0<=k/\Q (.int (cellAt ns k)) H
theorem JD {K:W.Frag}{ns:List Int}{k:Int}(h:ar K H p (ns.map V.int))(h0 : 0<=k)(q:Q (.int (cellAt ns k)) H):hV K [.ref p,.int k] H Q E:=⟨p,ns,k,rfl,h,h0,q⟩
theorem EU (h0 : 0<=k)(h : ¬ k<ns.length):cellAt ns k=0:=by
 unfold cellAt;rw[aar,abS (by omega)];rfl
def qG (K:W.Frag):Sp:=λvs H Q _=>∃ (a:Addr) (ns:List Int),vs=[.ref a]/\ar K H a (ns.map V.int)/\ns.length<=63/\∀ H',Q (.bl true) H'
variable {f:Str}
theorem aJ (h:f≠g)(e:fs.lookup f=some w):(au g v fs).lookup f=some w:=by rw[fM,if_neg h];exact e
theorem cz:(au f v fs).lookup f=some v:=by rw[fM,if_pos rfl]
theorem il (h:f≠g)(e:fs.lookup f=none):(au g v fs).lookup f=none:=by rw[fM,if_neg h];exact e
theorem fK (e:fs.length<=n):(au f v fs).length<=n+1:=aaK (lB _ _ _) (ade e)
end FB
namespace L3
open PySem PySem.Spec PyProof.Rows L2 PySem.SeqAt
section
variable {prog:Program} {w:World} {A:Around} {E:Value->Shared->Prop} {h:Heap} {g:Array GenState} {d:Drawn} {t:Nat} {os:OsState}
variable {nm q:Str} {C N:Addr} {bs bm W9:List Value} {hdct:Bool} {sn:List Str} {sub:List Value} {ab:Bool} {col:Option Bool} {dd:Option Addr} {k0 k1 k2 k3 k5:Option Value} {B Bn newId nid UQ inN:String} {bmN:List Value}
theorem ym (Fn:ac4 Bn newId inN bmN)(hBn:W9.contains (.type Bn)=true)(F:ac4 B nid UQ W9)(T:OwnTail h W9 bm) 
   (hC:h.get? C=some (acY nm q C N bs bm hdct sn sub ab col dd k0 k1 k2 k3 k5 newId)) (hn:h.Ns N mN) (hi:mN "__init__" = some (.ref fI)) (hfI:h.get? fI=some oI) (hfc:oI.cls=.type "function")
   (hq:∀ h' e,acS h h' e (.ref C) rest->h.objs.size<=e->wpAny (model prog w) A (call (.ref fI) (.ref e::rest)) (λr s'=>r=.none/\Q (.done (.ret (.ref e))) s') E ⟨h',g,d,t,os⟩) (UH:rest.length<=aal) :
   wpAny (model prog w) A (Builtin.«type.__call__» ⟨.ref C::rest,[]⟩) Q E ⟨h,g,d,t,os⟩:=by
 repeat (first | with_reducible refine acC hC ?_ | with_reducible refine wpAny_madeBy_exc hC ?_ | wp_step)
 refine codeAny_call_builtin_code (adQ _ Fn.quiet) (wpAny_check_new_subU Fn hBn T hC (codeAny_exc_new_subU Fn hBn F T hC ?_ UH));show wpAny _ _ _ _ _ _;have up:∀ b o,h.get? b=some o->((h.push { cls:=.type "tuple",data:=.seq rest.toArray }).push { cls:=.ref C,data:=.fields #[.ref h.objs.size,.none,.none,.none,.bool false,.none] }).get? b=some o :=
   λb o e=>aaf _ (aaf _ e)
 have hget : ((h.push { cls := .type "tuple", data := .seq rest.toArray }).push { cls := .ref C, data := .fields #[.ref h.objs.size, .none, .none, .none, .bool false, .none] }).get? (h.objs.size + 1) = some
     { cls:=.ref C,data:=.fields #[.ref h.objs.size,.none,.none,.none,.bool false,.none] }:=by heap_get
 have htup:((h.push { cls:=.type "tuple",data:=.seq rest.toArray }).push { cls:=.ref C,data:=.fields #[.ref h.objs.size,.none,.none,.none,.bool false,.none] }).get? h.objs.size=some { cls:=.type "tuple",data:=.seq rest.toArray } :=
   aaf _ (Heap.get?_push_at rfl rfl)
 have hC':=up _ _ hC;have hf':=up _ _ hfI;have hn':=hn.keeps up;have T':=T.keeps up;have hm:acS h ((h.push { cls:=.type "tuple",data:=.seq rest.toArray }).push { cls:=.ref C,data:=.fields #[.ref h.objs.size,.none,.none,.none,.bool false,.none] }) (h.objs.size+1) (.ref C) rest :=
   ⟨up,adv (abm _),h.objs.size,hget,adv (aag _),htup⟩
 have go:=hq _ _ hm (abm _);generalize ((h.push { cls:=.type "tuple",data:=.seq rest.toArray }).push { cls:=.ref C,data:=.fields #[.ref h.objs.size,.none,.none,.none,.bool false,.none] })=h1 at *;generalize h.objs.size+1=e at *;have hcC:(Tg C::bm).contains (.ref C)=true:=by simp
 unfold isInstance;repeat (first | with_reducible refine acC hget ?_ | (with_reducible refine wpAny_isSubtype_exc hC' ?_;rw[hcC]) | wp_step)
 show wpAny _ _ (adM (.ref C) _) _ _ _;refine wpAny_typeLookup_tail hC' hn' T' F.mroIs F.init.lookup ?_;rw[hi];refine aa_ (aad ?_);unfold bindSpecial;refine aad (wpAny_typeOf (T:="function") ⟨_,hf',hfc⟩ ?_);rw[if_pos (by decide)];refine aaj (aad (aaH go (λr s' hr=>?_) λ_ _ x=>x));obtain⟨rfl,hQ⟩:=hr
 wp_walk
 exact hQ
theorem yN (Fn:ac4 Bn newId inN bmN)(hBn:W9.contains (.type Bn)=true)(F:ac4 B nid UQ W9)(T:OwnTail h W9 bm) 
   (hC:h.get? C=some (acY nm q C N bs bm hdct sn sub ab col dd k0 k1 k2 k3 k5 newId)) (hn:h.Ns N mN) (hi:mN "__init__" = some (.ref fI)) (hfI:h.get? fI=some oI) (hfc:oI.cls=.type "function")
   (hq:∀ h' e,acS h h' e (.ref C) rest->h.objs.size<=e->wpAny (model prog w) (A.under (.builtin "type.__call__" ⟨.ref C::rest,[]⟩)) (call (.ref fI) (.ref e::rest)) (λr s'=>r=.none/\Q (.ref e) s') E ⟨h',g,d,t,os⟩) (UH:rest.length<=aal) :
   wpAny (model prog w) A (call (.ref C) rest) Q E ⟨h,g,d,t,os⟩:=by
 have f1:=tc_lookup;have f2:=tc_bind (.ref C);have hT:(⟨h,g,d,t,os⟩:Shared).TypeIs (.ref C) "type":=⟨_,hC,rfl⟩
 refine acP (codeAny_of_tree ?_);show wpAny _ _ (callAny (.ref C) _) _ _ _;repeat (any_goals (first | assumption | with_reducible refine acC hC ?_ | wp_step))
 exact⟨rfl,codeAny_call_builtin_at (adQ _ (by nofun)) entry_typeCall (wpAny_check_type_call_sub hC (ym Fn hBn F T hC hn hi hfI hfc (λh' e hm hz=>hq h' e hm hz) UH))⟩
end
def XB (e C:Addr)(od:Option Addr):HO:=.ext λh=>∃ t,h.get? e=some { cls:=.ref C,dict:=od,data:=.fields #[.ref t,.none,.none,.none,.bool false,.none] }
variable {od:Option Addr} {e C:Addr} {h:Heap} {H:Hp}
theorem Ea (q:h.get? e=some { cls:=.ref C,dict:=od,data:=.fields #[.ref t,.none,.none,.none,.bool false,.none] }):b8 P w H h e (XB e C od) :=
 ⟨⟨t,q⟩,⟨_,q⟩,λ_ _ ⟨t,z⟩ k=>⟨t,k _ z⟩⟩
theorem yU (x:dh P w H h)(q:H e=some (XB e C od)):∃ t,h.get? e=some { cls:=.ref C,dict:=od,data:=.fields #[.ref t,.none,.none,.none,.bool false,.none] }:=(x e _ q).1
theorem N1 (h:H a=some o):upd H a o=H:=by
 funext b;unfold upd;split
 . rename_i z;rw[z,h]
 . rfl
variable {mN:Str->Option Value}
theorem Dr {K:W.Frag}{N:Addr}{n:Str}{v:Value}(X:K.In h)(G:h.Ns N mN)(e:W.nsIn K N n=some (some v)):mN n=some v:=by
 obtain⟨o,es,ep,ho,hd,_,hf⟩:=G;unfold W.nsIn at e;split at e
 . rename_i q
   have:=X _ _ q
   rw[ho] at this;cases this
   cases hd
   split at e
   . rename_i y he;rw[<- hf];unfold nsFind findBy;rw[<- Array.find?_toList,he];exact aax e
   . split at e <;> cases e
 . cases e
def qI (K:W.Frag)(C f:Addr):Bool:=match K.lookup C with
 | some ⟨.type "type", _, .cls cd, sl⟩ => (match cd.mro, sl.toList with
   | .ref C'::bm,[_,_,_,_,some (.builtin n),_]=>C' == C && n == "ValueError.__new__" && !cd.hasDel && W.tailIn K [.type "ValueError",.type "Exception",.type "BaseException",.type "object"] bm && W.nsOkIn K cd.ns && W.nsIn K cd.ns "__init__" == some (some (.ref f)) && W.typeIn K (.ref f) == some (.type "function")
   | _,_=>false)
 | _=>false
structure k7 (K:W.Frag)(mg:Str->Option Value)(x:Str)(C f:Addr):Prop where
 glob:mg x=some (.ref C)
 ex:qI K C f=true
variable {f:Addr} {x:Str}
theorem k7.obj {K:W.Frag}{mg:Str->Option Value}(c:k7 K mg x C f)(X:K.In h) :
   ∃ (bm:List Value) (N:Addr) (nm qn:Str) (bs:List Value) (hd:Bool) (sn:List Str) (sub:List Value) (ab:Bool) (col:Option Bool) (dd:Option Addr) (k0 k1 k2 k3 k5:Option Value) (mN:Str->Option Value) (o:Obj),
     h.get? C=some (acY nm qn C N bs bm hd sn sub ab col dd k0 k1 k2 k3 k5 "ValueError.__new__")/\h.Ns N mN/\mN "__init__" = some (.ref f) /\
     OwnTail h [.type "ValueError",.type "Exception",.type "BaseException",.type "object"] bm/\h.get? f=some o/\o.cls=.type "function":=by
 have hq:=c.ex;unfold qI at hq;split at hq
 . rename_i dd cd sl WR;split at hq
   . rename_i C' bm k0 k1 k2 k3 id k5 VR Wb;simp only[aaM,ac1,beq_iff_eq] at hq;obtain⟨⟨⟨⟨⟨⟨e1,e2⟩,e3⟩,e4⟩,e5⟩,e6⟩,e7⟩:=hq;subst e1 e2;obtain⟨nm,bs,mro,ns,qn,hd,sn,sub,ab,col,del⟩:=cd;dsimp only at VR e3 e5 e6;subst VR e3;obtain⟨sl⟩:=sl;dsimp only at Wb;subst Wb;obtain⟨o,ho,hoc⟩:=Option.map_eq_some_iff.mp e7;have G:h.Ns ns (h.nsMap ns):=.of_isNs (W.isNs_of_in X e5);exact⟨bm,ns,nm,qn,bs,hd,sn,sub,ab,col,dd,k0,k1,k2,k3,k5,_,o,X _ _ WR,G,Dr X G e6,W.tail_of_in X e4,X _ _ ho,hoc⟩
   . cases hq
 . cases hq
structure Ke (K:W.Frag)(mg:Str->Option Value)(x:Str)(B:Addr):Prop where
 glob:mg x=some (.ref B)
 sp:W.specialIn K (.ref B) "__getattribute__" = some (some (.builtin "type.__getattribute__"))
 rd:W.readsIn K B (.type "type")=true
 fc:(match W.findCls K (.ref B) (.type "type") "__init__" with | some (.val v)=>v == .builtin "ValueError.__init__" | _=>false)=true
def JQ (C:Addr)(t:TA):TE:=λZ H Q=>t Z H λvs H1=>∃ e u,vs=[.ref e,u]/\H1 e=some (XB e C none)/\Q .aC H1
variable {X:Cx}
theorem Cs {y : Str}{B : Addr}{np Tc S8 : Pos}{a0 : Expr}{as : List Expr}{t : TA}{pl : Sem Bool}(b : Ke X.K X.mg x B)(c : k7 X.K X.mg y C f)(hg : Gl X x)(ha : PA X (a0 :: as) t)(Tw : (x == ("__debug__" : Str)) = false := by decide)
   (hs:aai (a0::as) X.env=(false,eval a0 X.env)::aai as X.env:=by rfl) (Tp:(backTo S8 (aai as X.env)).any (·.1)=false:=by rfl)
   (ht : eval (.Call (.Attribute (.Name x np) "__init__" Tc) (a0 :: as) [] S8) X.env = (do
     let ov <- eval (.Name x np) X.env
     standAt Tc.atName
     let (f,first) <- holding [ov] (acW ov "__init__" pl)
     ac2 S8 f first (backTo S8 (aai (a0::as) X.env)) (ac3 S8 (abZ [] X.env))):=by rfl) :
   PE X (.Call (.Attribute (.Name x np) "__init__" Tc) (a0::as) [] S8) (JQ C t):=by
 intro gV s Z H Q I h;refine W.methodCall_KW (pl:=pl) (eS I hg b.glob ?_ Tw) ht;have fc:=b.fc;split at fc
 . rename_i v hv;have ev:v=.builtin "ValueError.__init__":=beq_iff_eq.mp fc;subst ev;refine W.method_cls I.df b.sp (W.cls_value I.df b.rd hv (by nofun) ?_);have hA:=ha S8 gV _ Z H _ (I.tok (s.toks+1)) h;rw [hs] at hA ⊢;refine adb (first:=[]) (by show (false || (backTo S8 (aai as X.env)).any (·.1))=false;rw [Tp] <;> rfl) (acB ?_);refine aR hA λus s2 zq=>?_;obtain ⟨vs,H2,I2,r2,e,u,ev,he,q⟩:=zq;subst ev;obtain ⟨t,he'⟩:=yU I2.aA he;obtain ⟨bm,N',nm,qn,bs,hd,sn,sub,ab,col,dd,k0,k1,k2,k3,k5,mN,o,hC,hN,hni,TL,hf,hfc⟩:=c.obj I2.df;obtain ⟨v1,v2,rfl,rv1,rv2⟩:=vals2 r2;cases (show v1=Tg e from rv1)
   obtain⟨hp,g,d,tk,os⟩:=s2;refine acP (acO PySem.F.excBase_ValueError.init.plain PySem.F.excBase_ValueError.initEntry (wpAny_check_init_subU abv TL hC he' rfl ?_))
   wp_walk
   refine⟨.aC,H2,?_,rfl,q⟩;have ep:(hp.push { cls:=.type "tuple",data:=.seq #[v2] }).get? e=some { cls:=.ref C,dict:=none,data:=.fields #[.ref t,.none,.none,.none,.bool false,.none] }:=aaf _ he';have e0:((hp.push { cls:=.type "tuple",data:=.seq #[v2] }).update e (acf (·.setIfInBounds 0 (Tg hp.objs.size)))).get? e=some { cls:=.ref C,dict:=none,data:=.fields #[.ref hp.objs.size,.none,.none,.none,.bool false,.none] } :=
     aa9 _ ep rfl
   have I3 := I2.write (t' := tk) (x := e) (e := e) (o := XB e C none) (h' := (hp.push { cls := .type "tuple", data := .seq #[v2] }).update e (acf (·.setIfInBounds 0 (Tg hp.objs.size)))) (by rw [he]; exact aan) (.inl rfl)
     (λb u hb z=>(aaY _ _ (Ne.symm hb)).trans (aaf _ z)) ⟨_,e0⟩ (Ea (t:=hp.objs.size) e0)
   rw[N1 he] at I3;exact I3
 . cases fc
open PySem PySem.Spec PyProof.Rows L2 PySem.SeqAt PySem.W Builtin Builtin.ObjectAttr
abbrev wq:List Value:=[.type "ValueError",.type "Exception",.type "BaseException",.type "object"]
def qr:List Value->Bool
 | .ref _::r=>qr r
 | l=>l == wq
theorem um (self:Value):∀ {l:List Value},qr l=true->refuseLoop self "__setattr__" l=pure ()
 | [],e=>by cases e
 | v :: r, e => by
   cases v with
   | ref c=>rw[refuseLoop_ref];exact um self e
   | _=>rw[beq_iff_eq.mp (show((_::r) == wq)=true from e)];exact PySem.F.store_ValueError.passes self
theorem De:∀ {l:List Value},qr l=true->l.contains (.type "object")=true
 | [],e=>by cases e
 | v :: r, e => by
   cases v with
   | ref c=>rw[List.contains_cons,De (l:=r) e,Bool.or_true]
   | _=>rw[beq_iff_eq.mp (show((_::r) == wq)=true from e)];nofun
structure vU (K:W.Frag)(C:Addr)(name:Str):Prop where
 sa:abg K (.ref C) "__setattr__" = some (some (.builtin "object.__setattr__"))
 mro:((W.clsIn K C).any λcd=>qr cd.mro)=true
 no:abg K (.ref C) name=some none
 hd:((W.clsIn K C).any (·.hasDict))=true
section
variable {prog:Program} {w:World} {A:Around} {E:Value->Shared->Prop} {s:Shared} {K:W.Frag} {x C t:Addr} {name:Str} {v:Value}
theorem Lw (X:K.In s.heap)(I:W.InstAt s.heap x ox C none)(S:vU K C name)
   (h:∀ b,wpAny (model prog w) A.in1 (storeInOwnDict (.ref x) (.ref C) (.str name tk) name v b) (λTd s'=>match Td with | .done f=>R (.ok f) s' | .again c'=>c'.quiet=true/\codeAny (model prog w) A c' R s') (λe s'=>R (.error e) s') s) :
   codeAny (model prog w) A (.call (.builtin "object.__setattr__") ⟨[.ref x,.str name tk,v],[]⟩) R s:=by
 have SF:=PySem.F.store_object;obtain⟨cd,hc,ho⟩:=W.any_some S.mro;have ne:cd.mro.isEmpty=false:=by cases q:cd.mro with | nil=>rw[q] at ho;cases ho | cons _ _=>rfl
 have sub:W.Looks (model prog w) s.heap (isInstance (.ref x) (.type "object")) true:=I.type.andThen (W.looks_mroIn X (by unfold W.mroIn;rw[hc,Option.bind_some,if_neg (by rw[ne];decide),De ho]));refine acO SF.slot.plain SF.entry (@check_slot (model prog w) _ _ s "object.__setattr__" "object" "__setattr__" (.ref x) [.str name tk,v] [] _ SF.kind SF.split sub (SF.args (.ref x) (.str name tk) v) ?_);have hm:W.Looks (model prog w) s.heap (mroOf (.ref C)) cd.mro:=(W.looks_clsIn X hc).andThen .now;rw[W.osa_eq,refuse_eq];refine aad (aad (I.type.here (aad (hm.here ?_))));rw[um _ ho];refine aaj (aad (I.type.here (aad ((W.looks_findIn X S.no).here (aad (aaj ?_))))));exact h _
theorem L9 (X:K.In s.heap)(hx:s.heap.get? x=some { cls:=.ref C,dict:=none,data:=.fields #[.ref t,.none,.none,.none,.bool false,.none] })(S:vU K C name)
   (h:∀ h' tk,h'.Ns1 s.heap.objs.size (λy=>if y=name then some v else none)->h'.get? x=some { cls:=.ref C,dict:=some s.heap.objs.size,data:=.fields #[.ref t,.none,.none,.none,.bool false,.none] }->(∀ b o,b≠x->s.heap.get? b=some o->h'.get? b=some o)->Q () { s with heap:=h',toks:=tk }) :
   wpAny (model prog w) A (setAttr (.ref x) name v) Q E s:=by
 have J:W.InstAt s.heap x { cls:=.ref C,dict:=none,data:=.fields #[.ref t,.none,.none,.none,.bool false,.none] } C none:=⟨hx,rfl,rfl,aan⟩
 refine W.set_plain X J S.sa (Lw (s:={ s with toks:=s.toks+1 }) X J S λb=>?_);obtain⟨cd,hc,W4⟩:=W.any_some S.hd;obtain⟨hp,g,d,tk,os⟩:=s;have hx₁ : (hp.push { cls:=.type "dict",data:=.dict #[] }).get? x=some { cls:=.ref C,dict:=none,data:=.fields #[.ref t,.none,.none,.none,.bool false,.none] }:=aaf _ hx;have WO:x≠hp.objs.size:=aaw (aam hx);refine aad (aaj (aad (aad (wpAny_loadPart hx (aad (W.Looks.here (s:=⟨hp,g,d,tk+1,os⟩) (W.looks_clsIn X hc) ?_))))));rw[W4];refine aad (wpAny_alloc' ?_);refine aad (wpAny_update' hx₁ ?_);have hgd:((hp.push { cls:=.type "dict",data:=.dict #[] }).update x λo=>{ cls:=o.cls,dict:=some hp.objs.size,data:=o.data,slots:=o.slots }).get? hp.objs.size=some { cls:=.type "dict",data:=.dict #[] } :=
   (Heap.get?_update_ne _ _ _ _ WO.symm).trans (Heap.get?_push_at rfl rfl)
 have hge:((hp.push { cls:=.type "dict",data:=.dict #[] }).update x λo=>{ cls:=o.cls,dict:=some hp.objs.size,data:=o.data,slots:=o.slots }).get? x=some { cls:=.ref C,dict:=some hp.objs.size,data:=.fields #[.ref t,.none,.none,.none,.bool false,.none] } :=
   aa9 _ hx₁ rfl
 have UI:((hp.push { cls:=.type "dict",data:=.dict #[] }).update x λo=>{ cls:=o.cls,dict:=some hp.objs.size,data:=o.data,slots:=o.slots }).Ns hp.objs.size (λ_=>none) :=
   ⟨_,#[],_,hgd,rfl,λe he=>absurd he (by simp),λ_=>rfl⟩
 refine aaj ?_;show wpAny _ _ (storeInDict hp.objs.size (.str name tk) name v) _ _ _;unfold storeInDict newKeyGuard;refine aad (aaj (aad (wpAny_nsSet1 (Heap.Ns1.of_empty UI) λh' hn' hs=>?_)));obtain⟨oD,esD,epD,hoD,hdD,hcD⟩:=hn'.count (Within.cons name v Within.nil);refine aad (wpAny_lookBehind hoD (by rw[hdD];exact pastItsLine_dict (aaK hcD (by rw[aaG,acI,aaI];omega))) ?_);refine aaj ?_;exact h h' _ hn' ((hs.2 x WO).trans hge) λb o hb z=>(hs.2 b (aaw (aam z))).trans ((Heap.get?_update_ne _ _ _ _ hb).trans (aaf _ z))
end
section
variable {X:Cx} {gV:List (Addr×Obj)} {Z : L2.St} {H:Hp} {s:Shared} {a C:Addr} {f:Str} {A:Around} {E:Value->Shared->Prop}
theorem BY (I:Inv X gV Z H s)(e:H a=some (XB a C none))(S:vU X.K C f)(ry:RelV y u)
   (h:∀ d s',H d=none->Inv X gV Z (upd (upd H d (.xd [(f,y)])) a (XB a C (some d))) s'->Q () s'):wpAny (model X.prog X.w) A (setAttr (.ref a) f u) Q E s:=by
 obtain⟨t,hx⟩:=yU I.aA e;refine L9 I.df hx S λh' tk hn WQ hk=>h s.heap.objs.size _ (I.aA.fresh (aag _)) ?_;have fr:=I.aA.fresh (aag s.heap.objs.size);have na:a≠s.heap.objs.size:=aaw (aam hx);have nd:∀ b o,s.heap.get? b=some o->b≠s.heap.objs.size:=λb o z=>aaw (aam z);have WJ:∀ b,b≠a->b≠s.heap.objs.size->upd (upd H s.heap.objs.size (.xd [(f,y)])) a (XB a C (some s.heap.objs.size)) b=H b:=λb h1 h2=>by rw[ak h1,ak h2]
 have nm:∀ b,H b=none->b≠a:=λb z q=>by rw[q,e] at z;cases z
 have nt:∀ b o,H b=some o->(∀ φ,o≠.ext φ)->b≠a:=λb o z q r=>by rw[r,e] at z;exact q _ (aax z).symm
 refine I.un (t':=tk) ⟨λb o q n hb _=>hk b o (nm b n) q,λb o q n hb _=>⟨o.slots,hk b o (nm b n) q⟩,λb o q n _=>?_,λb o q _=>?_,λb xs q=>?_,λb o u q=>?_,λb ps q=>⟨#[],?_⟩⟩ λb o q=>?_
 . rw[WJ b (nm b n) (nd b o q)];exact n
 . by_cases hb:b=a
   . subst hb;exact⟨_,WQ⟩
   . exact⟨o,hk b o hb q⟩
 . rw[WJ b (nt b _ q λ_ z=>nomatch z) (ag q fr)];exact q
 . rw[WJ b (nt b _ q λ_ z=>nomatch z) (ag q fr)];exact q
 . rw[WJ b (nt b _ q λ_ z=>nomatch z) (ag q fr),Array.append_empty];exact q
 . by_cases hb:b=a
   . subst hb;rw[aa] at q;cases q
     exact Ea WQ
   . rw[ak hb] at q;by_cases hd:b=s.heap.objs.size
     . subst hd;rw[aa] at q;cases q
       refine⟨_,hn,λg=>?_⟩;show fh (abC g [(f,y)]) (if g=f then some u else none);by_cases z:g=f
       . subst z;rw[if_pos rfl,abe,beq_self_eq_true];exact ry
       . rw[if_neg z,abe,beq_eq_false_iff_ne.mpr z];exact aan
     . rw [ak hd] at q;refine (I.aA b o q).iV (λc v hc z=>hk c v (λr=>?_) z) (λc z=>?_) λc xs z=>?_
       . subst r;rcases hc with hc | hc
         . exact hb hc.symm
         . rw[e] at hc;cases hc
       . rw[WJ c (nt c _ z λ_ z=>nomatch z) (ag z fr)];exact z
       . rw[WJ c (nt c _ z λ_ z=>nomatch z) (ag z fr)];exact z
end
def sX (K:W.Frag)(ta tv:TE)(f:Str):TS:=λD Z H=>tv Z H λy H1=>ta Z H1 λx H2=>∃ a C,x=.ref a/\H2 a=some (XB a C none)/\vU K C f/\∀ d,H2 d=none->D.nx Z (upd (upd H2 d (.xd [(f,y)])) a (XB a C (some d)))
variable {pos:Pos} {tv:TE}
theorem KN {o value:Expr}{ta:TE}{f:Str}{TF:Pos}(ha:PE X o ta)(hv:PE X value tv)(hs:acV value (some (.Attribute o f TF)) pos.line X.env=pure false):PS X (.Assign [.Attribute o f TF] value pos) (sX X.K ta tv f):=by
 intro gV s Z H D I h;refine plainObj_wpAny_Assign_Attribute (aR (hv gV s Z H _ I h) λu s1 zq=>bR zq λy H1 I1 ry q=>aR (ha gV s1 Z H1 _ I1 q) λov s2 zq=>?_) hs;obtain⟨x,H2,I2,rx,a,C,ex,ea,S,q2⟩:=zq;subst ex;obtain rfl:ov=Tg a:=rx;exact BY I2 ea S ry λd s3 hd I3=>⟨Z,_,I3,q2 d hd⟩
def CJ (C:Addr)(f:Str):Sp:=λvs H Q _=>∃ (e:Addr) (i:Int),vs=[.ref e,.int i]/\H e=some (XB e C none)/\i.natAbs.log2<1900/\∀ d,H d=none->Q .aC (upd (upd H d (.xd [(f,.int i)])) e (XB e C (some d)))
def gY (base:Heap)(l:List Env)(e:Addr)(cls:Value)(od:Option Addr)(fl:Value)(h:Heap):Prop :=
 base.StaysIn h/\base.get? e=none/\h.FunFrames base l/\∃ oe vs T oT ts,h.get? e=some oe/\oe.cls=cls/\oe.dict=od/\oe.data=.fields vs/\vs[1]? = some (.ref T)/\base.get? T=none/\T≠e/\h.get? T=some oT/\oT.data=.fields ts/\ts[3]? = some fl
theorem wA (f:Array Value->Array Value)(o:Obj):(acf f o).dict=o.dict:=by
 obtain⟨c,d,dt,sl⟩:=o;cases dt <;> rfl
section
variable {M:Model} {A:Around} {E:Value->Shared->Prop} {s:Shared}
theorem ij {x:Addr}{o:Obj}{vs:Array Value}(hx:h.get? x=some o)(hd:o.data=.fields vs){b:Addr}{u:Obj}(hb:h.get? b=some u)(hn:∀ ws,u.data≠.fields ws):b≠x:=λq=>by
 rw[q,hx] at hb;cases hb
 exact hn vs hd
theorem Hn {base:Heap}{env:Env}{outer:List Env}{L e:Addr}{oe:Obj}{vs:Array Value}{head:Value}{hadNext:Bool}{Q:Unit->Shared->Prop}
   (UL:A.frames=some (env::outer)) (hl:s.heap.FunFrames base (env::outer)) (hf:env.frame=some L) (he:s.heap.get? e=some oe) (WT:base.StaysIn s.heap) (U1:base.get? e=none) (hd:oe.data=.fields vs) (hsz : 1<vs.size)
   (h:∀ h',gY base (env::outer) e oe.cls oe.dict (rawInt L) h'->s.heap.UpToSlots h'->Q () { s with heap:=h' }) :
   wpAny M A (do let a <- frameOf env;let pl <- entryPlaceOf L hadNext;let b <- EntryCells.newEntry head a .none (rawInt L) .none pl;setField (.ref e) 1 b) Q E s:=by
 have hene:e ∉ (env::outer).filterMap (·.frame):=λhm=>by
   obtain⟨_,o,ho,hnf⟩:=hl.mem hm;exact ij he hd ho hnf rfl
 refine aad (wpAny_frameOf_fun UL hl hf λh₁ hs₁=>aad (wpAny_entryPlaceOf λpl S9=>?_));unfold EntryCells.newEntry newFields;refine aad (abw ?_ (S9.sizeOk5 _ _ _ _ _));have he₁ : h₁.get? e=some oe:=(hs₁.2.1 e hene).trans he;have kb₁ : base.StaysIn h₁:=λb o hbo=>(hs₁.2.1 b λhm=>by rw[(hl.mem hm).1] at hbo;cases hbo).trans (WT b o hbo);have hts:∃ ts:Array Value,([head,.ref L,.none,rawInt L,.none]++(if pl.isEmpty then aau 6 abq else pl)).toArray=ts/\ts[3]? = some (rawInt L):=⟨_,rfl,by first | (simp;done) | (rcases S9 with rfl | ⟨_,_,_,_,_,_,_,rfl⟩ <;> simp)⟩
 obtain⟨ts,ets,h3⟩:=hts;rw[ets];have he₂:=aaf (h:=h₁) { cls:=.type "traceback",dict:=none,data:=.fields ts } he₁;have hTe:h₁.objs.size≠e:=abU (aam he₁);refine ac9 he₂ hd hsz (h _ ?_ ?_)
 . have hd₃ := ach hd (·.setIfInBounds 1 (Tg h₁.objs.size));have he₃:=aa9 (acf (·.setIfInBounds 1 (Tg h₁.objs.size))) he₂ (adt hd₃);have ot:∀ b o,b≠e->h₁.get? b=some o->((h₁.push { cls:=.type "traceback",dict:=none,data:=.fields ts }).update e (acf (·.setIfInBounds 1 (Tg h₁.objs.size)))).get? b=some o:=λb o hb z =>
     (aaY _ _ (Ne.symm hb)).trans (aaf _ z)
   refine⟨λb o z=>ot b o (λq=>by rw[q,U1] at z;cases z) (kb₁ b o z),U1,hl.of_keeps λb o z hn=>?_,?_⟩
   . obtain⟨sl, z'⟩ := hs₁.2.2 b o z;exact⟨_,ot b _ (ij he hd z hn) z',rfl⟩
   . refine⟨_, _, h₁.objs.size, { cls := .type "traceback", dict := none, data := .fields ts }, ts, he₃, Obj.cls_mapFields _ _, wA _ _, hd₃, by simp[hsz], kb₁.fresh, hTe, ?_, rfl, h3⟩;exact(aaY _ _ (Ne.symm hTe)).trans (aat h₁ rfl)
 . intro b o z hn;obtain⟨sl,z'⟩:=hs₁.2.2 b o z;exact⟨sl,(aaY _ _ (Ne.symm (ij he hd z hn))).trans (aaf _ z')⟩
variable {L:Addr} {outer:List Env} {env:Env}
theorem JN {base:Heap}{cls:Value}{Q:Unit->Shared->Prop}(UL:A.frames=some (env::outer))(hf:env.frame=some L)(WV:gY base (env::outer) e cls od .none s.heap)
   (h:∀ h',gY base (env::outer) e cls od (rawInt L) h'->s.heap.UpToSlots h'->Q () { s with heap:=h' }):wpAny M A (noteFrame (.ref e) env) Q E s:=by
 obtain⟨WT,U1,hl,oe,vs,T,oT,ts,he,rfl,rfl,hd,h1,hnT,hTe,hT,WW,h3⟩:=WV;unfold noteFrame;simp only[hf];refine aad (aby he hd h1 ?_);rw[if_pos (show(Tg T != abq)=true from by simp)];refine aad (aby hT WW h3 ?_);rw[if_neg (show ¬ ((abq == rawInt L)=true) from by simp[rawInt])];refine aad (ac9 hT WW (Array.getElem?_eq_some_iff.mp h3).1 ?_);have ot:∀ b,b≠T->(s.heap.update T (acf (·.setIfInBounds 3 abq))).get? b=s.heap.get? b:=λb hb=>aaY _ _ (Ne.symm hb)
 refine Hn UL (hl.of_keeps λb o hb hnf => ⟨o, (ot b (ij hT WW hb hnf)).trans hb, rfl⟩) hf ((ot e (Ne.symm hTe)).trans he) (λb o z => (ot b λq => by rw [q, hnT] at z; cases z).trans (WT b o z)) U1 hd (Array.getElem?_eq_some_iff.mp h1).1
   λh' f1 f2=>h h' f1 λb o z hn=>f2 b o ((ot b (ij hT WW z hn)).trans z) hn
theorem qB {base:Heap}{l:List Env}{cls fl:Value}{Q:Unit->Shared->Prop}(WV:gY base l e cls od fl s.heap)
   (h:∀ h',gY base l e cls od .none h'->s.heap.UpToSlots h'->Q () { s with heap:=h' }):wpAny M A (setFlight (.ref e) none) Q E s:=by
 obtain⟨WT,U1,hl,oe,vs,T,oT,ts,he,rfl,rfl,hd,h1,hnT,hTe,hT,WW,h3⟩:=WV;have hsz3 : 3<ts.size:=(Array.getElem?_eq_some_iff.mp h3).1;unfold setFlight;refine aad (aby he hd h1 ?_);rw[if_pos (show(Tg T != abq)=true from by simp)];have ot:∀ b,b≠T->(s.heap.update T (acf (·.setIfInBounds 3 ((none:Option Addr).elim abq λf=>rawInt f)))).get? b=s.heap.get? b:=λb hb=>aaY _ _ (Ne.symm hb);refine ac9 hT WW hsz3 (h _ ⟨λb o z=>(ot b λq=>by rw[q,hnT] at z;cases z).trans (WT b o z),U1,hl.of_keeps λb o hb hnf=>⟨o,(ot b (ij hT WW hb hnf)).trans hb,rfl⟩,?_⟩ λb o hb hnf=>⟨o.slots,(ot b (ij hT WW hb hnf)).trans hb⟩);exact⟨oe,vs,T,_,_,(ot e (Ne.symm hTe)).trans he,rfl,rfl,hd,h1,hnT,hTe,aa9 _ hT (adt (ach WW _)),ach WW _,by simp[hsz3]⟩
theorem gY.out (x:gY base (env::outer) e cls od fl h):gY base outer e cls od fl h:=⟨x.1,x.2.1,x.2.2.1.2.2,x.2.2.2⟩
theorem Ld (UL:A.frames=some (env::outer))(hf:env.frame=some L)(WV:gY base (env::outer) e cls od .none s.heap)
   (h:∀ h',gY base outer e cls od .none h'->s.heap.UpToSlots h'->Q () { s with heap:=h' }):wpAny M A (leaving env (.ref e)) Q E s:=by
 unfold leaving;refine aad (JN UL hf WV λh1 f1 u1=>qB f1 λh2 f2 u2=>h h2 f2.out (u1.trans u2))
theorem BR {e:Addr}(UL:A.frames=some (env::outer))(hl:s.heap.FunFrames base (env::outer))(hf:env.frame=some L)
   (he:s.heap.get? e=some oe) (WT:base.StaysIn s.heap) (U1:base.get? e=none) (hd:oe.data=.fields vs) (h1:vs[1]? = some .none)
   (h:∀ h',gY base outer e oe.cls oe.dict .none h'->s.heap.UpToSlots h'->Q () { s with heap:=h' }):wpAny M A (leaving env (.ref e)) Q E s:=by
 unfold leaving noteFrame;simp only[hf];refine aad (aad (aby he hd h1 ?_));rw[if_neg (by decide)];exact Hn UL hl hf he WT U1 hd (Array.getElem?_eq_some_iff.mp h1).1 λh1 f1 u1=>qB f1 λh2 f2 u2=>h h2 f2.out (u1.trans u2)
end
section
variable {M:Model} {A:Around} {E:Value->Shared->Prop} {env:Env}
variable {nm q:Str} {C N:Addr} {bs bm:List Value} {hdct:Bool} {sn:List Str} {sub:List Value} {ab:Bool} {col:Option Bool} {dd:Option Addr} {k0 k1 k2 k3 k5:Option Value} {newId:String}
theorem Hq {s:Shared}{x:Sem Value}{Q:Flow->Shared->Prop}(Tt:bm.contains (.type "BaseException")=true)(hh:A.handled=none)
   (h:wpAny M A x (λv s₁=>∃ e t od,v=.ref e/\s₁.heap.get? C=some (acY nm q C N bs bm hdct sn sub ab col dd k0 k1 k2 k3 k5 newId)/\s₁.heap.get? e=some { cls:=.ref C,dict:=od,data:=.fields #[.ref t,.none,.none,.none,.bool false,.none] }/\E (.ref e) s₁) E s):wpAny M A (raiseStmt env (some x) none) Q E s:=by
 have hcB:(Tg C::bm).contains (.type "BaseException")=true:=by rw[List.contains_cons,Tt,Bool.or_true]
 unfold raiseStmt;refine aad (aaH h (λv s₁ h₁=>?_) λ_ _ x=>x);obtain⟨e,t,od,rfl,hC,he,hE⟩:=h₁;obtain⟨hp,g,d,tk,os⟩:=s₁;repeat (first | with_reducible refine acC he ?_ | with_reducible refine acC hC ?_ | (with_reducible refine wpAny_isSubtype_exc hC ?_;rw[hcB]) | wp_step)
 exact wpAny_raiseNew_none hh hE
end
section
variable {prog:Program} {w:World} {A:Around} {E:Value->Shared->Prop} {s:Shared} {env:Env}
variable {nm q:Str} {C N:Addr} {bs bm W9:List Value} {hdct:Bool} {sn:List Str} {sub:List Value} {ab:Bool} {col:Option Bool} {dd:Option Addr} {k0 k1 k2 k3 k5:Option Value} {B Bn newId nid UQ inN:String} {bmN:List Value}
theorem DF (Fn:ac4 Bn newId inN bmN)(hBn:W9.contains (.type Bn)=true)(F:ac4 B nid UQ W9){mN:Str->Option Value}{x:Str}{np S8 pos:Pos} 
   (Tt:bm.contains (.type "BaseException")=true) (hh:A.handled=none) (Tp:(backTo S8 (aai args env)).any (·.1)=false) (hi:mN "__init__" = some (.ref fI)) (hfc:oI.cls=.type "function")
   (h:wpAny (model prog w) A (eval (.Name x np) env) (λf s₁=>f=.ref C/\wpAny (model prog w) A (evalArgs (.ref C) true (backTo S8 (aai args env)) [])
     (λa s₂=>a.kw=[]/\a.pos.length<=aal/\s₂.heap.get? C=some (acY nm q C N bs bm hdct sn sub ab col dd k0 k1 k2 k3 k5 newId)/\s₂.heap.Ns N mN/\OwnTail s₂.heap W9 bm/\s₂.heap.get? fI=some oI /\
       ∀ h' e,acS s₂.heap h' e (.ref C) a.pos->s₂.heap.objs.size<=e->wpAny (model prog w) (A.under (.builtin "type.__call__" ⟨.ref C::a.pos,[]⟩)) (call (.ref fI) (.ref e::a.pos))
         (λr s'=>r=.none/\s'.heap.get? C=some (acY nm q C N bs bm hdct sn sub ab col dd k0 k1 k2 k3 k5 newId)/\(∃ t od,s'.heap.get? e=some { cls:=.ref C,dict:=od,data:=.fields #[.ref t,.none,.none,.none,.bool false,.none] })/\E (.ref e) s') E { s₂ with heap:=h' }) E s₁) E s) :
   wpAny (model prog w) A (exec (.Raise (some (.Call (.Name x np) args [] S8)) none pos) env) Q E s:=by
 rw[arm_exec_Raise];refine aad (acs (Hq (C:=C) (nm:=nm) (q:=q) (N:=N) (bs:=bs) (bm:=bm) (hdct:=hdct) (sn:=sn) (sub:=sub) (ab:=ab) (col:=col) (dd:=dd) (k0:=k0) (k1:=k1) (k2:=k2) (k3:=k3) (k5:=k5) (newId:=newId) Tt hh ?_));refine aad (aaH (wpAny_Call_ofName (aaH h (λf s₁ h₁=>?_) λ_ _ x=>x)) (λv s₃ h₃=>aad (acs (aaj h₃))) λ_ _ x=>x);obtain⟨rfl,h₁⟩:=h₁;unfold ac2;refine aad (aa_ (aaH h₁ (λa s₂ h₂=>aad (acs ?_)) λ_ _ x=>x));obtain⟨Tc,akw⟩:=a;obtain⟨hkw,S7,hC,hn,T,hf,h₂⟩:=h₂;obtain rfl:akw=[]:=hkw;obtain⟨hp,g,d,tk,os⟩:=s₂;simp only[Tp];refine aad (wpAny_keeperOf_exc hC ?_);refine aad (yN Fn hBn F T hC hn hi hf hfc (λh' e hm hz=>aaH (h₂ h' e hm hz) (λr s' z=>⟨z.1,?_⟩) λ_ _ z=>z) S7);obtain⟨_,hC',⟨t,od,Ug⟩,hE⟩:=z;exact aad (aa_ (wpAny_point (aaj ⟨e,t,od,rfl,hC',Ug,hE⟩)))
end
structure wX (P:Program)(w:World)(outer:List Env)(H:Hp)(s:Shared)(ea C:Addr)(od:Option Addr)(H':Hp)(s':Shared):Prop where
 os:s'.os=s.os
 bare:AllBare s'.gens
 fr:H' ea=none
 hi:s.heap.objs.size<=ea
 ex:∃ (h0:Heap) (l:List Addr),Un (cS outer) [] H H' s.heap h0/\dh P w H' h0/\(∀ b∈l,H' b=none/\(b∈cS outer∨s.heap.objs.size<=b))/\gY (acm h0 l) outer ea (.ref C) od .none s'.heap/\h0.UpToSlots s'.heap
def eu (P:Program)(w:World):dM:=λouter H s E e s'=>∃ (ea C:Addr) (od:Option Addr) (H':Hp),e=.ref ea/\wX P w outer H s ea C od H' s'/\E (.ref C) od H'
variable {Z : L2.St}
theorem Cb {e C:Addr}{od:Option Addr}(I:Inv X gV Z H s)
   (Tj:X.stack=X.env::X.outer) (UL:X.env.frame=some X.env.locals) (hex:X.ex=[]) (he:H e=some (XB e C od)) (hi:X.s₀.heap.objs.size<=e) (h0:H' e=none) (h1:∀ b,b≠e->H' b=H b)
   (hQ:∀ s',wX X.prog X.w X.outer X.H₀ X.s₀ e C od H' s'->Q () s'):wpAny (model X.prog X.w) X.A (leaving X.env (.ref e)) Q Ex s:=by
 obtain⟨t,hx⟩:=yU I.aA he;have hfs:=A4 Tj UL;have WU:∀ env∈X.stack,∀ a,env.frame=some a->a∈e::cS X.stack:=λenv hm b hb=>abb _ (List.mem_filterMap.mpr ⟨env,hm,hb⟩);have hl:s.heap.FunFrames (acm s.heap (e::cS X.stack)) (X.env::X.outer):=by
   have z:=W.funFrames_hide I.stack WU;rw[Tj] at z ⊢;exact z
 have nx:∀ b o,H b=some o->(∀ φ,o≠.ext φ)->b≠e:=λb o z q r=>by rw[r,he] at z;exact q _ (aax z).symm
 have hb:=I.base;rw[hex] at hb;refine BR (base:=acm s.heap (e::cS X.stack)) (by rw[<- Tj];exact I.ok.frames) hl UL hx (λb o q=>W.of_hideAll _ q) (W.hideAll_none _ (.head _)) rfl rfl λh' f u=>hQ _ ⟨I.os,I.bare,h0,hi,s.heap,e::cS X.stack,?_,?_,?_,f,u⟩
 . refine ⟨hb.keep,hb.slot,λb o q n WQ=>?_,hb.there,λb xs q=>?_,λb o u q=>?_,λb ps q=>?_⟩
   . by_cases z:b=e
     . rw[z];exact h0
     . rw[h1 b z];exact hb.free b o q n WQ
   . have z := hb.jC b xs q;rw[h1 b (nx b _ z λ_ z=>nomatch z)];exact z
   . have z := hb.iO b o u q;rw[h1 b (nx b _ z λ_ z=>nomatch z)];exact z
   . obtain⟨m, z⟩ := hb.jV b ps q;exact⟨m,by rw[h1 b (nx b _ z λ_ z=>nomatch z)];exact z⟩
 . intro b o q;by_cases z:b=e
   . rw[z,h0] at q;cases q
   . rw [h1 b z] at q;refine (I.aA b o q).iV (λc v _ z=>z) (λc z'=>?_) λc xs z'=>?_
     . rw[h1 c (nx c _ z' λ_ z=>nomatch z)];exact z'
     . rw[h1 c (nx c _ z' λ_ z=>nomatch z)];exact z'
 . intro b hm;rcases List.mem_cons.mp hm with rfl | hm
   . exact⟨h0,.inr hi⟩
   . have hn := I.mv b hm;have nb:b≠e:=λz=>by rw [z,he] at hn;cases hn
     refine⟨by rw[h1 b nb];exact hn,?_⟩;rw[hfs] at hm;rcases List.mem_cons.mp hm with rfl | hm
     . exact .inr I.ok.above
     . exact .inl hm
def xf (C:Addr)(f:Str)(E:XK)(t:TA):TS:=λ_ Z H=>t Z H λvs H1=>∃ i:Int,vs=[.int i]/\i.natAbs.log2<1900/\∀ d,H1 d=none->E (.ref C) (some d) (upd H1 d (.xd [(f,.int i)]))
theorem E2 {P:Program}{w:World}{K:W.Frag}{mg:Str->Option Value}{base:Heap}{N:List Str}{qual:Str}{scope:Scope}{f:Addr}{cd:Value}{A:Around}{outer:List Env}{s0:Shared}{H0:Hp}{E:XK}
   {C fI:Addr} {fd:aa3} {ps:List Str} {fn x:Str} {k:Nat} {np S8 pos:Pos} {e0:Expr} {es:List Expr} {t:TA} (c:k7 K mg x C fI) (F:c7 P w K mg base cb k fI fd ps (CJ C fn)) (hb:Binds K fd ps [])
   (hr:bH (k+1) (bW (eu P w) P w K mg base N qual scope f cd A outer s0 H0 E).A) (hg:Gl (bW (eu P w) P w K mg base N qual scope f cd A outer s0 H0 E) x)
   (ha:PA (bW (eu P w) P w K mg base N qual scope f cd A outer s0 H0 E).eY (e0::es) t) (Tw:(x == ("__debug__" : Str))=false:=by decide)
   (he:aai (e0::es) (bW (eu P w) P w K mg base N qual scope f cd A outer s0 H0 E).env=(false,eval e0 (bW (eu P w) P w K mg base N qual scope f cd A outer s0 H0 E).env)::aai es (bW (eu P w) P w K mg base N qual scope f cd A outer s0 H0 E).env:=by rfl)
   (S9:(backTo S8 (aai es (bW (eu P w) P w K mg base N qual scope f cd A outer s0 H0 E).env)).any (·.1)=false:=by rfl) :
   PS (bW (eu P w) P w K mg base N qual scope f cd A outer s0 H0 E) (.Raise (some (.Call (.Name x np) (e0::es) [] S8)) none pos) (xf C fn E t):=by
 intro gV s Z H D I h;obtain⟨bm,N',nm,qn,bs,hd,sn,sub,ab,col,dd,k0,k1,k2,k3,k5,mN,o,hC,hN,hni,TL,hf,hfc⟩:=c.obj I.ok.mod.uL
 refine DF (C:=C) (mN:=mN) (N:=N') (nm:=nm) (q:=qn) (bs:=bs) (bm:=bm) (hdct:=hd) (sn:=sn) (sub:=sub) (ab:=ab) (col:=col) (dd:=dd) (k0:=k0) (k1:=k1) (k2:=k2) (k3:=k3) (k5:=k5)
   abv (by nofun) abv (TL.hasType (by nofun)) (I.ok.hd rfl) (by rw[he];show(false || (backTo S8 (aai es _)).any (·.1))=false;rw[S9];rfl) hni hfc ?_
 refine eS I hg c.glob ⟨rfl,?_⟩ Tw;have Ua:=(L3.PA.eY ha) S8 gV s Z H _ I h;rw[he] at Ua ⊢;refine acB (aR Ua λus s1 zq=>?_);obtain⟨vs,H1,I1,r,i,ev,WS,q⟩:=zq;subst ev;obtain⟨u,rfl,ru⟩:=vals1 r;refine⟨rfl,by show 1<=aal;nofun,I1.bk _ _ hC,hN.keeps I1.bk,TL.keeps I1.bk,I1.bk _ _ hf,λh' e hm hz=>?_⟩;obtain⟨t',hte,_,_⟩:=hm.there;have I2:=I1.laid (a:=e) (o:=XB e C none) (h':=h') (t':=s1.toks) hm.keeps hz (Ea hte);have fr1:H1 e=none:=I1.aA.fresh hz;have hl : [Tg e,u].length=ps.length:=by
   have:=F.len [.ref e,.int i] (upd H1 e (XB e C none)) (λ_ _=>True) E ⟨e,i,rfl,aa,WS,λ_ _=>aan⟩
   simpa using this
 have Vz:=hb { s1 with heap:=h' } [.ref e,u] I2.df (by rw[aaL];exact hl);rw[aaL] at Vz;refine acP (ab0 (F.run _ _ _ (upd H1 e (XB e C none)) ⟨[.ref e,u],[]⟩ [.ref e,u] [.ref e,.int i] (λv H2=>v=.aC/\∃ d,upd H1 e (XB e C none) d=none/\H2=upd (upd (upd H1 e (XB e C none)) d (.xd [(fn,.int i)])) e (XB e C (some d))) E (hr.make C [u] []) (I2.AS.make C [u] []) Vz (.cons rfl (.cons ru .nil)) ⟨e,i,rfl,aa,WS,λd hd=>⟨rfl,d,hd,rfl⟩⟩) λr2 s' hq=>?_);cases r2 with
 | error ex=>exact(show False from hq).elim
 | ok fl =>
   cases fl with
   | ret u2 =>
     obtain⟨v,H2,I3,rv,ev,d,hd0,eH⟩:=I2.after hq;subst ev eH;have nd:d≠e:=(bw hd0).2;have Vy:H1 d=none:=(bw hd0).1;obtain⟨t3,h3⟩:=yU I3.aA aa;refine⟨rv,I3.bk _ _ hC,⟨_,_,h3⟩,?_⟩;exact Cb (X:=bW (eu P w) P w K mg base N qual scope f cd A outer s0 H0 E) (H':=upd H1 d (.xd [(fn,.int i)])) I3 rfl rfl rfl aa (aaK I1.sz hz) (by rw[ak nd.symm];exact fr1) (λb W7=>by
       rw[ak W7];by_cases z:b=d
       . rw[z,aa,aa]
       . rw[ak z,ak z,ak W7]) λs'' th=>⟨e,C,some d,_,rfl,th,q d Vy⟩
   | next=>exact aaV hq
   | brk=>exact aaV hq
   | cont=>exact aaV hq
theorem IF {P:Program}{w:World}{K:W.Frag}{mg:Str->Option Value}{base:Heap}{N:List Str}{qual:Str}{scope:Scope}{f:Addr}{cd:Value}{A:Around}{outer:List Env}{s0:Shared}{H0:Hp}{E:XK} :
   dH (eu P w) (bW (eu P w) P w K mg base N qual scope f cd A outer s0 H0 E) E:=by
 intro gV Z H s e s' I h;obtain⟨ea,C,od,H',rfl,⟨os,bare,fr,hi,h0,l,u,aA,hl,fl,up⟩,q⟩:=h;show wpAny _ _ (leaving _ (.ref ea)) _ _ s';refine Ld (outer:=outer) I.ok.frames rfl fl λh2 fl2 up2=>⟨ea,C,od,H',rfl,⟨os.trans I.os,bare,fr,aaK I.sz hi,h0,l,?_,aA,λb hb=>⟨(hl b hb).1,?_⟩,fl2,up.trans up2⟩,q⟩
 . have J := I.call (h' := h0) (g' := s'.gens) (d' := s'.drawn) (t' := s'.toks) (ch := []) u aA bare (λb z => absurd z (by simp));exact J.base
 . rcases(hl b hb).2 with z | z
   . have z' : b ∈ cS (envOfC qual scope s0.heap.objs.size f cd :: outer) := z;have e1:cS (envOfC qual scope s0.heap.objs.size f cd::outer)=s0.heap.objs.size::cS outer:=by unfold cS;rw [abH];rfl
     rw[e1] at z';rcases List.mem_cons.mp z' with rfl | z'
     . exact .inr (aag _)
     . exact .inl z'
   . exact .inr (aaK I.sz z)
section
variable {P:Program} {w:World} {K:W.Frag} {mg:Str->Option Value} {base:Heap} {x qual:Str} {st:Stmt} {N ps:List Str} {sp:Sp} {C:Addr} {k:Nat}
def Ml (P:Program)(w:World)(K:W.Frag)(mg:Str->Option Value)(base:Heap)(qual:Str)(st:Stmt)(N:List Str)(f:Addr)(S6:Value)(A:Around)(outer:List Env)(s:Shared)(E:XK)(Q:VK)(H:Hp)(vs:List V):Prop :=
 ∃ t,gj (bW (eu P w) P w K mg base N qual (ah st) f S6 A outer s H E) (aU st) t/\t { nx:=λ_ H'=>Q .aC H',rt:=Q } (start N vs) H
def Qb (P:Program)(w:World)(K:W.Frag)(mg:Str->Option Value)(base:Heap)(k:Nat)(qual:Str)(st:Stmt)(N:List Str)(sp:Sp):Prop :=
 ∀ (f:Addr) (S6:Value) (A:Around) (outer:List Env) (s:Shared) (H:Hp) (vs:List V) (Q:VK) (E:XK),bH k (A.deeper (envOfC qual (ah st) s.heap.objs.size f S6))->sp vs H Q E ->
   Ml P w K mg base qual st N f S6 A outer s E Q H vs
theorem GY (k:Nat)(h:∃ f fd,dY K x qual st f fd/\mg x=some (.ref f)/\Binds K fd ps [])(S:aq N ps (ah st))(len:∀ vs H Q E,sp vs H Q E->vs.length=ps.length)
   (S_:Qb P w K mg base k qual st N sp):iE P w K mg base (eu P w) (k+1) x sp:=by
 obtain⟨f,fd,F,hm,hb⟩:=h;obtain⟨oc,od,kV,Ta,pm,an,S6,ct,Tv,rfl,lk,Ud⟩:=F.ex;exact⟨f,_,ps,qT lk Ud S len λA outer s H vs Q E hr UT=>S_ f S6 A outer s H vs Q E hr UT,hm,F.kp,hb⟩
structure JY (P:Program)(w:World)(K:W.Frag)(mg:Str->Option Value)(base:Heap)(k:Nat)(x:Str)(C:Addr)(fn:Str):Prop where
 ex:∃ (f:Addr) (fd:aa3) (ps:List Str),k7 K mg x C f/\c7 P w K mg base cb k f fd ps (CJ C fn)/\Binds K fd ps []
end
def GR (X:Cx)(gV:List (Addr×Obj))(Z : L2.St)(Ew:XK)(ex:Value)(s':Shared):Prop :=
 ∃ (ea C:Addr) (od:Option Addr) (H1:Hp) (s1:Shared) (H':Hp),ex=.ref ea/\Inv X gV Z H1 s1/\wX X.prog X.w X.stack H1 s1 ea C od H' s'/\Ew (.ref C) od H'
abbrev JX:=L2.St->Hp->VK->XK->Prop
def QZ (X:Cx)(e:Expr)(t:JX):Prop:=∀ (gV:List (Addr×Obj)) (s:Shared) (Z : L2.St) (H:Hp) (Q:VK) (Ew:XK),Inv X gV Z H s->t Z H Q Ew->wpAny (model X.prog X.w) X.A (eval e X.env) (EP X gV Z Q) (GR X gV Z Ew) s
section
variable {X:Cx} {gV:List (Addr×Obj)} {Z : L2.St} {H:Hp} {s:Shared} {k:Nat} {g x n:Str} {sp:Sp} {e:Expr} {es:List Expr} {t:TA} {tx:JX} {ta:TAX} {te:TE} {gp S8 pos py:Pos}
def JW (sp:Sp)(t:TA):JX:=λZ H Q Ew=>t Z H λvs H1=>sp vs H1 Q Ew
theorem KP (G : iE X.prog X.w X.K X.mg X.base (eu X.prog X.w) k g sp)(hr : bH k X.A)(hg : Gl X g)(ha : PA X.eY (e :: es) t)(Tw : (g == ("__debug__" : Str)) = false := by decide)
   (he:aai (e::es) X.env=(false,eval e X.env)::aai es X.env:=by rfl) (S9:(backTo S8 (aai es X.env)).any (·.1)=false:=by rfl):QZ X (.Call (.Name g gp) (e::es) [] S8) (JW sp t):=by
 intro gV s Z H Q Ew I h;obtain⟨f,fd,ps,F,hm,hk,hb⟩:=G.ex;refine abf (eS I hg hm ?_ Tw);refine adw (h₀:=X.base) I.ok.mod.uL hk (aaH (ha S8 gV s Z H _ (I.fP _) h) (λus s1 zq=>bR zq λvs H1 I1 r q=>⟨I1.df,?_⟩) λ_ _ z=>z.elim) he S9;have J:Inv X gV Z H1 s1:=I1.eg;have hl:us.length=ps.length:=by rw[<- r.length];exact F.len _ _ _ _ q
 have Vz:=hb s1 us J.df (by rw[aaL];exact hl);rw[aaL] at Vz;refine acP (ab0 (F.run X.A X.stack s1 H1 ⟨us,[]⟩ us vs Q Ew hr J.AS Vz r q) λr2 s' hq=>?_);cases r2 with
 | error ex =>
   obtain⟨ea,C,od,H',rfl,th,q2⟩:=(show eu X.prog X.w X.stack H1 s1 Ew ex s' from hq)
   exact⟨ea,C,od,H1,s1,H',rfl,J,th,q2⟩
 | ok fl =>
   cases fl with
   | ret u=>exact J.after hq
   | next=>exact aaV hq
   | brk=>exact aaV hq
   | cont=>exact aaV hq
def QY (X:Cx)(body:List Stmt)(tb:TB):Prop :=
 ∀ (gV:List (Addr×Obj)) (s:Shared) (Z : L2.St) (H:Hp) (D:Ends) (Ew:XK),Inv X gV Z H s->tb D Ew Z H->wpAny (model X.prog X.w) X.A (execs body X.env) (SP X gV D) (GR X gV Z Ew) s
def NZ (i:Nat)(tx:JX):TB:=λD Ew Z H=>tx Z H (λv H2=>D.nx (Z.set i (some v)) H2) Ew
theorem LL (hN : X.N.Nodup)(hi : X.N[i]? = some x)(hx : Loc X.env.scope x)(hv : QZ X v tx)(hw : acV v (some (.Name x py)) pos.line X.env = pure false := by rfl)
   (hf:X.fn x=true∨X.env.scope.names.lookup x=some .local:=by first | exact .inl rfl | exact .inr rfl | assumption):QY X [.Assign [.Name x py] v pos] (NZ i tx):=by
 intro gV s Z H D Ew I h;refine adu (wpAny_Assign_Name (aaH (hv gV s Z H _ Ew I h) (λv s1 zq=>bR zq λy H1 I1 r1 q1=>?_) λ_ _ z=>z) hw);exact nj I1 hN hi hx r1 (λs2 I2=>abK ⟨_,H1,I2,q1⟩) hf
end
def Kd (x:Str)(tv:TE):TE:=λZ H Q=>tv Z H λu H1=>∃ i,u=.int i/\i.natAbs.log2<1900/\Q (.str (adn++x++aae (toString i))) H1
theorem qS {v:Expr}{j1:Nat}{p0 p1 p2:Pos}(hv:PE X v tv)(hx:(adn++x).length<=1000:=by nofun):PE X (.JoinedStr [.Constant (.str x) j1 p1,.FormattedValue v (-1) none p2] p0) (Kd x tv):=by
 intro gV s Z H Q I h;refine JoinedStr_many (joinParts_cons (aR (gA (X:=X) gV s Z H (λu H'=>u=.str x/\H'=H) I ⟨rfl,rfl⟩) λu1 s1 zq=>?_));obtain⟨v1,H1,I1,r1,e1,e2⟩:=zq;subst e1 e2;obtain⟨t1,rfl⟩:=r1;refine⟨by rw[aaI];omega,joinParts_cons (FormattedValue_plain (aR (hv gV s1 Z H1 _ I1 h) λu2 s2 zq=>?_))⟩;obtain⟨v2,H2,I2,r2,i,e,hd,q⟩:=zq;subst e;obtain⟨t2,rfl⟩:=r2;have hl:=int_text_len_1921 (i:=i) (by omega);have hz:(adn++x++aae (toString i)).length<=aal:=by
   rw[aaI]
   have:(adn++x++aae (toString i)).length=(adn++x).length+(aae (toString i)).length:=by
     show Array.size _=Array.size _+Array.size _;exact Array.size_append
   omega
 refine formatField_int_small (by omega) ?_;exact⟨hz,joinParts_nil ⟨.str _,_,(I2.tok _).tok _,⟨_,rfl⟩,q⟩ hz⟩
theorem HR {K:W.Frag}{o value:Expr}{ta:TE}{f:Str}{TF:Pos}(h:X.K=K)(ha:PE X o ta)(hv:PE X value tv)(hs:acV value (some (.Attribute o f TF)) pos.line X.env=pure false:=by rfl):PS X (.Assign [.Attribute o f TF] value pos) (sX K ta tv f):=by
 subst h;exact KN ha hv hs
theorem kD {P:Program}{w:World}{K:W.Frag}{mg:Str->Option Value}{base:Heap}{N:List Str}{qual:Str}{scope:Scope}{f:Addr}{cd:Value}{A:Around}{outer:List Env}{s0:Shared}{H0:Hp}{E:XK}
   {C:Addr} {fn x:Str} {k:Nat} {np S8 pos:Pos} {e0:Expr} {es:List Expr} {t:TA} (G:JY P w K mg base k x C fn)
   (hr:bH (k+1) (bW (eu P w) P w K mg base N qual scope f cd A outer s0 H0 E).A) (hg:Gl (bW (eu P w) P w K mg base N qual scope f cd A outer s0 H0 E) x)
   (ha:PA (bW (eu P w) P w K mg base N qual scope f cd A outer s0 H0 E).eY (e0::es) t) (Tw:(x == ("__debug__" : Str))=false:=by decide)
   (he:aai (e0::es) (bW (eu P w) P w K mg base N qual scope f cd A outer s0 H0 E).env=(false,eval e0 (bW (eu P w) P w K mg base N qual scope f cd A outer s0 H0 E).env)::aai es (bW (eu P w) P w K mg base N qual scope f cd A outer s0 H0 E).env:=by rfl)
   (S9:(backTo S8 (aai es (bW (eu P w) P w K mg base N qual scope f cd A outer s0 H0 E).env)).any (·.1)=false:=by rfl) :
   PS (bW (eu P w) P w K mg base N qual scope f cd A outer s0 H0 E) (.Raise (some (.Call (.Name x np) (e0::es) [] S8)) none pos) (xf C fn E t):=by
 obtain⟨fI,fd,ps,c,F,hb⟩:=G.ex;exact E2 c F hb hr hg ha Tw he S9
variable {D:Ends}
theorem Iw {f:Str}{E:XK}{t:TA}(h:t Z H λvs H1=>∃ i:Int,vs=[.int i]/\i.natAbs.log2<1900/\∀ d,H1 d=none->E (.ref C) (some d) (upd H1 d (.xd [(f,.int i)]))):xf C f E t D Z H:=h
theorem Pm (h:t Z H λvs H1=>∃ e u,vs=[.ref e,u]/\H1 e=some (XB e C none)/\Q .aC H1):JQ C t Z H Q:=h
theorem pQ (h:tv Z H λu H1=>∃ i,u=.int i/\i.natAbs.log2<1900/\Q (.str (adn++x++aae (toString i))) H1):Kd x tv Z H Q:=h
theorem Rz {K:W.Frag}{ta:TE}{f:Str}(h:tv Z H λy H1=>ta Z H1 λx H2=>∃ a C,x=.ref a/\H2 a=some (XB a C none)/\vU K C f/\∀ d,H2 d=none->D.nx Z (upd (upd H2 d (.xd [(f,y)])) a (XB a C (some d)))):sX K ta tv f D Z H:=h
theorem fb (h1 : -(2 ^ 62)<=i)(h2:i<2 ^ 62):i.natAbs.log2<1900:=by
 have h3:i.natAbs<2 ^ 63:=by omega
 by_cases h0:i.natAbs=0
 . rw[h0];decide
 . have := (Nat.log2_lt h0).mpr h3;omega
theorem M8 (h:tx Z H (λv H2=>D.nx (Z.set i (some v)) H2) Ew):NZ i tx D Ew Z H:=h
theorem KR (h:t Z H λvs H1=>sp vs H1 Q Ew):JW sp t Z H Q Ew:=h
section
variable {prog:Program} {w:World} {A:Around} {E:Value->Shared->Prop} {s:Shared}
theorem El:adM (.type "list_reverseiterator") "__len__" = pure none:=by rw[typeLookup_type,adJ];kernel_rfl
theorem Io:adM (.type "list_reverseiterator") "__length_hint__" = pure (some (.builtin "list_reverseiterator.__length_hint__")):=by rw[typeLookup_type,adJ];kernel_rfl
variable {l:Addr}
theorem Jt (TM:s.heap.IsRevIter it l i)(h:Q false s):wpAny (model prog w) A (Builtin.List.listLengthHint (.ref it)) Q E s:=by
 unfold Builtin.List.listLengthHint;refine aad (adG TM.typeIs El ?_);show wpAny _ _ (specialOf (Tg it) (aae "__length_hint__") >>= _) _ _ _;refine aad (adG TM.typeIs Io ?_);generalize hid:("list_reverseiterator.__length_hint__" : String)=id0
 wp_delta
 rw[show splitId id0=some ("list_reverseiterator","__length_hint__") from by subst hid;nofun];subst hid;refine aad (wpAny_isInstance (T:="list_reverseiterator") (b:=true) TM.typeIs (by rw[isSubtype_type];kernel_rfl) ?_);refine wpAny_ite_split (λhab=>absurd hab (by decide)) (λ_=>?_);refine wpAny_ite_split (λ_=>?_) (λhab=>absurd (by nofun) hab);refine wpAny_ite_split (λhab=>absurd hab (by nofun)) (λ_=>?_);exact aaj h
theorem DH (hh:A.handled=none)(T9:l≠I)(TM:s.heap.IsRevIter I l ((items.size:Int) - 1))(hl:s.heap.IsList l items)(S:Addr)(res:Value)(c₀ : Nat)(hSI:S≠I)(hSl:S≠l)
   (hS:s.heap.get? S=some { cls:=.type "list",data:=.seq #[] c₀ })
   (hR:∀ h' tk UA c',(∀ b o,b≠S->b≠I->s.heap.get? b=some o->h'.get? b=some o)->h'.get? S=some { cls:=.type "list",dict:=none,data:=.seq UA c',slots:=#[] } ->
     ItemsOf (λi v=>items[items.size - 1 - i]? = some v) UA items.size->R (.ok (.ret res)) { s with heap:=h',toks:=tk }) (hn:items.size<=aal) :
   wpAny (model prog w) A.in1 (abJ (.ref S) (.ref I) res)
     (λTd s'=>match Td with | .done f=>R (.ok f) s' | .again c'=>c'.quiet=true/\codeAny (model prog w) A c' R s') (λe s'=>R (.error e) s') s:=by
 have W:=(Walks.listRev (prog:=prog) (w:=w) (A:=A.in1) hh I l T9 items).toS;have hSf:S ∉ [I,l]:=λhm=>by
   rcases List.mem_cons.mp hm with e | e
   . exact hSI e
   . exact hSl (List.mem_singleton.mp e)
 unfold abJ;refine aad (wpAny_typeOf TM.typeIs ?_);have h1:Builtin.List.listSameRef (.ref S) (.ref I)=false:=by simp[Builtin.List.listSameRef,hSI]
 have h2:(acZ "list_reverseiterator" == acZ "list")=false:=by decide
 have h3:(acZ "list_reverseiterator" == acZ "tuple")=false:=by decide
 simp only[h1,h2,h3,adO,ace,if_false];refine aad (wpAny_pyIter_revIter TM ?_);refine aad (aa_ (Jt TM ?_));rw[if_neg (by decide)];refine aaj ⟨plainId_quiet F.plain_extend_loop _,codeAny_extend_loopS W hn _ hSf _ items.size 0 _ _ _ rfl (aaT _) ⟨aaT _,by simpa using TM,hl⟩ hS (ItemsOf.nil _) λs' UA c' hm hS' T6=>?_⟩;rw[Moved.eq_with hm];refine hR s'.heap s'.toks UA c' (λb ob hb UE e=>hm.heap b ob (λhmem=>?_) e) hS' T6;rcases List.mem_cons.mp hmem with e' | hmem
 . exact hb e'
 . exact UE (List.mem_singleton.mp hmem)
theorem yD (hh:A.handled=none)(T9:l≠I)(TM:s.heap.IsRevIter I l ((items.size:Int) - 1))(hl:s.heap.IsList l items)
   (hQ:∀ h' tk UA c',(∀ b o,b≠I->s.heap.get? b=some o->h'.get? b=some o) ->
     h'.get? s.heap.objs.size=some { cls:=.type "list",dict:=none,data:=.seq UA c',slots:=#[] }->ItemsOf (λi v=>items[items.size - 1 - i]? = some v) UA items.size->Q (.ref s.heap.objs.size) { s with heap:=h',toks:=tk }) (hn:items.size<=aal) :
   wpAny (model prog w) A (call (.type "list") [.ref I]) Q E s:=by
 refine callType_codes (Q₁:=λobj s₁=>obj=.ref s.heap.objs.size/\s₁ = { s with heap:=s.heap.push { cls:=.type "list",data:=.seq #[] } }) F.called_list (F.typeCall_list_1 _) F.entry_list_init
   (code_list_new _ ⟨rfl,rfl⟩) λobj s₁ h₁=>?_
 obtain⟨rfl,rfl⟩:=h₁;obtain⟨oi,hoi,_⟩:=id TM;obtain⟨ol,hol,_⟩:=id hl;have hSI:s.heap.objs.size≠I:=λe=>absurd (aam hoi) (by rw[<- e];exact abB _);have hSl:s.heap.objs.size≠l:=λe=>absurd (aam hol) (by rw[<- e];exact abB _);have hS:(s.heap.push { cls:=.type "list",data:=.seq #[] }).get? s.heap.objs.size=some { cls:=.type "list",data:=.seq #[] }:=aat _ rfl;refine⟨⟨_,hS,rfl⟩,F.args_list_init_2 _ _,?_⟩;show wpAny _ _ (do let Va <- Builtin.List.listItems (.ref s.heap.objs.size);Builtin.List.listUpdate (.ref s.heap.objs.size) (λ_=>#[]);letGo Va.toList.reverse;abJ (.ref s.heap.objs.size) (.ref I) .none) _ _ _;refine aad ?_;unfold Builtin.List.listItems;refine aad (ac_ hS rfl (aaj ?_));show wpAny _ _ (updateSeq s.heap.objs.size (λ_=>#[]) >>= λ_=>letGo (#[]:Array Value).toList.reverse >>= λ_=>abJ (.ref s.heap.objs.size) (.ref I) .none) _ _ _;refine aad (wpAny_updateSeq hS rfl ?_);have hS₂:=aa9 (acH (λ_=>(#[]:Array Value))) hS rfl;have WJ:∀ b o,b≠s.heap.objs.size->s.heap.get? b=some o->((s.heap.push { cls:=.type "list",data:=.seq #[] }).update s.heap.objs.size (acH (λ_=>(#[]:Array Value)))).get? b=some o :=
   λb o hb e=>(aaY _ _ (Ne.symm hb)).trans (aaf _ e)
 refine aad (wpAny_letGo ?_);refine DH (A:=A.in1) hh T9 (TM.at λo e=>WJ I o (Ne.symm hSI) e) (hl.at λo e=>WJ l o (Ne.symm hSl) e) _ .none _ hSI hSl hS₂ (λh' tk UA c' hk hS' T6=>?_) hn;exact⟨rfl,hQ h' tk UA c' (λb o hb e=>hk b o (aaw (aam e)) hb (WJ b o (aaw (aam e)) e)) hS' T6⟩
end
def Kz (K:W.Frag)(te:TE):TE:=λZ H Q=>te Z H λx H1=>∃ p ys,x=.ref p/\ar K H1 p ys/\∀ l,H1 l=none->Q (.ref l) (upd H1 l (.lst ys.reverse))
theorem OT {K:W.Frag}{te:TE}{Q:VK}(h:te Z H λx H1=>∃ p ys,x=.ref p/\ar K H1 p ys/\∀ l,H1 l=none->Q (.ref l) (upd H1 l (.lst ys.reverse))):Kz K te Z H Q:=h
theorem NW {K:W.Frag}{p:Addr}{ys:List V}{R:Addr->Hp->Prop}(h:ar K H p ys)(q:∀ l,H l=none->R l (upd H l (.lst ys.reverse))):∃ p' ys,V.ref p=.ref p'/\ar K H p' ys/\∀ l,H l=none->R l (upd H l (.lst ys.reverse)):=⟨p,ys,rfl,h,q⟩
theorem Ad:∀ {ys:List V} {its:List Value},aL ys its->aL ys.reverse its.reverse
 | [],_,.nil=>.nil
 | y :: ys, _, .cons r h => by
   rw[List.reverse_cons,List.reverse_cons];exact(Ad h).append (.cons r .nil)
theorem Hj {its:List Value}{TU:Array Value}(h:ItemsOf (λi v=>its.toArray[its.toArray.size - 1 - i]? = some v) TU its.toArray.size):TU=its.reverse.toArray:=by
 obtain⟨hz,hi⟩:=h;have hz':TU.size=its.length:=by rw[hz];simp
 apply Array.ext
 . simp[hz']
 . intro i h1 h2;have hi1:=hi i TU[i] (Array.getElem?_eq_getElem h1);have hl:i<its.length:=by omega
   have e:its.reverse[i]? = some TU[i]:=by
     rw[adm hl]
     simpa using hi1
   have h3:i<its.reverse.length:=by rw[aa7];exact hl
   rw[aaa h3] at e;injection e with e
   simpa using e.symm
theorem DX:aaW "reversed" = some (.type "reversed"):=by nofun
theorem Lg {K:W.Frag}{e:Expr}{te:TE}{p1 p2 pos1 pos2:Pos}(hK:X.K=K)(hc:X.calm=true)(hg1:Gl X "list")(UC:X.mg "list" = none)(hg2:Gl X "reversed")(T_:X.mg "reversed" = none)(he:PE X e te)
   (hs1:aai [Expr.Call (.Name "reversed" p2) [e] [] pos2] X.env=[(false,eval (Expr.Call (.Name "reversed" p2) [e] [] pos2) X.env)]:=by rfl) (Ut:aai [e] X.env=[(false,eval e X.env)]:=by rfl) :
   PE X (.Call (.Name "list" p1) [.Call (.Name "reversed" p2) [e] [] pos2] [] pos1) (Kz K te):=by
 subst hK;intro gV s Z H Q I h;refine abf (iM I hg1 UC Bc ?_);refine aa8 ?_ hs1 rfl;rw[hs1];show wpAny _ _ (spliced [(false,eval (Expr.Call (.Name "reversed" p2) [e] [] pos2) X.env)]) _ _ s;refine adL ?_;refine abf (iM I hg2 T_ DX ?_);refine aa8 ?_ Ut rfl;rw[Ut];show wpAny _ _ (spliced [(false,eval e X.env)]) _ _ s;refine adL (aR (he gV s Z H _ I h) λu s1 zq=>?_);obtain⟨x,H1,I1,r1,p,ys,ex,hq,q1⟩:=zq;subst ex;cases (show u=Tg p from r1)
 refine Calls.spliced_nil ?_;obtain⟨its,rv,pl,hz⟩:=I1.list hq;have S7:=rv.length;have hil:=pl.isList;refine call_reversed_list hil ?_;refine Calls.spliced_nil ?_;obtain⟨ol,hol,_⟩:=id hil;have T9:p≠s1.heap.objs.size:=aaw (aam hol);refine yD (I:=s1.heap.objs.size) (l:=p) (items:=its.toArray) (I1.ok.hd hc) T9 ⟨_,aat _ rfl,rfl,rfl⟩ (hil.at λo e=>aaf _ e) (λh' tk UA c' kp hS T6=>?_) (by rw[aao,<- S7];exact hz);have ea:=Hj T6;subst ea;have V1:s1.heap.objs.size<=(s1.heap.push (revObj p ((its.toArray.size:Int) - 1))).objs.size:=by rw[abP];exact abm _
 refine⟨.ref _,upd H1 (s1.heap.push (revObj p ((its.toArray.size:Int) - 1))).objs.size (.lst ys.reverse),I1.laid (t':=tk) (λb u eb=>kp b u (aaw (aam eb)) (aaf _ eb)) V1 ?_,rfl,q1 _ (I1.aA.fresh V1)⟩;exact⟨by rw[aa7];exact hz,its.reverse,c',Ad rv,hS⟩
def Ef (K:W.Frag)(a b:Addr):It :=
 ⟨λi H=>∃ xs ys x y,ar K H a xs/\ar K H b ys/\xs[i]? = some x/\ys[i]? = some y,
  λi H v H'=>∃ T x y,v=.ref T/\H T=none/\H'=upd H T (.tup [x,y])/\∀ xs ys,ar K H a xs->ar K H b ys->xs[i]? = some x/\ys[i]? = some y,
  λi H=>∃ xs ys,ar K H a xs/\ar K H b ys/\(xs.length<=i∨ys.length<=i)⟩
def J_ (K:W.Frag)(ta:TA):TI:=λZ H R=>ta Z H λvs H1=>∃ a b xs ys,vs=[.ref a,.ref b]/\ar K H1 a xs/\ar K H1 b ys/\R (Ef K a b) H1
theorem MT {K:W.Frag}{ta:TA}{Z : St}{R:It->Hp->Prop}(q:ta Z H λvs H1=>∃ a b xs ys,vs=[.ref a,.ref b]/\ar K H1 a xs/\ar K H1 b ys/\R (Ef K a b) H1):J_ K ta Z H R:=q
section
variable {X:Cx} {gV:List (Addr×Obj)} {Z : L2.St} {C fI:Addr}
def G1 (tb:TB)(C:Addr)(th:TS):TS:=λD Z H=>tb D (λc od H2=>c=.ref C/\∃ d,od=some d/\th { nx:=λZ' H'=>D.nx Z' H',rt:=λv H'=>D.rt v H' } Z H2) Z H
theorem HV {body:List Stmt}{tb:TB}{x:Str}{np U6 pos:Pos}{b0:Stmt}{VA:List Stmt}{th:TS}(Tj:X.stack=X.env::X.outer)(UL:X.env.frame=some X.env.locals)(hc:X.calm=true)
   (hb:QY X body tb) (c:k7 X.K X.mg x C fI) (hg:Gl X x) (hs:∀ ea,gj (Cx.sup X ea []) (b0::VA) th) (Tw:(x == ("__debug__" : Str))=false:=by decide) :
   PS X (.Try body [.ExceptHandler (some (.Name x np)) none (b0::VA) U6] [] [] pos) (G1 tb C th):=by
 intro gV s Z H D I0 h;refine wpAny_Try_except (aaH (hb gV s Z H D _ I0 h) (λf s1 q=>?_) λex s' q=>?_)
 . cases f with
   | next=>exact abK q
   | brk=>exact q
   | cont=>exact q
   | ret u=>exact q
 obtain⟨ea,C',od,H1,s1,H',rfl,I,⟨os,bare,fr,hz,h0,l,u,aA,hl,fl,up⟩,ec,d,ed,q⟩:=q;cases ec
 subst ed;have hh:X.calm=true->X.A.handled=none:=I.ok.hd;have fl':gY (acm h0 l) (X.env::X.outer) ea (.ref C) (some d) .none s'.heap:=by rw[<- Tj];exact fl
 refine JN (by rw[<- Tj];exact I.ok.frames) UL fl' λh4 WH up4=>?_;refine qB WH λh5 fl5 up5=>?_;have I5:Inv X gV Z H' { s' with heap:=h5 }:=kO I os bare u aA hl fl5.1 ((up.trans up4).trans up5);obtain⟨oe,vs,T,oT,ts,Ug,hoec,hoedd,hoed,_⟩:=fl5.2.2.2;refine wpAny_handleBy_cons (codeAny_handlers_test (eS (X:=Cx.sup X ea []) (Inv.sup I5 (λp hp=>nomatch hp)) hg c.glob ?_ Tw)) (by intro z;cases z);obtain⟨bm,N',nm,qn,bs,hd,sn,sub,ab,col,dd,k0,k1,k2,k3,k5,mN,o,hC,hNs,hni,TL,hf,hfc⟩:=c.obj I5.df;refine wpAny_excMatches_sub_self hC Ug hoec (TL.hasType (by nofun)) (codeAny_handlers_suite ?_);refine qB fl5 λh6 fl6 up6=>?_;have I6:Inv (Cx.sup X ea []) gV Z H' { s' with heap:=h6 }:=Inv.sup (kO I os bare u aA hl fl6.1 (((up.trans up4).trans up5).trans up6)) λp hp=>nomatch hp;refine aaH (hs ea gV _ Z H' _ I6 q) (λf s8 q8=>?_) λ_ _ z=>z.elim;cases f with
 | next =>
   obtain⟨Z',H'',I8,q9⟩:=q8;exact⟨Z',H'',Inv.u_ I8 hh,q9⟩
 | brk=>obtain⟨_,_,_,z⟩:=q8;exact z.elim
 | cont=>obtain⟨_,_,_,z⟩:=q8;exact z.elim
 | ret v =>
   obtain⟨v',Z',H'',I8,r8,q9⟩:=q8;exact⟨v',Z',H'',Inv.u_ I8 hh,r8,q9⟩
theorem LV (h:tb D (λc od H2=>c=.ref C/\∃ d,od=some d/\th { nx:=λZ' H'=>D.nx Z' H',rt:=λv H'=>D.rt v H' } Z H2) Z H):G1 tb C th D Z H:=h
end
theorem SS (a v:Value):checkTypeCall "enumerate" ⟨[a],[("start",v)]⟩=pure ():=by kernel_rfl
theorem Sf (a v:Value):checkBuiltinCall "enumerate.__new__" ⟨[.type "enumerate",a],[("start",v)]⟩=pure ():=by kernel_rfl
theorem SJ (obj a v:Value):argsOk "object.__init__" ⟨[obj,a],[("start",v)]⟩:=by
 unfold argsOk;rw[signature?_of (id:="object.__init__") (n:=['_','_','t','i','n','i','_','_']) (o:=['t','c','e','j','b','o']) (by kernel_rfl) F.owner_object];kernel_rfl
set_option maxHeartbeats 1000000 in
theorem RG (l:Addr)(items:Array Value)(n:Nat)(dct:Option Addr)(sl:Array (Option Value))(k:Int)(t:Tok)(hk:Builtin.SmallTypes.fitsIndex k=true) :
   Meets (Builtin.«enumerate.__new__» ⟨[.type "enumerate",.ref l],[("start",.int k t)]⟩) (λ_ R s=>s.heap.get? l=some { cls:=.type "list",dict:=dct,data:=.seq items n,slots:=sl } /\
     R (.ok (.ret (.ref (s.heap.push { cls:=.type "list_iterator",data:=.fields #[.ref l,.int 0 0] }).objs.size)))
       { s with heap:=(s.heap.push { cls:=.type "list_iterator",data:=.fields #[.ref l,.int 0 0] }).push { cls:=.type "enumerate",data:=.fields #[.none,.bool false,.ref s.heap.objs.size,rawInt k,.none,.none] } }) :=
 .of_wp λprog w A R s h=>by
   obtain⟨hp,g,d,tk,os⟩:=s;obtain⟨hl,h⟩:=h;have hsub:=sub_enumerate;have hL:Heap.IsList (Shared.heap ⟨hp,g,d,tk,os⟩) l items:=⟨_,hl,rfl,n,rfl⟩
   have hk' : ¬ ((!Builtin.SmallTypes.fitsIndex k)=true):=by rw[hk];decide
   wp_walk using ab2 hl
   refine wpAny_stack_any λst=>aaj ?_;split
   . rename_i c _ _ _ _ _;cases (c == acZ "enumerate")
     . wp_walk using ab2 hl,abL hL
       exact⟨_,rfl,h⟩
     . wp_walk using ab2 hl,abL hL
       exact⟨_,rfl,h⟩
   . wp_walk using ab2 hl,abL hL
     exact⟨_,rfl,h⟩
theorem QH:Meets (Builtin.«object.__init__» ⟨[self,a],[("start",v)]⟩) (λ_ R s=>s.TypeIs self "enumerate"/\R (.ok (.ret .none)) s):=by
 have hl:=F.called_enumerate.init.lookup;have hm:=F.called_enumerate.made;have T9:(some "enumerate.__new__" != some "object.__new__")=true:=by decide
 refine Meets.of_wp λprog w A R s hs=>?_;obtain⟨hT,hq⟩:=hs;repeat (any_goals (first | assumption | wp_step))
 exact⟨_,rfl,hq⟩
section
variable {prog:Program} {w:World} {A:Around} {E:Value->Shared->Prop} {s:Shared}
variable {l:Addr}
theorem P1 (hk:Builtin.SmallTypes.fitsIndex k=true)(hL:s.heap.IsList l items)
   (h:∀ h',IsEnum h' (s.heap.objs.size+1) s.heap.objs.size k .none->h'.IsListIter s.heap.objs.size l 0->(∀ b o,s.heap.get? b=some o->h'.get? b=some o)->Q (.ref (s.heap.objs.size+1)) { s with heap:=h' }) :
   wpAny (model prog w) A (call (.type "enumerate") [.ref l] [("start",.int k t)]) Q E s:=by
 obtain⟨⟨c0,dct,dt,sl⟩,hl,V3,n,hd0⟩:=hL
 replace V3:c0=.type "list":=V3
 replace hd0:dt=.seq items n:=hd0
 subst V3 hd0;have ft:=F.called_enumerate;obtain⟨c,tl,VR⟩:=ft.mro;have hmade:=ft.made;have hsub:=ft.sub;have hct:=SS (.ref l) (.int k t);refine acP (codeAny_of_tree ?_);show wpAny _ _ (callAny (.type "enumerate") _) _ _ _;refine aaj ⟨adQ _ (by nofun),codeAny_builtin F.entry_type_call ?_⟩;rw[Around.under_plain (weight_type_call_type "enumerate" [.ref l] [("start",.int k t)]) (units_type_call_type "enumerate" [.ref l] [("start",.int k t)])];have h1:=ft.notType;have h2:=ft.canCreate;repeat (any_goals (first | assumption | wp_step))
 have hz:(s.heap.push { cls:=.type "list_iterator",data:=.fields #[.ref l,.int 0 0] }).objs.size=s.heap.objs.size+1:=abP ..
 refine ab0 (acO ft.plain F.entry_enumerate_new (wpAny_of_eq (Sf _ _) (RG l items n dct sl k t hk prog w A.in1 (wants (λobj s₁=>obj=.ref (s.heap.push { cls:=.type "list_iterator",data:=.fields #[.ref l,.int 0 0] }).objs.size /\
   s₁ = { s with heap:=(s.heap.push { cls:=.type "list_iterator",data:=.fields #[.ref l,.int 0 0] }).push { cls:=.type "enumerate",data:=.fields #[.none,.bool false,.ref s.heap.objs.size,rawInt k,.none,.none] } }) E) s ⟨hl,rfl,rfl⟩))) λr s₁ hr=>?_
 cases r with
 | error e=>exact hr
 | ok fl =>
   cases fl with
   | ret obj =>
     obtain⟨eo,es⟩:=hr;rw[hz] at eo;subst eo es
     have he : IsEnum ((s.heap.push { cls := .type "list_iterator", data := .fields #[.ref l, .int 0 0] }).push
         { cls:=.type "enumerate",data:=.fields #[.none,.bool false,.ref s.heap.objs.size,rawInt k,.none,.none] }) (s.heap.objs.size+1) s.heap.objs.size k .none:=by
       have := aat (s.heap.push { cls := .type "list_iterator", data := .fields #[.ref l, .int 0 0] })
         (o:={ cls:=.type "enumerate",data:=.fields #[.none,.bool false,.ref s.heap.objs.size,rawInt k,.none,.none] }) rfl
       rw[hz] at this;exact this
     have hT:Shared.TypeIs { s with heap:=(s.heap.push { cls:=.type "list_iterator",data:=.fields #[.ref l,.int 0 0] }).push { cls:=.type "enumerate",data:=.fields #[.none,.bool false,.ref s.heap.objs.size,rawInt k,.none,.none] } } (.ref (s.heap.objs.size+1)) "enumerate":=⟨_,he,rfl⟩
     have hq:=h _ he ⟨_,aaf _ (aat _ rfl),rfl,rfl⟩ λb o x=>aaf _ (aaf _ x);have hli:=ft.init.lookup;have hbi:=ft.init.bind (.ref (s.heap.objs.size+1));repeat (any_goals (first | assumption | wp_step))
     refine ab0 (acO ft.init.plain F.entry_object_init (ft.init.check _ _ _ _ _ _ _ _ hT (SJ _ _ _) (QH prog w A.in1 (wants (λr s₂=>r=.none/\Q (.ref (s.heap.objs.size+1)) s₂) E) _ ⟨hT,rfl,hq⟩))) λr₂ s₂ hr₂=>?_;cases r₂ with
     | error e=>exact hr₂
     | ok fl₂ =>
       cases fl₂ with
       | ret r =>
         obtain⟨rfl,hq⟩:=hr₂;repeat (any_goals (first | assumption | wp_step))
       | _=>exact hr₂.elim
   | _=>exact hr.elim
end
variable {A:Around}
theorem B_ {prog:Program}{w:World}{it:Addr}{fp:List Addr}{n:Nat}{P:Nat->Value->Prop}{St:Nat->Heap->Prop}(D:Draws prog w A it fp n P St) :
   Draws prog w A it fp (n+1) (λi v=>match i with | 0=>False | j+1=>P j v) (λi h=>match i with | 0=>False | j+1=>St j h) where
 live:=λi h st=>match i,st with | j+1,st=>D.live j h st
 frame:=λi h h' st k=>match i,st with | j+1,st=>D.frame j h h' st k
 item:=λi s Q E hi st hQ=>match i,hi,st,hQ with | j+1,hi,st,hQ=>D.item j s Q E (by omega) st hQ
 done:=λs Q E st hE=>D.done s Q E st hE
def Kq (K:W.Frag)(a:Addr):It :=
 ⟨λi H=>∃ xs x,ar K H a xs/\xs[i]? = some x,
  λi H v H'=>∃ T x,v=.ref T/\H T=none/\H'=upd H T (.tup [.int ((i:Int)+1),x])/\∀ xs,ar K H a xs->xs[i]? = some x,
  λi H=>∃ xs,ar K H a xs/\xs.length<=i⟩
theorem G_ {P:Program}{w:World}{K:W.Frag}{es:List Expr}{n:Nat}{pos:Pos}{a it:Addr}(n1:e≠it)(n2:e≠a)(n3:a≠it) :
   Turn P w K (.Tuple es n pos) (Kq K a) [e,it] e (λi h=>(∃ Va,IsEnum h e it ((i:Int)+1) Va)/\h.IsListIter it a i) where
 mem:=by simp
 obj:=λi h st c hc=>by
   obtain⟨⟨Va,he⟩,⟨o1,e1,_,d1⟩⟩:=st;have hc:c=e∨c=it:=by simpa using hc
   rcases hc with rfl | rfl
   . exact⟨_,he,λv z=>by cases z⟩
   . exact⟨_,e1,λv z=>by rw[d1] at z;cases z⟩
 keep:=λi h h' st k=>by
   obtain⟨⟨Va,he⟩,h1⟩:=st;exact⟨⟨Va,k e (by simp) _ he⟩,h1.at λo z=>k it (by simp) o z⟩
 item:=by
   intro X hP hw hK hc i gV s Z H E I hf st hg;subst hP hw hK;obtain⟨⟨Va,he⟩,h1⟩:=st;obtain⟨xs,x,Vf,hx⟩:=hg;obtain⟨Vn,rv1,p1,_⟩:=I.list Vf;obtain⟨u,hu,ru⟩:=rv1.get hx;have Tb:i<Vn.length:=(List.getElem?_eq_some_iff.mp hu).1;refine wpAny_pyNext_enum_itemD (i:=i+1) (B_ (Draws.list (A:=X.A.in1) (show X.A.in1.handled=none from I.ok.hd hc) it a n3 Vn.toArray)) (by simpa using he) ⟨h1,p1.isList⟩ (by simpa using Tb) n1 (by simp[n1,n2]) λu' h' tk hu' ho Tj ht hz kk=>?_;have e1:u'=u:=by
     have hu'':Vn.toArray[i]? = some u':=hu'
     simpa [hu] using hu''.symm
   subst e1;refine⟨_,rfl,wpAny_letOwnedTupleGo_enum ho λh2' he2 s2=>?_⟩;have T0:H s.heap.objs.size=none:=I.aA.fresh (aag _);have te:s.heap.objs.size≠e:=abU (aam he);have J:Inv X gV Z (upd H s.heap.objs.size (.tup [.int ((i:Int)+1),x])) { s with heap:=h2' }:=by
     refine xv (ch:=[e,it]) I hf (aag _) (λc o hc z=>?_) (λc hc=>?_) ?_
     . have c1 : c ≠ e := λq => hc (by simp[q]);exact s2.extBut _ _ c1 (kk c o c1 (λq=>hc (by simp[q])) z)
     . have hc : c = e ∨ c = it := by simpa using hc
       rcases hc with rfl | rfl
       . exact⟨_,he2⟩
       . obtain⟨o,z,_⟩:=Tj.1;exact⟨o,s2.extBut _ _ n1.symm z⟩
     . exact⟨by show 2<=aal;decide,[.int ((i:Int)+1) tk,u'],.cons ⟨_,rfl⟩ (.cons ru .nil),⟨_,s2.extBut _ _ te (by simpa using ht),rfl,_,rfl⟩⟩
   refine⟨.ref s.heap.objs.size,_,J.tok _,rfl,⟨_,x,rfl,T0,rfl,λxs' q1=>by rw[I.sN q1 Vf];exact hx⟩,⟨⟨_,by simpa using he2⟩,Tj.1.at λo z=>s2.extBut _ _ n1.symm z⟩,λc hc=>?_⟩;have Tb:c<s.heap.objs.size:=by
     have hc:c=e∨c=it:=by simpa using hc
     rcases hc with z | z <;> rw[z]
     . exact aam he
     . obtain⟨o,z,_⟩:=h1;exact aam z
   rw[ak (aaw Tb)];exact(hf c hc).1
 done:=by
   intro X hP hw hK hc i gV s Z H E I hf st hg;subst hP hw hK;obtain⟨⟨Va,he⟩,h1⟩:=st;obtain⟨xs,Vf,hl⟩:=hg;obtain⟨Vn,rv1,p1,_⟩:=I.list Vf;have l1:=rv1.length;have hge:Vn.length<=i:=by omega
   have D:Draws X.prog X.w X.A.in1 it [it,a] 0 (λ_ _=>False) (λ_ h=>h.IsListIter it a i/\h.IsList a Vn.toArray) :=
     ⟨λ_ _ st => let ⟨o, ho, _⟩ := st.1; ⟨o, ho⟩, λ_ _ _ st hk => ⟨st.1.at λo z => hk it (by simp) o z, st.2.at λo z => hk a (by simp) o z⟩, λj s Q E hj => absurd hj (acg _),
       λs Q E st hE=>wpAny_nextOf_list_end (show X.A.in1.handled=none from I.ok.hd hc) st.1 st.2 (by simp;omega) hE⟩
   refine wpAny_pyNext_enum_endD D he ⟨h1,p1.isList⟩ λh' hx=>⟨rfl,?_⟩;have hnc:∀ c o,c ∉ [e,it]->s.heap.get? c=some o->h'.get? c=some o:=λc o hc z=>hx c o (λq=>hc (by simp[q])) z;refine I.uz (s':={ s with heap:=h' }) (ch:=[e,it]) rfl ⟨λb o z _ _ hc=>hnc b o hc z,λb o z _ _ hc=>⟨o.slots,hnc b o hc z⟩,λb o z n _=>n,λb o z hc=>⟨o,hnc b o hc z⟩,λ_ _ z=>z,λ_ _ _ z=>z,λb ps z=>⟨#[],by rw[z];simp⟩⟩ (λb u z=>?_) I.bare ?_
   . have nc : ∀ b u, H b = some u -> b ∉ [e, it] := λb u z hb => by rw [(hf b hb).1] at z; cases z
     refine(I.aA b u z).iV (λc v hc q=>hnc c v ?_ q) (λ_ q=>q) λ_ _ q=>q;rcases hc with q | q
     . rw[q];exact nc b u z
     . exact nc c _ q
   . intro b hb;obtain⟨f0,f1,f2,f3,f4,f5⟩:=hf b hb;exact⟨f3,f1,f4,f5⟩
 self:=λ_ _ _ _ _ st h=>by
   obtain⟨⟨Va,he⟩,_⟩:=st;exact wpAny_pyIter_enum he h
section
variable {M:Model} {A:Around} {E:Value->Shared->Prop} {s:Shared}
theorem yk {pos:Pos} 
   (Tp:args.any (·.1)=false) (hkw:keywords.any (·.1.isNone)=false)
   (h:wpAny M A (evalArgs (.type T) true args keywords) (λa s₁=>wpAny M A (call (.type T) (first++a.pos) a.kw) Q E s₁) E s):wpAny M A (ac2 pos (.type T) first args keywords) Q E s:=by
 unfold ac2;refine aad (aa_ (aaH h (λa s₁ h₁=>aad (acs ?_)) λ_ _ x=>x));simp only[Tp,hkw,adO];refine aad (aaj ?_);exact aad (aaH h₁ (λr s₂ hr=>aad (aa_ (wpAny_point (aaj hr)))) λ_ _ x=>x)
end
theorem Cp:aaW "enumerate" = some (.type "enumerate"):=by nofun
def Kp (K:W.Frag)(ta:TA)(tv:TE):TI:=λZ H R=>ta Z H λvs H1=>tv Z H1 λv H2=>∃ a xs,vs=[.ref a]/\v=.int 1/\ar K H2 a xs/\R (Kq K a) H2
theorem Mg {K:W.Frag}{es:List Expr}{n:Nat}{T4:Pos}{a v:Expr}{ta:TA}{p pos kp:Pos}(hK:X.K=K)(hg:Gl X "enumerate")(hm:X.mg "enumerate" = none)(ha:PA X [a] ta)(hv:PE X v tv)
   (he:backTo pos (aai [a] X.env)=[(false,eval a X.env)]:=by rfl) :
   PI X (.Tuple es n T4) (.Call (.Name "enumerate" p) [a] [⟨some "start",v,kp⟩] pos) (Kp K ta tv):=by
 subst hK;intro gV s Z H R I h;refine abf (iM I hg hm Cp ?_);refine yk (by rw[he];rfl) rfl ?_;have Ua:=ha pos gV s Z H _ I h;rw[he] at Ua ⊢;refine evalArgs_kwB rfl (aR Ua λus s1 zq=>bR zq λvs H1 I1 r1 q1=>?_);refine kws_cons (aR (hv gV s1 Z H1 _ I1 q1) λu s2 zq=>bR zq λy H2 I2 ry q2=>kws_nil ?_);obtain⟨l,xs,e1,e2,hx,q⟩:=q2;subst e1 e2;obtain⟨t,rfl⟩:=ry;cases r1 with
 | cons r rr =>
   cases rr
   cases r
   obtain⟨Vn,rv1,p1,_⟩:=I2.list hx;have lx:l<s2.heap.objs.size:=(by obtain⟨o,n,e,_⟩:=p1;exact aam e)
   refine P1 (by decide) (p1.isList) λh' z1 z2 kk=>?_;refine wpAny_pyIter_enum z1 ⟨_,[s2.heap.objs.size+1,s2.heap.objs.size],_,_,H2,rfl,I2.kept (t':=s2.toks) kk,G_ (Nat.succ_ne_self _) (abU (acu lx)) (aaw lx),⟨⟨_,by simpa using z1⟩,z2⟩,λc hc=>?_,q⟩;have hc:c=s2.heap.objs.size+1∨c=s2.heap.objs.size:=by simpa using hc
   have hge:s2.heap.objs.size<=c:=by rcases hc with e | e <;> rw[e] <;> first | exact abm _ | exact aag _
   exact I2.ua hge (I2.aA.fresh hge)
theorem Nl {K:W.Frag}{ta:TA}{R:It->Hp->Prop}(q:ta Z H λvs H1=>tv Z H1 λv H2=>∃ a xs,vs=[.ref a]/\v=.int 1/\ar K H2 a xs/\R (Kq K a) H2):Kp K ta tv Z H R:=q
def Dz (K:W.Frag):List V->Hp->VK->Prop:=λxs H Q=>∃ (p:Addr) (ns:List Int),xs=[.ref p]/\ar K H p (ns.map V.int)/\Q (.bl (ns.all λn=>n != 0)) H
theorem EI (ns:List Int):(ab_ ns.length).all (λi=>ns.getD i 0 != 0)=ns.all λn=>n != 0:=by
 induction ns with
 | nil=>rfl
 | cons b r ih =>
   rw[aaG,List.range_succ_eq_map,acF,acF,List.all_map,<- ih];rfl
theorem Ft (hc:X.calm=true):cW X (.builtin "all") (Dz X.K):=by
 intro gV s Z H xs us Q I r h;obtain⟨p,bs,rfl,hq,q⟩:=h;obtain⟨u,rfl,rx⟩:=vals1 r;cases rx
 obtain⟨its,rv,pl,hz⟩:=I.list hq;have S7:=rv.length;rw[aac] at S7;have Tb:p<s.heap.objs.size:=by obtain⟨o,e,_⟩:=pl.isList;exact aam e
 refine call_all_walk (abL pl.isList ?_);refine⟨s.heap.objs.size,_,_,_,_,_,λi=>bs.getD i 0 != 0,rfl,Walks.list (by exact I.ok.hd hc) s.heap.objs.size p (aaw Tb) its.toArray,⟨⟨_,aat _ rfl,rfl,rfl⟩,pl.isList.push _⟩,?_,?_⟩
 . intro i v s' Q' E' hP hQ';have hP':its[i]? = some v:=by simpa using hP
   have hi:i<its.length:=(List.getElem?_eq_some_iff.mp hP').1;have hb:(bs.map V.int)[i]? = some (V.int (bs.getD i 0)):=by
     rw[aah,aaa (by omega)];simp[List.getD,aaa (show i<bs.length by omega)]
   obtain⟨u',hu',ru'⟩:=rv.get hb;rw[hP'] at hu';cases hu'
   obtain⟨t,rfl⟩:=(show ∃ t,v=abt _ t from ru')
   exact PySem.P.truthy_int hQ'
 . intro h' tk kk;have e:(ab_ its.toArray.size).all (λi=>bs.getD i 0 != 0)=bs.all λn=>n != 0:=by
     rw[aao,<- S7];exact EI bs
   rw[e];refine⟨.bl _,H,?_,rfl,q⟩;have I1:Inv X gV Z H { s with heap:=s.heap.push { cls:=.type "list_iterator",data:=.fields #[.ref p,.int 0 0] } }:=I.kept (t':=s.toks) λb o e=>aaf _ e;have f:=I.ua (H':=H) (aag _) I.fresh;exact I1.turned (it:=s.heap.objs.size) (h':=h') (t':=tk) (λb o hb e=>kk b o (by simpa using hb) e) f.1 f.2.1 f.2.2.2.1 f.2.2.2.2.1 f.2.2.2.2.2
theorem Eo {K:W.Frag}(h:X.K=K)(hc:X.calm=true):cW X (.builtin "all") (Dz K):=by subst h;exact Ft hc
theorem Np {K:W.Frag}{p:Addr}{ns:List Int}{Q:VK}(h:ar K H p (ns.map V.int))(q:Q (.bl (ns.all λn=>n != 0)) H):Dz K [.ref p] H Q:=⟨p,ns,rfl,h,q⟩
def Ia (K:W.Frag):List V->Hp->VK->Prop:=λxs H Q=>∃ (p:Addr) (bs:List Bool),xs=[.ref p]/\ar K H p (bs.map V.bl)/\Q (.bl (bs.any id)) H
theorem any_range (bs:List Bool):(ab_ bs.length).any (λi=>bs.getD i false)=bs.any id:=by
 induction bs with
 | nil=>rfl
 | cons b r ih =>
   rw[aaG,List.range_succ_eq_map,abA,abA,List.any_map,<- ih];rfl
theorem GF (hc:X.calm=true):cW X (.builtin "any") (Ia X.K):=by
 intro gV s Z H xs us Q I r h;obtain⟨p,bs,rfl,hq,q⟩:=h;obtain⟨u,rfl,rx⟩:=vals1 r;cases rx
 obtain⟨its,rv,pl,hz⟩:=I.list hq;have S7:=rv.length;rw[aac] at S7;have Tb:p<s.heap.objs.size:=by obtain⟨o,e,_⟩:=pl.isList;exact aam e
 refine call_any_walk (abL pl.isList ?_);refine⟨s.heap.objs.size,_,_,_,_,_,λi=>bs.getD i false,rfl,Walks.list (by exact I.ok.hd hc) s.heap.objs.size p (aaw Tb) its.toArray,⟨⟨_,aat _ rfl,rfl,rfl⟩,pl.isList.push _⟩,?_,?_⟩
 . intro i v s' Q' E' hP hQ';have hP':its[i]? = some v:=by simpa using hP
   have hi:i<its.length:=(List.getElem?_eq_some_iff.mp hP').1;have hb:(bs.map V.bl)[i]? = some (V.bl (bs.getD i false)):=by
     rw[aah,aaa (by omega)];simp[List.getD,aaa (show i<bs.length by omega)]
   obtain⟨u',hu',ru'⟩:=rv.get hb;rw[hP'] at hu';cases hu'
   cases (show v=adi _ from ru')
   exact abj hQ'
 . intro h' tk kk;have e:(ab_ its.toArray.size).any (λi=>bs.getD i false)=bs.any id:=by
     rw[aao,<- S7];exact any_range bs
   rw[e];refine⟨.bl _,H,?_,rfl,q⟩;have I1:Inv X gV Z H { s with heap:=s.heap.push { cls:=.type "list_iterator",data:=.fields #[.ref p,.int 0 0] } }:=I.kept (t':=s.toks) λb o e=>aaf _ e;have f:=I.ua (H':=H) (aag _) I.fresh;exact I1.turned (it:=s.heap.objs.size) (h':=h') (t':=tk) (λb o hb e=>kk b o (by simpa using hb) e) f.1 f.2.1 f.2.2.2.1 f.2.2.2.2.1 f.2.2.2.2.2
theorem FL {K:W.Frag}(h:X.K=K)(hc:X.calm=true):cW X (.builtin "any") (Ia K):=by subst h;exact GF hc
theorem Mx {K:W.Frag}{p:Addr}{bs:List Bool}{Q:VK}(h:ar K H p (bs.map V.bl))(q:Q (.bl (bs.any id)) H):Ia K [.ref p] H Q:=⟨p,bs,rfl,h,q⟩
def mB (K:W.Frag):R2:=λx y H Q=>∃ p q xs ys,x=.ref p/\y=.ref q/\ar K H p xs/\ar K H q ys/\xs.length≠ys.length/\Q (.bl true) H
theorem HJ (hu:X.A.units+64<cLine):bQ X (aaU .NotEq) (mB X.K):=by
 intro gV s Z H x y v u Q I rx ry h;obtain⟨p,q,xs,ys,rfl,rfl,h1,h2,hn,k⟩:=h;cases rx;cases ry
 obtain⟨its,r1,pl1,_⟩:=I.list h1;obtain⟨jts,r2,pl2,_⟩:=I.list h2;have l1:=r1.length;have l2:=r2.length;refine RcNeAt.lists_lengths pl1.isList pl2.isList ?_ (by omega) _ _ _ _ ⟨.bl true,H,I,rfl,k⟩;simp only[aao,bne_iff_ne];omega
theorem Dj {K:W.Frag}(h:X.K=K)(hu:X.A.units+64<cLine):bQ X (aaU .NotEq) (λx y H Q=>gG K x y H Q∨mB K x y H Q):=by subst h;exact(Fw hu).or (HJ hu)
section
variable {X:Cx} {C:Addr}
def JF (tb:TB)(C:Addr)(th:TS):TS:=λD Z H=>tb D (λc _ H2=>c=.ref C/\th { nx:=λZ' H'=>D.nx Z' H',rt:=λ_ _=>False } Z H2) Z H
theorem Lh {x:Str}{np U6 pos:Pos}(Tj:X.stack=X.env::X.outer)(UL:X.env.frame=some X.env.locals)(hc:X.calm=true)
   (hb:PB X body tb) (c:Ae X.K X.mg x C) (hg:Gl X x) (hs:∀ ea,gj (Cx.sup X ea []) (b0::VA) th) (Tw:(x == ("__debug__" : Str))=false:=by decide) :
   PS X (.Try body [.ExceptHandler (some (.Name x np)) none (b0::VA) U6] [] [] pos) (JF tb C th):=by
 intro gV s Z H D I0 h;refine wpAny_Try_except (aaH (hb gV s Z H D _ I0 h) (λf s1 q=>?_) λex s' q=>?_)
 . cases f with
   | next=>exact abK q
   | brk=>exact q
   | cont=>exact q
   | ret u=>exact q
 obtain⟨ea,C',H1,s1,H',rfl,I,⟨os,bare,h0,l,a0,u,aA,hl,hnew,fl,up⟩,ec,q⟩:=q;cases ec
 have hh:X.calm=true->X.A.handled=none:=I.ok.hd;have fl':Heap.FlyingW (acm h0 l) (X.env::X.outer) ea (.ref C) a0 s'.heap:=by rw[<- Tj];exact fl
 refine wpAny_looks_onW (by rw[<- Tj];exact I.ok.frames) UL fl' λh4 WH up4=>?_;refine wpAny_landsW WH λh5 fl5 up5=>?_;have I5:Inv X gV Z H' { s' with heap:=h5 }:=kO I os bare u aA hl fl5.1 ((up.trans up4).trans up5);obtain⟨oe,Ug,hoec⟩:=fl5.there;refine wpAny_handleBy_cons (codeAny_handlers_test (eS (X:=Cx.sup X ea []) (Inv.sup I5 (λp hp=>nomatch hp)) hg c.glob ?_ Tw)) (by intro z;cases z);obtain⟨bm,N',nm,qn,bs,hd,sn,sub,ab,col,dd,k0,k1,k2,k3,k5,mN,hC,hNs,hni,TL⟩:=c.obj I5.df;refine wpAny_excMatches_sub_self hC Ug hoec (TL.hasType (by nofun)) (codeAny_handlers_suite ?_);refine lands_againW fl5 λh6 fl6 up6=>?_;have I6:Inv (Cx.sup X ea []) gV Z H' { s' with heap:=h6 }:=Inv.sup (kO I os bare u aA hl fl6.1 (((up.trans up4).trans up5).trans up6)) λp hp=>nomatch hp;refine aaH (hs ea gV _ Z H' _ I6 q) (λf s8 q8=>?_) λ_ _ z=>z.elim;cases f with
 | next =>
   obtain⟨Z',H'',I8,q9⟩:=q8;exact⟨Z',H'',Inv.u_ I8 hh,q9⟩
 | brk=>obtain⟨_,_,_,z⟩:=q8;exact z.elim
 | cont=>obtain⟨_,_,_,z⟩:=q8;exact z.elim
 | ret v=>obtain⟨_,_,_,_,_,z⟩:=q8;exact z.elim
end
open PySem PySem.Spec PyProof.Rows L2 PySem.SeqAt PySem.Builtin PySem.Builtin.Str
open PySem PySem.Spec PyProof.Rows L2 PySem.SeqAt PySem.Builtin PySem.Builtin.Str PySem.StrLaws
open PySem PySem.Spec PyProof.Rows L2 PySem.SeqAt PySem.NumText
end L3
namespace HT
open PySem PyProof.Rows
end HT
namespace L3
open PySem PySem.Spec PyProof.Rows L2 PySem.SeqAt
structure Q2 (P:Program)(w:World)(K:W.Frag)(mg:Str->Option Value)(base:Heap)(CX:dM)(k:Nat)(x:Str)(sp:Sp):Prop where
 ex:∃ (f:Addr) (fd:aa3) (ps:List Str),c7 P w K mg base CX k f fd ps sp/\mg x=some (.ref f)/\abh K (.ref f)=true/\Binds K fd ps [.none]
section
variable {P:Program} {w:World} {K:W.Frag} {mg:Str->Option Value} {base:Heap} {x qual:Str} {st:Stmt} {N ps:List Str} {sp:Sp}
theorem fm.Ka (F:fm K x qual st f fd)(S:aq N ps (ah st))(len:∀ vs H Q E,sp vs H Q E->vs.length=ps.length)(S_:zd P w K mg base k qual st N sp):c7 P w K mg base (eQ P w) (k+1) f fd ps sp:=by
 obtain⟨oc,od,da,kV,Ta,pm,an,S6,ct,Tv,o,n,rfl,lk,Ud,_,_⟩:=F.ex;exact qT lk Ud S len λA outer s H vs Q E hr UT=>S_ f S6 A outer s H vs Q E hr UT
theorem Lo (k:Nat)(h:∃ f fd,fm K x qual st f fd/\mg x=some (.ref f)/\Binds K fd ps []/\Binds K fd ps [.none])(S:aq N ps (ah st))(len:∀ vs H Q E,sp vs H Q E->vs.length=ps.length)
   (S_:zd P w K mg base k qual st N sp):iE P w K mg base (eQ P w) (k+1) x sp/\Q2 P w K mg base (eQ P w) (k+1) x sp:=by
 obtain⟨f,fd,F,hm,hb,UE⟩:=h;exact⟨⟨f,fd,ps,fm.Ka F S len S_,hm,F.kp,hb⟩,⟨f,fd,ps,fm.Ka F S len S_,hm,F.kp,UE⟩⟩
end
def Fq:List V->Hp->VK->Prop:=λxs H Q=>∃ (a:Addr) (kvs:List (Key×V)) (ks:List Int),xs=[.ref a]/\Rd H a (.dK kvs)/\kvs.map (·.1)=ks.map Sum.inl/\∀ p,H p=none->Q (.ref p) (upd H p (.lst (ks.map V.int)))
variable {X:Cx}
theorem DS (hc:X.calm=true):cW X (.type "list") Fq:=by
 intro gV s Z H xs us Q I r h;obtain⟨a,kvs,ks,rfl,e,hk,q⟩:=h;obtain⟨u,rfl,rx⟩:=vals1 r;cases rx
 have hh:X.A.handled=none:=I.ok.hd hc;obtain⟨z,hd,vs,TV,dd⟩:=kK I.aA e;obtain⟨ep,T3⟩:=dd.dictAt;have WR:kvs.length=ks.length:=by rw[<- aac (f:=(·.1)) (as:=kvs),hk,aac]
 have hlv:vs.length=ks.length:=by rw[<- TV.length,WR]
 refine W.kdl_call (W.kdl_dict (knd:=c4 X.prog X.w) (kvs:=vs) (ep:=ep) hd) hh T3 (by rw[hlv,<- WR];exact z) λh' tk TU c' hk' hS T6=>?_;have hl:TU.toList.length=ks.length:=by rw[ab5,<- hlv];exact T6.1
 have hI:IntsAre TU.toList ks:=vQ hl λj v hv=>by
   obtain⟨k,x,e1,e2⟩:=T6.2 j v (by rw[<- adh];exact hv);have e3:(kvs.map (·.1))[j]? = some k:=by
     have e4:∀ {kvs:List (Key×V)} {vs:List (Key×Value)},KV kvs vs->kvs.map (·.1)=vs.map (·.1):=λr=>by
       unfold KV at r
       induction r with
       | nil=>rfl
       | cons r1 r2 ih=>rw[aaQ,aaQ,r1.1,ih]
     rw[e4 TV,aah,e1];rfl
   rw[hk,aah] at e3;obtain⟨n,e5,e6⟩:=Option.map_eq_some_iff.mp e3;rcases cE e2 with ⟨i,t,e7,e8⟩ | ⟨x,t,e7,e8⟩
   . rw[e7] at e6;cases e6
     exact⟨_,t,e5,e8⟩
   . rw[e7] at e6;cases e6
 have hn:H s.heap.objs.size=none:=I.aA.fresh (aag _);exact⟨.ref s.heap.objs.size,_,I.laid (t':=tk) (o:=.lst (ks.map V.int)) hk' (aag _) ⟨by rw[aac,<- WR];exact z,TU.toList,c',pF hI,hS⟩,rfl,q _ hn⟩
variable {H:Hp}
theorem Mf {a:Addr}{kvs:List (Key×V)}{ks:List Int}{Q:VK}(h:H a=some (.dK kvs))(hk:kvs.map (·.1)=ks.map Sum.inl)(q:∀ p,H p=none->Q (.ref p) (upd H p (.lst (ks.map V.int)))):Fq [.ref a] H Q:=⟨a,kvs,ks,rfl,.inl h,hk,q⟩
section
variable {prog:Program} {w:World} {A:Around} {E:Value->Shared->Prop} {s:Shared}
theorem Ow (hi:s.heap.IsListIter it t i)(ht:s.heap.IsList t its)
   (q1:∀ x,its[i]? = some x->∀ h',h'.IsListIter it t (i+1)->aca it s.heap h'->Q x { s with heap:=h' })
   (q2:its[i]? = none->A.handled=none/\∀ h' e,Heap.ExtBut it s.heap h'->(∃ o,h'.get? e=some o/\o.cls=.type "StopIteration")->E (.ref e) { s with heap:=h' }) :
   wpAny (model prog w) A (abo (.ref it)) Q E s:=by
 cases hx:its[i]? with
 | some x=>exact wpAny_nextOf_list_item hi ht hx λh' k1 k2=>q1 x hx h' k1 k2
 | none =>
   obtain⟨hh,q⟩:=q2 hx;exact wpAny_nextOf_list_end hh hi ht hx λh' e k1 k2=>q h' e k1 k2
end
def DJ (K:W.Frag)(l1 l2 l3 l4 l5:Addr):It :=
 ⟨λi H=>∃ X1 X2 X3 X4 X5 x1 x2 x3 x4 x5,ar K H l1 X1/\ar K H l2 X2/\ar K H l3 X3/\ar K H l4 X4/\ar K H l5 X5/\X1[i]? = some x1/\X2[i]? = some x2/\X3[i]? = some x3/\X4[i]? = some x4/\X5[i]? = some x5,
  λi H v H'=>∃ T x1 x2 x3 x4 x5,v=.ref T/\H T=none/\H'=upd H T (.tup [x1,x2,x3,x4,x5])/\∀ X1 X2 X3 X4 X5,ar K H l1 X1->ar K H l2 X2->ar K H l3 X3->ar K H l4 X4->ar K H l5 X5->X1[i]? = some x1/\X2[i]? = some x2/\X3[i]? = some x3/\X4[i]? = some x4/\X5[i]? = some x5,
  λi H=>∃ X1 X2 X3 X4 X5,ar K H l1 X1/\ar K H l2 X2/\ar K H l3 X3/\ar K H l4 X4/\ar K H l5 X5/\(X1.length<=i∨X2.length<=i∨X3.length<=i∨X4.length<=i∨X5.length<=i)⟩
def JJ (K:W.Frag)(ta:TA):TI:=λZ H R=>ta Z H λvs H1=>∃ l1 l2 l3 l4 l5 X1 X2 X3 X4 X5,vs=[.ref l1,.ref l2,.ref l3,.ref l4,.ref l5]/\ar K H1 l1 X1/\ar K H1 l2 X2/\ar K H1 l3 X3/\ar K H1 l4 X4/\ar K H1 l5 X5/\R (DJ K l1 l2 l3 l4 l5) H1
variable {ta:TA}
theorem Oc {K:W.Frag}{Z : St}{R:It->Hp->Prop}(q:ta Z H λvs H1=>∃ l1 l2 l3 l4 l5 X1 X2 X3 X4 X5,vs=[.ref l1,.ref l2,.ref l3,.ref l4,.ref l5]/\ar K H1 l1 X1/\ar K H1 l2 X2/\ar K H1 l3 X3/\ar K H1 l4 X4/\ar K H1 l5 X5/\R (DJ K l1 l2 l3 l4 l5) H1):JJ K ta Z H R:=q
theorem Hz {K:W.Frag}{l1 l2 l3 l4 l5:Addr}{X1 X2 X3 X4 X5:List V}{g:TG}{tb:TS}{D:Ends}{Z : St}(hy2:X2.length=X1.length)(hy3:X3.length=X1.length)(hy4:X4.length=X1.length)(hy5:X5.length=X1.length)(Pv:Nat->St->Hp->Prop)(h0:Pv 0 Z H)(hl:∀ i Z H,i<=X1.length->Pv i Z H->ar K H l1 X1/\ar K H l2 X2/\ar K H l3 X3/\ar K H l4 X4/\ar K H l5 X5)
   (hs:∀ i x1 x2 x3 x4 x5 T Z H,X1[i]? = some x1->X2[i]? = some x2->X3[i]? = some x3->X4[i]? = some x4->X5[i]? = some x5->Pv i Z H->H T=none->g (.ref T) Z (upd H T (.tup [x1,x2,x3,x4,x5])) λZ2 H2=>tb { D with nx:=Pv (i+1),ct:=Pv (i+1),bk:=D.nx } Z2 H2) (hd:∀ Z H,Pv X1.length Z H->D.nx Z H):zO (DJ K l1 l2 l3 l4 l5) g tb D Z H:=by
 refine⟨λi m Z H=>m=X1.length - i/\i<=X1.length/\Pv i Z H,⟨X1.length,by simp,aaT _,h0⟩,?_⟩;rintro i m Z H ⟨rfl,hi,p⟩;obtain⟨q1,q2,q3,q4,q5⟩:=hl i Z H hi p;by_cases Tb:i<X1.length
 . refine .inr ⟨⟨X1, X2, X3, X4, X5, X1[i], X2[i], X3[i], X4[i], X5[i], q1, q2, q3, q4, q5, by simp[Tb], by simp[hy2, Tb], by simp[hy3, Tb], by simp[hy4, Tb], by simp[hy5, Tb]⟩, Pv (i + 1), λZ' H' p' => ⟨X1.length - (i + 1), by omega, rfl, Tb, p'⟩, λx H' y => ?_⟩;obtain⟨T,x1,x2,x3,x4,x5,rfl,hT,rfl,hxy⟩:=y;obtain⟨r1,r2,r3,r4,r5⟩:=hxy _ _ _ _ _ q1 q2 q3 q4 q5;exact hs i x1 x2 x3 x4 x5 T Z H r1 r2 r3 r4 r5 p hT
 . have e : i = X1.length := by omega
   subst e;exact .inl ⟨⟨X1,X2,X3,X4,X5,q1,q2,q3,q4,q5,.inl (aag _)⟩,hd Z H p⟩
variable {l:List Str} {x:Str}
theorem SW (_:(x::l).Nodup)(e:X.N=x::l):X.N[0]? = some x:=by rw[e];rfl
theorem Sd (_:(a::x::l).Nodup)(e:X.N=a::x::l):X.N[1]? = some x:=by rw[e];rfl
variable {b:Str}
theorem Sx (_:(a::b::x::l).Nodup)(e:X.N=a::b::x::l):X.N[2]? = some x:=by rw[e];rfl
variable {c:Str}
theorem Sn (_:(a::b::c::x::l).Nodup)(e:X.N=a::b::c::x::l):X.N[3]? = some x:=by rw[e];rfl
variable {d:Str}
theorem R7 (_:(a::b::c::d::x::l).Nodup)(e:X.N=a::b::c::d::x::l):X.N[4]? = some x:=by rw[e];rfl
variable {e:Str}
theorem SR (_:(a::b::c::d::e::x::l).Nodup)(e:X.N=a::b::c::d::e::x::l):X.N[5]? = some x:=by rw[e];rfl
variable {f:Str}
theorem Sw (_:(a::b::c::d::e::f::x::l).Nodup)(e:X.N=a::b::c::d::e::f::x::l):X.N[6]? = some x:=by rw[e];rfl
variable {g:Str}
theorem S0 (_:(a::b::c::d::e::f::g::x::l).Nodup)(e:X.N=a::b::c::d::e::f::g::x::l):X.N[7]? = some x:=by rw[e];rfl
variable {h:Str}
theorem Sm (_:(a::b::c::d::e::f::g::h::x::l).Nodup)(e:X.N=a::b::c::d::e::f::g::h::x::l):X.N[8]? = some x:=by rw[e];rfl
variable {i:Str}
theorem SQ (_:(a::b::c::d::e::f::g::h::i::x::l).Nodup)(e:X.N=a::b::c::d::e::f::g::h::i::x::l):X.N[9]? = some x:=by rw[e];rfl
variable {j:Str}
theorem Rk (_:(a::b::c::d::e::f::g::h::i::j::x::l).Nodup)(e:X.N=a::b::c::d::e::f::g::h::i::j::x::l):X.N[10]? = some x:=by rw[e];rfl
theorem Rq (_:(a::b::c::d::e::f::g::h::i::j::k::x::l).Nodup)(e:X.N=a::b::c::d::e::f::g::h::i::j::k::x::l):X.N[11]? = some x:=by rw[e];rfl
theorem RN (_:(a::b::c::d::e::f::g::h::i::j::k::m::x::l).Nodup)(e:X.N=a::b::c::d::e::f::g::h::i::j::k::m::x::l):X.N[12]? = some x:=by rw[e];rfl
theorem RX (_:(a::b::c::d::e::f::g::h::i::j::k::m::n::x::l).Nodup)(e:X.N=a::b::c::d::e::f::g::h::i::j::k::m::n::x::l):X.N[13]? = some x:=by rw[e];rfl
section
variable {X:Cx} {P:Program} {w:World} {K:W.Frag} {mg:Str->Option Value} {base:Heap} {CX:dM} {k:Nat} {E:XK} {m x:Str} {p pos Tc:Pos} {e o iter tg c:Expr} {es:List Expr} {ta te tl:TE} {t:TA} {sp:Sp} {C:Addr} {id:String} {v:V} {u:Value} {r:List V->Hp->VK->Prop} {g:TG} {tb:TS} {wi:TI} {tc:TT} {body:List Stmt}
theorem Qo (hP:X.prog=P/\X.w=w/\X.K=K/\X.mg=mg/\X.base=base)(G:iE P w K mg base cb k x sp)(hr:bH k X.A)(hg:Gl X x)(ha:PA X (e::es) t)(Tw:(x == ("__debug__" : Str))=false)
   (he:aai (e::es) X.env=(false,eval e X.env)::aai es X.env) (S9:(backTo pos (aai es X.env)).any (·.1)=false):PE X (.Call (.Name x p) (e::es) [] pos) (cj sp E0 t):=by
 obtain⟨rfl,rfl,rfl,rfl,rfl⟩:=hP;exact bj G hr b_ hg ha Tw he S9
theorem NK (hP:X.prog=P/\X.w=w/\X.K=K/\X.mg=mg/\X.base=base)(G:CW P w K mg base cb k x C sp)(hr:bH (k+1) X.A)(hg:Gl X x)(ha:PA X (e::es) t)(Tw:(x == ("__debug__" : Str))=false)
   (he:aai (e::es) X.env=(false,eval e X.env)::aai es X.env) (S9:(backTo pos (aai es X.env)).any (·.1)=false):PE X (.Call (.Name x p) (e::es) [] pos) (zK C sp E0 t):=by
 obtain⟨rfl,rfl,rfl,rfl,rfl⟩:=hP;exact zC G hr b_ hg ha Tw he S9
theorem Nx (hM:X.mg=mg)(hm:mg x=none)(hv:aaW x=some (.builtin id))(hc:cW X (.builtin id) r)(hg:Gl X x)(ha:PA X (e::es) t)(Tw:(x == ("__debug__" : Str))=false)(hn:x ≠ "__name__")
   (he:aai (e::es) X.env=(false,eval e X.env)::aai es X.env) (S9:(backTo pos (aai es X.env)).any (·.1)=false):PE X (.Call (.Name x p) (e::es) [] pos) (n_ r t):=by
 subst hM;exact cJ hc hg hm hv ha hn Tw he S9
theorem M3 (hM:X.mg=mg)(hm:mg x=none)(hv:aaW x=some (.type id))(hc:cW X (.type id) r)(hg:Gl X x)(ha:PA X (e::es) t)(Tw:(x == ("__debug__" : Str))=false)(hn:x ≠ "__name__")
   (he:aai (e::es) X.env=(false,eval e X.env)::aai es X.env) (S9:(backTo pos (aai es X.env)).any (·.1)=false):PE X (.Call (.Name x p) (e::es) [] pos) (n_ r t):=by
 subst hM;exact pG hc hg hm hv ha hn Tw he S9
theorem Nd (hM:X.mg=mg)(hm:mg x=some (.ref A))(hg:Gl X x)(hd:(x == ("__debug__" : Str))=false):PE X (.Name x pos) (tC (.ref A)):=by
 subst hM;exact f_ hg hm rfl hd
theorem O3 {i:Int}(hM:X.mg=mg)(hm:∃ t,mg x=some (.int i t))(hg:Gl X x)(hd:(x == ("__debug__" : Str))=false):PE X (.Name x pos) (tC (.int i)):=by
 subst hM;exact f_ hg hm.choose_spec ⟨_,rfl⟩ hd
theorem Om (hM:X.mg=mg)(hm:mg "range" = none)(hg:Gl X "range")(ha:PA X [a] t)(hs:aai [a] X.env=[(false,eval a X.env)]):PI X tg (.Call (.Name "range" p) [a] [] pos) (mP t):=by
 subst hM;exact e_ hg hm ha hs
theorem NU {a b:Expr}(hM:X.mg=mg)(hm:mg "range" = none)(hg:Gl X "range")(ha:PA X [a,b] t)(hs:aai [a,b] X.env=[(false,eval a X.env),(false,eval b X.env)])(Ut:aai [b] X.env=[(false,eval b X.env)]):PI X tg (.Call (.Name "range" p) [a,b] [] pos) (Eb t):=by
 subst hM;exact yc hg hm ha hs Ut
theorem NO {a b:Expr}{rest:List Expr}{tA WI:TT}(ha:PT X a tA)(hb:PW X (.BoolOp .And (b::rest) pos) WI):PT X (.BoolOp .And (a::b::rest) pos) (OF tA WI):=(mG ha hb).pt
theorem PM {a b:Expr}{rest:List Expr}{tA WI:TT}(ha:PT X a tA)(hb:PW X (.BoolOp .Or (b::rest) pos) WI):PT X (.BoolOp .Or (a::b::rest) pos) (KH tA WI):=(D8 ha hb).pt
def pE:List Str->List V->St
 | [],_=>[]
 | _::r,[]=>none::pE r []
 | _::r,v::vs=>some v::pE r vs
theorem Qp {t:TS}{D:Ends}{N:List Str}{vs:List V}{Z':St}(h1:L2.start N vs=pE N vs)(h2:pE N vs = Z')(q:t D Z' H):t D (L2.start N vs) H:=by rw[h1,h2];exact q
def Oj (_:Str)(_:Nat):Prop:=True
theorem i9 (m:Str)(k:Nat):Oj m k:=trivial
theorem M0 (hk:Oj m k)(hP:X.prog=P/\X.w=w/\X.K=K/\X.mg=mg/\X.base=base)(he:PE X o ta)(hr:bH k X.A)(ha:PA X (e::es) t)
   (Tj:aai (e::es) X.env=(false,eval e X.env)::aai es X.env) (S9:(backTo pos (aai es X.env)).any (·.1)=false)
   (ht : eval (.Call (.Attribute o m Tc) (e :: es) [] pos) X.env = (do
     let ov <- eval o X.env
     standAt Tc.atName
     let (f,first) <- holding [ov] (acW ov m pl)
     ac2 pos f first (backTo pos (aai (e::es) X.env)) (ac3 pos (abZ [] X.env)))) :
   PE X (.Call (.Attribute o m Tc) (e::es) [] pos) (cH P w K mg base cb k m E0 ta t):=AU hP he hr b_ ha Tj S9 ht
theorem LS (hk:Oj m k)(hP:X.prog=P/\X.w=w/\X.K=K/\X.mg=mg/\X.base=base)(he:PE X o ta)(hr:bH k X.A)
   (ht : eval (.Call (.Attribute o m Tc) [] [] pos) X.env = (do
     let ov <- eval o X.env
     standAt Tc.atName
     let (f,first) <- holding [ov] (acW ov m pl)
     ac2 pos f first (backTo pos (aai [] X.env)) (ac3 pos (abZ [] X.env)))) :
   PE X (.Call (.Attribute o m Tc) [] [] pos) (cH P w K mg base cb k m E0 ta aQ):=kN hP he hr b_ ht
theorem L1 {Tc S8:Pos}(h:X.K=K)(ho:PE X o ta)(ha:PA X (e::es) t)
   (Tt:ab3 o "append" X.env (eval o X.env)=eval o X.env)
   (Wu:((backTo S8 (aai (e::es) X.env)).all (λx=>!x.1) && (ac3 S8 (abZ [] X.env)).all (λx=>x.1.isSome)
     && decide ((e::es).length+([]:List Keyword).length+(if ([]:List Keyword).isEmpty then 0 else 1)<30))=true)
   (T7:(Tc.endLine == S8.line)=true) (hs:aai (e::es) X.env=(false,eval e X.env)::aai es X.env) (Tp:(backTo S8 (aai es X.env)).any (·.1)=false) :
   PE X (.Call (.Attribute o "append" Tc) (e::es) [] S8) (MQ K "list" wC ta t):=Ac h abG PySem.F.slot_list_append PySem.F.type_list_append yd ho ha Tt Wu T7 hs Tp
end
abbrev Src:=Bool×Addr×Addr
def d6 (h:Heap)(p:Src)(k:Nat):Prop:=match p with | (true,t,i)=>h.IsListIter i t k | (false,t,i)=>h.IsTupleIter i t k
def hZ (h:Heap)(p:Src)(X:Array Value):Prop:=match p with | (true,t,_)=>h.IsList t X | (false,t,_)=>h.IsTuple t X
abbrev dZ (xs:Array Value):Obj:={ cls:=.type "tuple",data:=.seq xs }
structure Pr (z TI TO:Addr)(S:List Src):Prop where
 TIz:TI≠z
 TOz:TO≠z
 TITO:TI≠TO
 el:∀ p∈S,p.2.2≠z/\p.2.2≠TO/\TI≠p.2.2/\p.2.1≠z/\p.2.1≠TO/\∀ q∈S,p.2.1≠q.2.2
 nd:(S.map (·.2.2)).Nodup
theorem d6.to {h h':Heap}{p:Src}{k:Nat}(q:d6 h p k)(e:∀ o,h.get? p.2.2=some o->h'.get? p.2.2=some o):d6 h' p k:=by
 obtain⟨b,t,i⟩:=p;cases b
 . exact Heap.IsTupleIter.at q e
 . exact Heap.IsListIter.at q e
theorem hZ.to {h h':Heap}{p:Src}{X:Array Value}(q:hZ h p X)(e:∀ o,h.get? p.2.1=some o->h'.get? p.2.1=some o):hZ h' p X:=by
 obtain⟨b,t,i⟩:=p;cases b
 . exact Heap.IsTuple.at q e
 . exact Heap.IsList.at q e
variable {β : Type}
theorem Ay {M:Model}{A:Around}{E:Value->Shared->Prop}{f:Value×Nat->β->Sem (ForInStep β)}{b0 : β}{Q : β->Shared->Prop}(I:Nat->Shared->Prop):∀ (l:List Value) (j:Nat) (s:Shared),I j s ->
   (∀ i v s,l[i]? = some v->I (j+i) s->wpAny M A (f (v,j+i) b0) (λr s'=>r=.yield b0/\I (j+i+1) s') E s)->(∀ s,I (j+l.length) s->Q b0 s)->wpAny M A (forIn (l.zipIdx j) b0 f) Q E s
 | [],j,s,h,_,q=>by simp only[List.zipIdx_nil,List.forIn_nil];exact aaj (q s h)
 | v :: l, j, s, h, st, q => by
   simp only[List.zipIdx_cons,List.forIn_cons];refine aad (aaH (st 0 v s rfl h) (λr s' e=>?_) (λ_ _ x=>x));obtain⟨rfl,h'⟩:=e;refine Ay I l (j+1) s' h' (λi v s e hi=>?_) λs h=>q s (by rw[aaG,Nat.add_comm l.length,<- Nat.add_assoc];exact h);have e1:j+1+i=j+(i+1):=by omega
   rw[e1] at hi ⊢;exact st (i+1) v s e hi
section
variable {prog:Program} {w:World} {A:Around} {E:Value->Shared->Prop} {s:Shared}
theorem Qs {p:Src}{i:Nat}{its:Array Value}{Q:Value->Shared->Prop}(hi:d6 s.heap p i)(ht:hZ s.heap p its)
   (q1:∀ x,its[i]? = some x->∀ h',d6 h' p (i+1)->aca p.2.2 s.heap h'->Q x { s with heap:=h' })
   (q2:its[i]? = none->A.handled=none/\∀ h' e,Heap.ExtBut p.2.2 s.heap h'->(∃ o,h'.get? e=some o/\o.cls=.type "StopIteration")->E (.ref e) { s with heap:=h' }) :
   wpAny (model prog w) A (abo (.ref p.2.2)) Q E s:=by
 obtain⟨b,t,it⟩:=p;cases b
 . exact O5 hi ht q1 q2
 . exact Ow hi ht q1 q2
theorem IX {T:Addr}{xs:Array Value}{x:Value}{k:Nat}{Q:Unit->Shared->Prop}(hT:s.heap.get? T=some (dZ xs))(hs:xs.size<=aal)
   (h:∀ h',h'.get? T=some (dZ (xs.setIfInBounds k x))->aca T s.heap h'->Q () { s with heap:=h' }) :
   wpAny (model prog w) A (updateSeq T (·.setIfInBounds k x)) Q E s:=by
 refine wpAny_updateSeq hT rfl (h _ ?_ (ac7 ..)) hs (by simp only[Array.size_setIfInBounds];omega);rw[aa9 _ hT rfl];simp[acH]
set_option maxHeartbeats 4000000 in
theorem Rr {z TI TO:Addr}{S:List Src}{Xs:List (Array Value)}{as:Array Value}{k:Nat}{Q:Fin->Shared->Prop}(D:Pr z TI TO S)(hz:IsZip s.heap z TI TO .none)(hTI:s.heap.get? TI=some (dZ (S.map λp=>Tg p.2.2).toArray))(hTO:s.heap.get? TO=some (dZ as))(hl:as.size=S.length)(hS:S≠[])(hX:Xs.length=S.length)(hs:S.length<=aal)
   (h:∀ (i:Nat) p X,S[i]? = some p->Xs[i]? = some X->d6 s.heap p k/\hZ s.heap p X)
   (q1:∀ xs:List Value,xs.length=S.length->(∀ (i:Nat) X x,Xs[i]? = some X->xs[i]? = some x->X[k]? = some x)->∀ h',IsZip h' z TI TO (rawInt s.heap.objs.size)->h'.get? TO=some (dZ xs.toArray)->(∀ (i:Nat) p,S[i]? = some p->d6 h' p (k+1))->h'.get? s.heap.objs.size=some (dZ xs.toArray) ->
     (∀ c o,c≠z->c≠TO->(∀ p∈S,c≠p.2.2)->s.heap.get? c=some o->h'.get? c=some o)->Q (.done (.ret (.ref s.heap.objs.size))) { s with heap:=h' })
   (q2:∀ (i:Nat) X,Xs[i]? = some X->X[k]? = none->A.handled=none/\∀ h' e,(∀ c o,c≠z->c≠TO->(∀ p∈S,c≠p.2.2)->s.heap.get? c=some o->h'.get? c=some o)->(∃ o,h'.get? e=some o/\o.cls=.type "StopIteration")->E (.ref e) { s with heap:=h' }) :
   wpAny (model prog w) A (Builtin.«zip.__next__» ⟨[.ref z],[]⟩) Q E s:=by
 show wpAny _ _ (field (.ref z) 2 >>= _) _ _ _;refine aad (aby hz rfl (x:=.bool false) rfl ?_);show wpAny _ _ (field (.ref z) 3 >>= _) _ _ _;refine aad (aby hz rfl (x:=.ref TI) rfl (aad (ac_ hTI rfl ?_)));have ne:(S.map λp=>Tg p.2.2).toArray.isEmpty=false:=by
   cases S
   . exact absurd rfl hS
   . rfl
 simp only[ne];show wpAny _ _ (Builtin.SmallTypes.ownedTupleIsFree (.ref z) >>= _) _ _ _;refine aad ?_;unfold Builtin.SmallTypes.ownedTupleIsFree;refine aad (aby hz rfl (x:=.none) rfl (aaj ?_));simp only[if_true];refine aad (wpAny_rule (aad (aby hz rfl (x:=.ref TO) rfl ?_)));refine aad (ac6 hz (by simp) λg1 hz1 s1=>?_);replace hz1:IsZip g1 z TI TO .ellipsis:=hz1;refine aad ?_
 refine Ay (λj s'=>∃ (xs:List Value) (g:Heap),s'={ s with heap:=g }/\xs.length=j/\(∀ (i:Nat) X x,Xs[i]? = some X->xs[i]? = some x->X[k]? = some x)/\IsZip g z TI TO .ellipsis/\g.get? TO=some (dZ (xs++as.toList.drop j).toArray)/\(∀ (i:Nat) p,S[i]? = some p->i<j->d6 g p (k+1))/\g.objs.size=s.heap.objs.size/\∀ c o,c≠z->c≠TO->(∀ (i:Nat) p,S[i]? = some p->i<j->c≠p.2.2)->s.heap.get? c=some o->g.get? c=some o) _ 0 _
   ⟨[],g1,rfl,rfl,λi X x _ e=>by simp at e,hz1,s1.extBut _ _ D.TOz hTO,λi p _ e=>absurd e (acg _),s1.1,λc o c1 _ _ e=>s1.extBut _ _ c1 e⟩ (λi v s' hv hI=>?_) λs' hI=>?_
 . rw[adp] at hI ⊢;obtain⟨xs,g,rfl,V_,WO,hzg,hO,TM,hsz,hk⟩:=hI;obtain⟨p,hp,rfl⟩:∃ p,S[i]? = some p/\v=Tg p.2.2:=by
     have:=hv
     simp only[List.toList_toArray,aah,abN] at this;obtain⟨p,e,e2⟩:=this;exact⟨p,e,e2.symm⟩
   have hi:i<S.length:=(List.getElem?_eq_some_iff.mp hp).1;obtain⟨X,hX'⟩:∃ X,Xs[i]? = some X:=⟨Xs[i],aaa (by omega)⟩
   have hm:p∈S:=aak hp;obtain⟨a1,a2,a3,a4,a5,a6⟩:=D.el p hm;obtain⟨h1,h2⟩:=h i p X hp hX';have inj:∀ (j:Nat) q,S[j]? = some q->j<i->p.2.2≠q.2.2:=λj q hq hj e=>by
     have e1:(S.map (·.2.2))[i]? = some p.2.2:=by rw[aah,hp];rfl
     have e2:(S.map (·.2.2))[j]? = some p.2.2:=by rw[aah,hq,e];rfl
     have:=(List.getElem?_inj (by rw[aac];omega) D.nd).mp (e2.trans e1.symm)
     omega
   refine aad (wpAny_onRaise ?_);show wpAny _ _ (abo (.ref p.2.2) >>= _) _ _ _;refine aad (Qs (p:=p) (h1.to λo e=>hk _ o a1 a2 inj e) (h2.to λo e=>hk _ o a4 a5 (λj q hq _=>a6 q (aak hq)) e) (λx hx g2 h12 s2=>aaj ?_) λhx=>?_)
   . have hO2 := s2.extBut _ _ a2.symm hO;refine aad (ac_ hO2 rfl (aad (IX hO2 (by simp [V_];omega) λg3 hO3 s3=>?_)));refine aad (wpAny_letGo (aaj ⟨rfl,xs++[x],g3,rfl,by simp [V_],λj Y y hY hy=>?_,s3.extBut _ _ D.TOz.symm (s2.extBut _ _ a1.symm hzg),?_,λj q hq hj=>?_,by rw [s3.1,s2.1];exact hsz,λc o c1 c2 c3 e=>s3.extBut _ _ c2 (s2.extBut _ _ (c3 i p hp (ab8 _)) (hk c o c1 c2 (λj q hq hj=>c3 j q hq (acu hj)) e))⟩))
     . by_cases hj:j<i
       . exact WO j Y y hY (by rw[aas (by omega)] at hy;exact hy)
       . rw [aaq (by omega)] at hy
         have:j=i:=by
           have:=(List.getElem?_eq_some_iff.mp hy).1
           simp at this;omega
         subst this;simp[V_] at hy;rw[hX'] at hY;cases hY
         cases hy
         exact hx
     . rw[hO3]
       congr 2
       apply Array.toList_inj.mp;have hd:as.toList.drop i=as.toList[i]'(by simp;omega)::as.toList.drop (i+1):=List.drop_eq_getElem_cons (by simp;omega);simp only[Array.toList_setIfInBounds,List.toList_toArray];rw[hd,List.set_append_right _ _ (by omega),V_,Nat.sub_self,List.set_cons_zero,aco];rfl
     . by_cases e:j=i
       . subst e;rw[hp] at hq;cases hq
         exact h12.to λo e=>s3.extBut _ _ a2 e
       . obtain⟨_, b2, _⟩ := D.el q (aak hq);exact(TM j q hq (by omega)).to λo e'=>s3.extBut _ _ b2 (s2.extBut _ _ (inj j q hq (by omega)).symm e')
   . obtain ⟨hh, q2⟩ := q2 i X hX' hx;refine ⟨hh,λg4 e s4 he=>?_⟩;obtain ⟨oe,Ug,hce⟩:=he;have hz4:IsZip g4 z TI TO .ellipsis:=s4 _ _ a1.symm hzg;have hez:e≠z:=λv=>by subst v;rw [hz4] at Ug;cases Ug;simp at hce
     exact ac6 hz4 (by simp) λg5 _ s5=>q2 g5 e (λc o c1 c2 c3 v=>s5.extBut _ _ c1 (s4 _ _ (c3 p hm) (hk c o c1 c2 (λj q hq _=>c3 q (aak hq)) v))) ⟨oe,s5.extBut _ _ hez Ug,hce⟩
 . obtain ⟨xs, g5, rfl, V_, WO, hz5, hO5, TM, z5, k5⟩ := hI;have V_:xs.length=S.length:=by rw [V_];simp
   have hO5:g5.get? TO=some (dZ xs.toArray):=by rw[hO5];simp[hl]
   refine aad (ac_ hO5 rfl (aad (wpAny_newTuple ?_ (by show xs.length<=aal;omega))));have zlt:z<g5.objs.size:=aam hz5;show wpAny _ _ (Builtin.SmallTypes.ownedTupleHandOut (.ref z) (.ref g5.objs.size) >>= _) _ _ _;refine aad ?_;unfold Builtin.SmallTypes.ownedTupleHandOut;have hz6:IsZip (g5.push (dZ xs.toArray)) z TI TO .ellipsis:=aaf _ hz5;refine aad (ac6 hz6 (by simp) λg7 hz7 s7=>?_);replace hz7:IsZip g7 z TI TO (rawInt g5.objs.size):=hz7;refine ac6 hz7 (by simp) λg8 hz8 s8=>?_;replace hz8:IsZip g8 z TI TO (rawInt g5.objs.size):=hz8;have up:∀ c o,c≠z->g5.get? c=some o->g8.get? c=some o:=λc o c1 e=>s8.extBut _ _ c1 (s7.extBut _ _ c1 (aaf _ e));have hT8:g8.get? g5.objs.size=some (dZ xs.toArray):=s8.extBut _ _ (abU zlt) (s7.extBut _ _ (abU zlt) (aat _ rfl));rw[z5] at hz8 hT8;refine aaj ?_;show Q (.done (.ret (.ref g5.objs.size))) _;rw[z5];refine q1 xs V_ WO g8 hz8 (up _ _ D.TOz hO5) (λi p hp=>(TM i p hp ?_).to λo e=>up _ o (D.el p (aak hp)).1 e) hT8 λc o c1 c2 c3 e=>up c o c1 (k5 c o c1 c2 (λj q hq _=>c3 q (aak hq)) e)
   have:=(List.getElem?_eq_some_iff.mp hp).1
   simpa using this
variable {α : Type}
theorem Af {M:Model}{A:Around}{E:Value->Shared->Prop}{f : α->β->Sem (ForInStep β)}{Q : β->Shared->Prop}(I:Nat->β->Shared->Prop):∀ (l:List α) (j:Nat) (b : β) (s:Shared),I j b s ->
   (∀ (i:Nat) v b s,l[i]? = some v->I (j+i) b s->wpAny M A (f v b) (λr s'=>∃ b',r=.yield b'/\I (j+i+1) b' s') E s)->(∀ b s,I (j+l.length) b s->Q b s)->wpAny M A (forIn l b f) Q E s
 | [],j,b,s,h,_,q=>by simp only[List.forIn_nil];exact aaj (q b s h)
 | v :: l, j, b, s, h, st, q => by
   simp only[List.forIn_cons];refine aad (aaH (st 0 v b s rfl h) (λr s' e=>?_) (λ_ _ x=>x));obtain⟨b',rfl,h'⟩:=e;refine Af I l (j+1) b' s' h' (λi v b s e hi=>?_) λb s h=>q b s (by rw[aaG,Nat.add_comm l.length,<- Nat.add_assoc];exact h);have e1:j+1+i=j+(i+1):=by omega
   rw[e1] at hi ⊢;exact st (i+1) v b s e hi
def dq (n:Nat)(ts:List (Bool×Addr)):List Src:=ts.zipIdx.map λp=>(p.1.1,p.1.2,n+p.2)
variable {ts:List (Bool×Addr)} {n:Nat}
theorem qU {i:Nat}{q:Src}:(dq n ts)[i]? = some q ↔ ∃ p,ts[i]? = some p/\q=(p.1,p.2,n+i):=by
 simp only[dq,aah,List.getElem?_zipIdx,Option.map_map,abN,adp];exact⟨λzq=>om zq λp a b=>⟨p,a,b.symm⟩,λzq=>om zq λp a b=>⟨p,a,b.symm⟩⟩
theorem iu:(dq n ts).length=ts.length:=by simp[dq]
theorem AB:(dq n ts).map (·.2.2)=List.range' n ts.length:=by
 apply List.ext_getElem?;intro i;rw[aah];by_cases h:i<ts.length
 . rw[qU.mpr ⟨ts[i],aaa h,rfl⟩,List.getElem?_range' h]
   simp
 . rw[abS (by rw[iu]; omega), abS (by rw[List.length_range']; omega)];rfl
theorem Qx {Q:List Value->Shared->Prop}(h:∀ p∈ts,∃ X,hZ s.heap (p.1,p.2,0) X)
   (q:∀ h',h'.objs.size=s.heap.objs.size+ts.length->(∀ c o,s.heap.get? c=some o->h'.get? c=some o)->(∀ (i:Nat) p,(dq s.heap.objs.size ts)[i]? = some p->d6 h' p 0)->Q ((dq s.heap.objs.size ts).map λp=>.ref p.2.2) { s with heap:=h' }) :
   wpAny (model prog w) A (Builtin.SmallTypes.iterAll (ts.map λp=>.ref p.2)) Q E s:=by
 unfold Builtin.SmallTypes.iterAll
 refine aad (Af (λj b s'=>∃ g,s'={ s with heap:=g }/\b.toList=(List.range' s.heap.objs.size j).map .ref/\g.objs.size=s.heap.objs.size+j/\(∀ c o,s.heap.get? c=some o->g.get? c=some o)/\∀ (i:Nat) p,(dq s.heap.objs.size ts)[i]? = some p->i<j->d6 g p 0) _ 0 _ _
   ⟨s.heap,rfl,rfl,rfl,λ_ _ e=>e,λi p _ e=>absurd e (acg _)⟩ (λi v b s' hv hI=>?_) λb s' hI=>?_)
 . rw[adp] at hI ⊢;obtain⟨g,rfl,hb,hz,hk,TM⟩:=hI;obtain⟨p,hp,rfl⟩:∃ p,ts[i]? = some p/\v=Tg p.2:=by
     rw[aah,abN] at hv;obtain⟨p,e,e2⟩:=hv;exact⟨p,e,e2.symm⟩
   obtain⟨X,hX⟩:=h p (aak hp);have hX':=hX.to λo e=>hk _ o e;have Td:∀ o,d6 (g.push o) (p.1,p.2,g.objs.size) 0->∃ b',(acz (b.push (Tg g.objs.size)):ForInStep (Array Value))=.yield b'/\∃ g',({ s with heap:=g.push o }:Shared)={ s with heap:=g' }/\b'.toList=(List.range' s.heap.objs.size (i+1)).map .ref/\g'.objs.size=s.heap.objs.size+(i+1)/\(∀ c o,s.heap.get? c=some o->g'.get? c=some o)/\∀ (j:Nat) q,(dq s.heap.objs.size ts)[j]? = some q->j<i+1->d6 g' q 0:=λo ho=>by
     refine⟨_,rfl,_,rfl,?_,by rw[abP,hz];omega,λc o e=>aaf _ (hk c o e),λj q hq hj=>?_⟩
     . rw[Array.toList_push,hb,List.range'_concat,aaE,hz];simp
     . by_cases e:j=i
       . subst e;obtain⟨p',e1,rfl⟩:=qU.mp hq;rw[hp] at e1;cases e1
         rw[<- hz];exact ho
       . exact(TM j q hq (by omega)).to λo e=>aaf _ e
   obtain⟨bb,t⟩:=p;cases bb
   . exact aad (aa_ (wpAny_pyIter_tuple hX' (aaj (Td _ ⟨_,aat _ rfl,rfl,rfl⟩))))
   . exact aad (aa_ (abL hX' (aaj (Td _ ⟨_,aat _ rfl,rfl,rfl⟩))))
 . obtain⟨g, rfl, hb, hz, hk, TM⟩ := hI;simp only[adp,aac] at hb hz TM;refine aaj ?_;rw[hb,<- AB,abd];exact q g hz hk λi p hp=>TM i p hp (by have:=(List.getElem?_eq_some_iff.mp hp).1;rw[iu] at this;exact this)
abbrev JK (h':Heap)(S:List Src):Heap:=h'.push (dZ (S.map λp=>Tg p.2.2).toArray)
abbrev Kx (h':Heap)(S:List Src):Heap:=(JK h' S).push (dZ ((S.map λp=>Tg p.2.2).map λ_=>abq).toArray)
abbrev FT (h':Heap)(S:List Src):Heap:=(Kx h' S).push { cls:=.type "zip",data:=.fields #[.none,.bool false,.bool false,.ref h'.objs.size,.ref (JK h' S).objs.size] }
theorem IQ (ts:List (Bool×Addr)):Meets (Builtin.«zip.__new__» ⟨.type "zip" :: ts.map (λp=>.ref p.2),[]⟩) (λ_ R s=>(∀ p∈ts,∃ X,hZ s.heap (p.1,p.2,0) X)/\ts.length<=aal /\
   ∀ h',h'.objs.size=s.heap.objs.size+ts.length->(∀ c o,s.heap.get? c=some o->h'.get? c=some o)->(∀ (i:Nat) p,(dq s.heap.objs.size ts)[i]? = some p->d6 h' p 0)->R (.ok (.ret (.ref (Kx h' (dq s.heap.objs.size ts)).objs.size))) { s with heap:=FT h' (dq s.heap.objs.size ts) }) :=
 .of_wp λprog w A R s h=>by
   obtain⟨hp,g,d,tk,os⟩:=s;obtain⟨h1,hs,h⟩:=h;have hsub:=sub_zip;have V0:(dq (Shared.heap ⟨hp,g,d,tk,os⟩).objs.size ts).length<=aal:=by rw[iu];exact hs
   wp_walk using Qx h1
   intro h' hz hk TM;refine aad (wpAny_newTuple ?_ (by rw[aac];exact V0));refine aad (wpAny_newTuple ?_ (by rw[aac,aac];exact V0))
   wp_walk
   exact⟨_,rfl,h h' hz hk TM⟩
theorem HS (h:∀ p∈ts,∃ X,hZ s.heap (p.1,p.2,0) X)(hs:ts.length<=aal)(c1:checkTypeCall "zip" ⟨ts.map (λp=>.ref p.2),[]⟩=pure ())(c2:checkBuiltinCall "zip.__new__" ⟨.type "zip" :: ts.map (λp=>.ref p.2),[]⟩=pure ())
   (c3:∀ obj,argsOk "object.__init__" ⟨obj::ts.map (λp=>.ref p.2),[]⟩)
   (q:∀ h' m,m=s.heap.objs.size+ts.length->IsZip h' (m+2) m (m+1) .none->h'.get? m=some (dZ ((dq s.heap.objs.size ts).map λp=>Tg p.2.2).toArray)->(∃ as:Array Value,as.size=ts.length/\h'.get? (m+1)=some (dZ as))->(∀ (i:Nat) p,(dq s.heap.objs.size ts)[i]? = some p->d6 h' p 0) ->
     (∀ c o,s.heap.get? c=some o->h'.get? c=some o)->Q (.ref (m+2)) { s with heap:=h' }):wpAny (model prog w) A (call (.type "zip") (ts.map λp=>.ref p.2)) Q E s:=by
 refine callType_new F.called_zip (by decide) c1 c2 c3 F.entry_zip_new (IQ ts) ⟨h,hs,λh' hz hk TM=>?_⟩;have z1:(JK h' (dq s.heap.objs.size ts)).objs.size=h'.objs.size+1:=abP ..;have z2:(Kx h' (dq s.heap.objs.size ts)).objs.size=h'.objs.size+2:=by rw[abP,z1]
 have e3:(FT h' (dq s.heap.objs.size ts)).get? (Kx h' (dq s.heap.objs.size ts)).objs.size=some _:=aat _ rfl;have e2:(FT h' (dq s.heap.objs.size ts)).get? (JK h' (dq s.heap.objs.size ts)).objs.size=some _:=aaf _ (aat _ rfl);have up:∀ c o,h'.get? c=some o->(FT h' (dq s.heap.objs.size ts)).get? c=some o:=λc o e=>aaf _ (aaf _ (aaf _ e));have e1:(FT h' (dq s.heap.objs.size ts)).get? h'.objs.size=some _:=aaf _ (aaf _ (aat _ rfl));rw[z1,z2] at e3;rw[z1] at e2;show _/\_;rw[z2];exact⟨⟨_,e3,rfl⟩,q _ _ hz e3 e1 ⟨_,by simp[iu],e2⟩ (λi p hp=>(TM i p hp).to λo e=>up _ _ e) λc o x=>up c o (hk c o x)⟩
theorem Av {z TI TO:Addr}{S:List Src}{Xs:List (Array Value)}{as:Array Value}{k:Nat}{Q:Option Value->Shared->Prop}(D:Pr z TI TO S)(hz:IsZip s.heap z TI TO .none)(hTI:s.heap.get? TI=some (dZ (S.map λp=>Tg p.2.2).toArray))(hTO:s.heap.get? TO=some (dZ as))(hl:as.size=S.length)(hS:S≠[])(hX:Xs.length=S.length)(hs:S.length<=aal)
   (h:∀ (i:Nat) p X,S[i]? = some p->Xs[i]? = some X->d6 s.heap p k/\hZ s.heap p X)
   (q1:∀ xs:List Value,xs.length=S.length->(∀ (i:Nat) X x,Xs[i]? = some X->xs[i]? = some x->X[k]? = some x)->∀ h',IsZip h' z TI TO (rawInt s.heap.objs.size)->h'.get? TO=some (dZ xs.toArray)->(∀ (i:Nat) p,S[i]? = some p->d6 h' p (k+1))->h'.get? s.heap.objs.size=some (dZ xs.toArray) ->
     (∀ c o,c≠z->c≠TO->(∀ p∈S,c≠p.2.2)->s.heap.get? c=some o->h'.get? c=some o)->Q (some (.ref s.heap.objs.size)) { s with heap:=h' })
   (q2:∀ (i:Nat) X,Xs[i]? = some X->X[k]? = none->A.handled=none/\∀ h',(∀ c o,c≠z->c≠TO->(∀ p∈S,c≠p.2.2)->s.heap.get? c=some o->h'.get? c=some o)->Q none { s with heap:=h' }) :
   wpAny (model prog w) A (pyNext (.ref z)) Q E s:=by
 have hT:s.TypeIs (.ref z) "zip":=⟨_,hz,rfl⟩;unfold pyNext;refine aad (wpAny_attempt (acv (name:=aae "__next__") hT F.slot_zip_next (acK F.slot_zip_next hT F.entry_zip_next ?_ (F.args_zip_next_1 _))));refine Rr D hz hTI hTO hl hS hX hs h (λxs y1 y2 h' a1 a2 a3 a4 a5=>⟨_,rfl,aaj (q1 xs y1 y2 h' a1 a2 a3 a4 a5)⟩) λi X e1 he=>⟨(q2 i X e1 he).1,λh' e kk ho=>?_⟩;obtain⟨o,ho,hc⟩:=ho;exact aad (wpAny_isInstance (T:="StopIteration") (b:=true) ⟨o,ho,hc⟩ isSubtype_stop (aaj ((q2 i X e1 he).2 _ kk)))
end
def uY (K:W.Frag)(H:Hp)(p:Bool×Addr)(xs:List V):Prop:=match p with | (true,a)=>ar K H a xs | (false,a)=>aI K H a xs
variable {n:Nat}
theorem uc (I:Inv X gV Z H s)(h:uY X.K H p xs):∃ its,aL xs its/\hZ s.heap (p.1,p.2,n) its.toArray/\p.2<s.heap.objs.size:=by
 obtain⟨b,a⟩:=p;cases b
 . obtain⟨its, rv, p1, _⟩ := I.tuple h;exact⟨its,rv,p1,p1.lt⟩
 . obtain⟨its, rv, p1, _⟩ := I.list h;exact⟨its,rv,p1.isList,p1.lt⟩
theorem Dg (I:Inv X gV Z H s)(h:uY X.K H p xs)(h':uY X.K H p ys):xs=ys:=by
 obtain⟨b,a⟩:=p;cases b
 . exact I.xl h h'
 . exact I.sN h h'
theorem d6.obj {h:Heap}{p:Src}{k:Nat}(q:d6 h p k):∃ o,h.get? p.2.2=some o/\∀ v,o.data≠.cell v:=by
 obtain⟨b,t,i⟩:=p;cases b
 . obtain⟨o, e, _, d⟩ := q;exact⟨o,e,λv e=>by rw[d] at e;cases e⟩
 . obtain⟨o, e, _, d⟩ := q;exact⟨o,e,λv e=>by rw[d] at e;cases e⟩
variable {α : Type}
theorem wu {p:Nat->α->Prop}:∀ n,(∀ j,j<n->∃ x,p j x)->∃ xs:List α,xs.length=n/\∀ (j:Nat) x,xs[j]? = some x->p j x
 | 0,_=>⟨[],rfl,λj x e=>by simp at e⟩
 | n + 1, h => by
   obtain⟨xs,hl,hx⟩:=wu n λj hj=>h j (acu hj);obtain⟨x,hp⟩:=h n (ab8 n);refine⟨xs++[x],by simp[hl],λj y e=>?_⟩;by_cases hj:j<n
   . rw[aas (by omega)] at e;exact hx j y e
   . have hj2 := (List.getElem?_eq_some_iff.mp e).1;simp at hj2;obtain rfl:j=n:=by omega
     rw[aaq (by omega),hl,Nat.sub_self] at e;cases e
     exact hp
def J7 (K:W.Frag)(ts:List (Bool×Addr)):It :=
 ⟨λi H=>∃ vs:List V,vs.length=ts.length/\∀ (j:Nat) p v,ts[j]? = some p->vs[j]? = some v->∃ xs,uY K H p xs/\xs[i]? = some v,
  λi H v H'=>∃ T vs,v=.ref T/\H T=none/\H'=upd H T (.tup vs)/\vs.length=ts.length/\∀ (j:Nat) p v xs,ts[j]? = some p->vs[j]? = some v->uY K H p xs->xs[i]? = some v,
  λi H=>(∀ p∈ts,∃ xs,uY K H p xs)/\∃ p∈ts,∃ xs,uY K H p xs/\xs.length<=i⟩
theorem aL.of (hl:us.length=vs.length)(h:∀ (j:Nat) v u,vs[j]? = some v->us[j]? = some u->RelV v u):aL vs us:=by
 induction vs generalizing us with
 | nil=>cases us with
   | nil=>exact .nil
   | cons _ _=>cases hl
 | cons v vs ih=>cases us with
   | nil=>cases hl
   | cons u us=>exact .cons (h 0 v u rfl rfl) (ih (by simpa using hl) λj a b e1 e2=>h (j+1) a b e1 e2)
variable {ts:List (Bool×Addr)}
set_option maxHeartbeats 4000000 in
theorem PK {P:Program}{w:World}{K:W.Frag}{es:List Expr}{n:Nat}{pos:Pos}{z TI TO:Addr}{S:List Src}(D:Pr z TI TO S)(hS:∀ (j:Nat) q,S[j]? = some q->ts[j]? = some (q.1,q.2.1))(hl:S.length=ts.length)(ne:ts≠[])(hs:ts.length<=aal) :
   Turn P w K (.Tuple es n pos) (J7 K ts) (z::TI::TO::S.map (·.2.2)) z (λi h=>IsZip h z TI TO .none/\h.get? TI=some (dZ (S.map λp=>Tg p.2.2).toArray)/\(∃ as:Array Value,as.size=S.length/\h.get? TO=some (dZ as))/\∀ (j:Nat) p,S[j]? = some p->d6 h p i):=by
 have nS:S≠[]:=λe=>ne (List.length_eq_zero_iff.mp (by rw[<- hl,e];rfl));have mm:∀ {c:Addr},c∈z::TI::TO::S.map (·.2.2)->c=z∨c=TI∨c=TO∨∃ (j:Nat) (p:Src),S[j]? = some p/\c=p.2.2:=λ{c} hc=>by
   simp only[aaP,List.mem_map] at hc;rcases hc with e | e | e | ⟨p,hp,e⟩
   . exact .inl e
   . exact .inr (.inl e)
   . exact .inr (.inr (.inl e))
   . obtain⟨j, hj⟩ := List.mem_iff_getElem?.mp hp;exact .inr (.inr (.inr ⟨j,p,hj,e.symm⟩))
 have mi:∀ {j:Nat} {p:Src},S[j]? = some p->p.2.2∈z::TI::TO::S.map (·.2.2):=λ{j p} hp=>by
   simp only[aaP,List.mem_map];exact .inr (.inr (.inr ⟨p,aak hp,rfl⟩))
 have mn:∀ {c:Addr},c ∉ z::TI::TO::S.map (·.2.2)->c≠z/\c≠TO/\∀ p∈S,c≠p.2.2:=λ{c} hc=>by
   simp only[aaP,List.mem_map,not_or,not_exists,not_and] at hc;exact⟨hc.1,hc.2.2.1,λp hp e=>hc.2.2.2 p hp e.symm⟩
 refine⟨by simp,λi h st c hc=>?_,λi h h' st k=>?_,?_,?_,λ_ _ _ _ _ st h=>wpAny_pyIter_zip st.1 h⟩
 . obtain⟨hz, hI, ⟨as, _, hO⟩, TM⟩ := st;rcases mm hc with rfl | rfl | rfl | ⟨j,p,hp,rfl⟩
   . exact⟨_,hz,λv e=>by cases e⟩
   . exact⟨_,hI,λv e=>by cases e⟩
   . exact⟨_,hO,λv e=>by cases e⟩
   . exact(TM j p hp).obj
 . obtain⟨hz, hI, ⟨as, hl, hO⟩, TM⟩ := st;exact⟨k z (by simp) _ hz,k TI (by simp) _ hI,⟨as,hl,k TO (by simp) _ hO⟩,λj p hp=>(TM j p hp).to λo e=>k _ (mi hp) o e⟩
 . intro X hP hw hK hc i gV s Z H E I hf st hg;subst hP hw hK;obtain⟨hz,hI,⟨as,hal,hO⟩,TM⟩:=st;obtain⟨vs,hvl,hv⟩:=hg;obtain⟨Ys,hYl,hY⟩:=wu (p:=λj (Y:Array Value×Value)=>∀ p v,S[j]? = some p->vs[j]? = some v->hZ s.heap p Y.1/\Y.1[i]? = some Y.2/\RelV v Y.2) S.length λj hj=>by
     obtain⟨xs,hx,hxi⟩:=hv j _ _ (hS j _ (aaa hj)) (aaa (by omega));obtain⟨its,rv,p1,_⟩:=uc (n:=S[j].2.2) I hx;obtain⟨u,hu,ru⟩:=rv.get hxi;refine⟨(its.toArray,u),λp v e1 e2=>?_⟩;rw[aaa hj] at e1;rw[aaa (by omega)] at e2;cases e1
     cases e2
     exact⟨p1,by simpa using hu,ru⟩
   have C7:∀ (j:Nat) p Y,S[j]? = some p->Ys[j]? = some Y->∃ v,vs[j]? = some v/\hZ s.heap p Y.1/\Y.1[i]? = some Y.2/\RelV v Y.2:=λj p Y hp hy=>by
     have hj:=(List.getElem?_eq_some_iff.mp hp).1;exact⟨vs[j],aaa (by omega),hY j Y hy p _ hp (aaa (by omega))⟩
   refine Av (k:=i) (Xs:=Ys.map (·.1)) D hz hI hO hal nS (by rw[aac,hYl]) (by omega) (λj p X hp hX=>?_) (λxs V_ WO h' z1 z2 z3 z5 kk=>?_) λj X hX he=>?_
   . rw[aah,abN] at hX;obtain⟨Y,hy,rfl⟩:=hX;obtain⟨v,_,a,_⟩:=C7 j p Y hp hy;exact⟨TM j p hp,a⟩
   . have TV : aL vs xs := aL.of (by omega) λj v u e1 e2 => by
       have hj:=(List.getElem?_eq_some_iff.mp e1).1;obtain⟨v',W8,_,b,c⟩:=C7 j S[j] Ys[j] (aaa (by omega)) (aaa (by omega));rw[e1] at W8;cases W8
       have:=WO j Ys[j].1 u (by rw[aah,aaa (by omega)];rfl) e2
       rw[b] at this;cases this
       exact c
     refine⟨_,rfl,wpAny_letOwnedTupleGo_zip z1 λh2' hz2 s2=>?_⟩;have T0:H s.heap.objs.size=none:=I.aA.fresh (aag _);have tz:s.heap.objs.size≠z:=abU (aam hz);have hI2:=s2.extBut _ _ D.TIz (kk _ _ D.TIz D.TITO (λp hp=>(D.el p hp).2.2.1) hI);have hO2:=s2.extBut _ _ D.TOz z2;have hit2:∀ (j:Nat) p,S[j]? = some p->d6 h2' p (i+1):=λj p hp=>(z3 j p hp).to λo e=>s2.extBut _ _ (D.el p (aak hp)).1 e;have J:Inv X gV Z (upd H s.heap.objs.size (.tup vs)) { s with heap:=h2' }:=by
       refine xv (ch:=z::TI::TO::S.map (·.2.2)) I hf (aag _) (λc o hc e=>?_) (λc hc=>?_) ⟨by omega,xs,TV,⟨_,s2.extBut _ _ tz z5,rfl,_,rfl⟩⟩
       . obtain⟨c1, c2, c3⟩ := mn hc;exact s2.extBut _ _ c1 (kk c o c1 c2 c3 e)
       . rcases mm hc with rfl | rfl | rfl | ⟨j,p,hp,rfl⟩
         . exact⟨_,hz2⟩
         . exact⟨_,hI2⟩
         . exact⟨_,hO2⟩
         . obtain⟨o, e, _⟩ := (hit2 j p hp).obj;exact⟨o,e⟩
     refine⟨.ref s.heap.objs.size,_,J,rfl,⟨_,vs,rfl,T0,rfl,hvl,λj p v ys e1 e2 e3=>?_⟩,⟨hz2,hI2,⟨_,by simpa using V_,hO2⟩,hit2⟩,λc hc=>?_⟩
     . obtain⟨ys', q1, q2⟩ := hv j p v e1 e2;rw[Dg I e3 q1];exact q2
     . have Tb : c < s.heap.objs.size := by
         rcases mm hc with rfl | rfl | rfl | ⟨j,p,hp,rfl⟩
         . exact aam hz
         . exact aam hI
         . exact aam hO
         . obtain⟨o, e, _⟩ := (TM j p hp).obj;exact aam e
       rw[ak (aaw Tb)];exact(hf c hc).1
   . exfalso
     rw[aah,abN] at hX;obtain⟨Y,hy,rfl⟩:=hX;have hj:=(List.getElem?_eq_some_iff.mp hy).1;obtain⟨v,_,_,b,_⟩:=C7 j S[j] Y (aaa (by omega)) hy;rw[b] at he;cases he
 . intro X hP hw hK hc i gV s Z H E I hf st hg;subst hP hw hK;obtain⟨hz,hI,⟨as,hal,hO⟩,TM⟩:=st;obtain⟨hall,p0,TC,xs0,hq0,hl0⟩:=hg;obtain⟨Ys,hYl,hY⟩:=wu (p:=λj (Y:Array Value)=>∀ p,S[j]? = some p->hZ s.heap p Y/\(∀ xs,uY X.K H (p.1,p.2.1) xs->Y.size=xs.length)) S.length λj hj=>by
     obtain⟨xs,hx⟩:=hall _ (aak (hS j _ (aaa hj)));obtain⟨its,rv,p1,_⟩:=uc (n:=S[j].2.2) I hx;refine⟨its.toArray,λp e1=>?_⟩;rw[aaa hj] at e1;cases e1
     exact⟨p1,λys hy=>by rw[Dg I hy hx];simpa using rv.length.symm⟩
   refine Av (k:=i) (Xs:=Ys) D hz hI hO hal nS hYl (by omega) (λj p X hp hX=>⟨TM j p hp,(hY j X hX p hp).1⟩) (λxs V_ WO h' z1 z2 z3 z5 kk=>?_) λj X hX he=>⟨I.ok.hd hc,λh' kk=>⟨rfl,?_⟩⟩
   . exfalso
     obtain⟨j,hj⟩:=List.mem_iff_getElem?.mp TC;have hj':=(List.getElem?_eq_some_iff.mp hj).1;have e1:=hS j _ (aaa (show j<S.length by omega));rw[hj] at e1;cases e1
     have e2:=(hY j _ (aaa (show j<Ys.length by omega)) _ (aaa (by omega))).2 _ hq0;have e3:=WO j _ _ (aaa (show j<Ys.length by omega)) (aaa (show j<xs.length by omega))
     have:=(Array.getElem?_eq_some_iff.mp e3).1
     omega
   . have hnc : ∀ c o, c ∉ z :: TI :: TO :: S.map (·.2.2) -> s.heap.get? c = some o -> h'.get? c = some o := λc o hc e => kk c o (mn hc).1 (mn hc).2.1 (mn hc).2.2 e;refine I.uz (s':={ s with heap:=h' }) (ch:=z::TI::TO::S.map (·.2.2)) rfl ⟨λb o e _ _ hc=>hnc b o hc e,λb o e _ _ hc=>⟨o.slots,hnc b o hc e⟩,λb o e n _=>n,λb o e hc=>⟨o,hnc b o hc e⟩,λ_ _ e=>e,λ_ _ _ e=>e,λb ps e=>⟨#[],by rw [e];simp⟩⟩ (λb u e=>?_) I.bare ?_
     . have nc : ∀ b u, H b = some u -> b ∉ z :: TI :: TO :: S.map (·.2.2) := λb u e hb => by rw [(hf b hb).1] at e; cases e
       refine(I.aA b u e).iV (λc v hc q=>hnc c v ?_ q) (λ_ q=>q) λ_ _ q=>q;rcases hc with q | q
       . rw[q];exact nc b u e
       . exact nc c _ q
     . intro b hb;obtain⟨f0,f1,f2,f3,f4,f5⟩:=hf b hb;exact⟨f3,f1,f4,f5⟩
theorem G6 {P:Program}{w:World}{K:W.Frag}{tg:Expr}{J J':It}{fp:List Addr}{it:Addr}{tn:Nat->Heap->Prop}(T:Turn P w K tg J fp it tn)(h1:∀ i H,J'.go i H->J.go i H)(h2:∀ i H v H',J.rf i H v H'->J'.rf i H v H')(h3:∀ i H,J'.stop i H->J.stop i H):Turn P w K tg J' fp it tn :=
 ⟨T.mem,T.obj,T.keep,λX a b c d i gV s Z H E I hf st hg=>aR (T.item X a b c d i gV s Z H E I hf st (h1 i H hg)) λr s1 zq=>om zq λu e q=>⟨u,e,aR q λ_ s2 ⟨x,H',I',rv,y,r⟩=>⟨x,H',I',rv,h2 _ _ _ _ y,r⟩⟩,λX a b c d i gV s Z H E I hf st hg=>T.done X a b c d i gV s Z H E I hf st (h3 i H hg),T.self⟩
theorem xW:∀ {ts:List (Bool×Addr)} {us:List Value},aL (ts.map λp=>V.ref p.2) us->us=ts.map λp=>.ref p.2
 | [],_,h=>by cases h;rfl
 | a :: ts, _, h => by
   cases h with
   | cons r rr =>
     cases r
     rw[xW rr];rfl
variable {pos:Pos}
theorem qv {es:List Expr}{n:Nat}{T4:Pos}{m:Expr}{ms:List Expr}{W:List V->Hp->(It->Hp->Prop)->Prop}{p:Pos}(hg:Gl X "zip")(hm:X.mg "zip" = none)(ha:PA X (m::ms) ta)(hs:aai (m::ms) X.env=(false,eval m X.env)::aai ms X.env)(S9:(backTo pos (aai ms X.env)).any (·.1)=false)
   (hw:∀ vs H1 R,W vs H1 R->∃ (ts:List (Bool×Addr)) (J:It),vs=ts.map (λp=>V.ref p.2)/\ts≠[]/\ts.length<=aal/\(∀ p∈ts,∃ xs,uY X.K H1 p xs)/\checkTypeCall "zip" ⟨ts.map (λp=>.ref p.2),[]⟩=pure ()/\checkBuiltinCall "zip.__new__" ⟨.type "zip" :: ts.map (λp=>.ref p.2),[]⟩=pure ()/\(∀ obj,argsOk "object.__init__" ⟨obj::ts.map (λp=>.ref p.2),[]⟩) /\
     (∀ i H,J.go i H->(J7 X.K ts).go i H)/\(∀ i H v H',(J7 X.K ts).rf i H v H'->J.rf i H v H')/\(∀ i H,J.stop i H->(J7 X.K ts).stop i H)/\R J H1) :
   PI X (.Tuple es n T4) (.Call (.Name "zip" p) (m::ms) [] pos) (λZ H R=>ta Z H λvs H1=>W vs H1 R):=by
 intro gV s Z H R I h;refine Call_ (iM I hg hm PR (aa8 (aR (ha pos gV s Z H _ I h) λus s1 zq=>bR zq λvs H1 I1 r1 q1=>?_) hs S9));obtain⟨ts,J,rfl,ne,hl,hsq,c1,c2,c3,j1,j2,j3,q⟩:=hw _ _ _ q1;obtain rfl:=xW r1;have lt:∀ p∈ts,p.2<s1.heap.objs.size:=λp hp=>by
   obtain⟨xs,hx⟩:=hsq p hp;obtain⟨_,_,_,e⟩:=uc (n:=0) I1 hx;exact e
 refine HS (λp hp=>?_) hl c1 c2 c3 λh' m hm' z1 z2 z3 z4 kk=>?_
 . obtain⟨xs, hx⟩ := hsq p hp;obtain⟨_,_,e,_⟩:=uc (n:=0) I1 hx;exact⟨_,e⟩
 . have el : ∀ q ∈ dq s1.heap.objs.size ts, @LT.lt Nat _ q.2.1 s1.heap.objs.size /\ @LE.le Nat _ s1.heap.objs.size q.2.2 /\ @LT.lt Nat _ q.2.2 m := λq hq => by
     obtain⟨j,hj⟩:=List.mem_iff_getElem?.mp hq;obtain⟨p,e,rfl⟩:=qU.mp hj
     have:=(List.getElem?_eq_some_iff.mp e).1
     exact⟨lt p (aak e),ab9 _ _,by show s1.heap.objs.size+j<m;omega⟩
   have T := PK (P := X.prog) (w := X.w) (K := X.K) (es := es) (n := n) (pos := T4) (z := m + 2) (TI := m) (TO := m + 1) (S := dq s1.heap.objs.size ts) (ts := ts)
     ⟨aaw (by omega),aaw (by omega),aaw (by omega),λq hq=>?_,by rw[AB];exact List.nodup_range'⟩ (λj q hj=>?_) iu ne hl
   . refine wpAny_pyIter_zip z1 ⟨_,_,_,J,H1,rfl,I1.kept (t':=s1.toks) kk,G6 T j1 j2 j3,⟨z1,z2,?_,z4⟩,λc hc=>?_,q⟩
     . obtain⟨as, e1, e2⟩ := z3;exact⟨as,by rw[iu];exact e1,e2⟩
     . have hge : s1.heap.objs.size <= c := by
         simp only[aaP,List.mem_map] at hc;rcases hc with e | e | e | ⟨q,hq,e⟩
         . rw[e];exact aaK (ab9 _ _) (aaK (acx hm'.symm) (ab9 _ _))
         . rw[e];exact aaK (ab9 _ _) (acx hm'.symm)
         . rw[e];exact aaK (ab9 _ _) (aaK (acx hm'.symm) (ab9 _ _))
         . rw[<- e];exact(el q hq).2.1
       exact I1.ua hge (I1.aA.fresh hge)
   . obtain⟨a, b, c⟩ := el q hq;exact⟨aaw (by omega),aaw (by omega),abU (by omega),aaw (by omega),aaw (by omega),λq' hq'=>aaw (aaz a (el q' hq').2.1)⟩
   . obtain⟨p, e, rfl⟩ := qU.mp hj;exact e
theorem SH (y a b c:Value):argsOk "object.__init__" ⟨[y,a,b,c],[]⟩:=by unfold argsOk;rw[signature?_of (id:="object.__init__") (n:=['_','_','t','i','n','i','_','_']) (o:=['t','c','e','j','b','o']) (by kernel_rfl) PySem.F.owner_object];kernel_rfl
theorem Sb (y a b c d e:Value):argsOk "object.__init__" ⟨[y,a,b,c,d,e],[]⟩:=by unfold argsOk;rw[signature?_of (id:="object.__init__") (n:=['_','_','t','i','n','i','_','_']) (o:=['t','c','e','j','b','o']) (by kernel_rfl) PySem.F.owner_object];kernel_rfl
theorem nq {P : α->β->Prop}{T:List β}(j:Nat)(p : α)(v : β)(h:([]:List α)[j]? = some p)(_:T[j]? = some v):P p v:=by cases h
theorem c6 {P : α->β->Prop}{a : α}{x : β}{S:List α}{T:List β}(h0:P a x)(h:∀ (j:Nat) p v,S[j]? = some p->T[j]? = some v->P p v):∀ (j:Nat) p v,(a::S)[j]? = some p->(x::T)[j]? = some v->P p v
 | 0,_,_,h1,h2=>by rw[<- aax h1,<- aax h2];exact h0
 | j+1,p,v,h1,h2=>h j p v h1 h2
variable {vs:List α}
theorem Ge (h:vs.length=n+1):∃ a r,vs=a::r/\r.length=n:=by
 cases vs with
 | nil=>cases h
 | cons a r=>exact⟨a,r,rfl,adI h⟩
theorem Sh (h:vs.length=0):vs=[]:=List.eq_nil_of_length_eq_zero h
theorem N_ (h:vs.length=2):∃ a b,vs=[a,b]:=by
 obtain⟨a,r,rfl,h1⟩:=Ge h;obtain⟨b,t,rfl,h2⟩:=Ge h1;exact⟨a,b,by rw[Sh h2]⟩
theorem QS (h:vs.length=3):∃ a b c,vs=[a,b,c]:=by
 obtain⟨a,r,rfl,h1⟩:=Ge h;obtain⟨b,c,rfl⟩:=N_ h1;exact⟨a,b,c,rfl⟩
theorem SY (h:vs.length=5):∃ a b c d e,vs=[a,b,c,d,e]:=by
 obtain⟨a,r,rfl,h1⟩:=Ge h;obtain⟨b,t,rfl,h2⟩:=Ge h1;obtain⟨c,d,e,rfl⟩:=QS h2;exact⟨a,b,c,d,e,rfl⟩
variable {m0 m1:Expr}
theorem MK {K:W.Frag}{es:List Expr}{n:Nat}{T4:Pos}{p pos:Pos}(hK:X.K=K)(hg:Gl X "zip")(hm:X.mg "zip" = none)(ha:PA X [m0,m1] ta)(hs:aai [m0,m1] X.env=(false,eval m0 X.env)::aai [m1] X.env:=by rfl)(S9:(backTo pos (aai [m1] X.env)).any (·.1)=false:=by rfl):PI X (.Tuple es n T4) (.Call (.Name "zip" p) [m0,m1] [] pos) (Pc K ta):=by
 subst hK;refine qv (W:=λvs H1 R=>∃ a b X0 X1,vs=[.ref a,.ref b]/\aI X.K H1 a X0/\aI X.K H1 b X1/\R (JP X.K a b) H1) hg hm ha hs S9 λvs H1 R h=>?_;obtain⟨a,b,X0,X1,rfl,h0,h1,q⟩:=h;refine⟨[(false,a),(false,b)],_,rfl,ada _ _,by show 2<=aal;decide,λp hp=>?_,by kernel_rfl,by kernel_rfl,λy=>F.args_object_init_3 y _ _,λi H h=>?_,λi H v H' h=>?_,λi H h=>?_,q⟩
 . simp only[aaP,aaR,or_false] at hp;rcases hp with rfl | rfl
   . exact⟨_,h0⟩
   . exact⟨_,h1⟩
 . obtain⟨X0, X1, x0, x1, g0, g1, e0, e1⟩ := h;exact⟨[x0,x1],rfl,c6 ⟨_,g0,e0⟩ (c6 ⟨_,g1,e1⟩ nq)⟩
 . obtain⟨T, vs, e, hT, e', hl, f⟩ := h;obtain⟨x0,x1,rfl⟩:=N_ hl;exact⟨T,x0,x1,e,hT,e',λX0 X1 g0 g1=>⟨f 0 _ _ _ rfl rfl g0,f 1 _ _ _ rfl rfl g1⟩⟩
 . obtain ⟨X0, X1, g0, g1, hl⟩ := h;refine ⟨λp hp=>?_,?_⟩
   . simp only[aaP,aaR,or_false] at hp;rcases hp with rfl | rfl
     . exact⟨_,g0⟩
     . exact⟨_,g1⟩
   . rcases hl with hl | hl
     . exact⟨(false,a),by simp,_,g0,hl⟩
     . exact⟨(false,b),by simp,_,g1,hl⟩
theorem L0 {K:W.Frag}{es:List Expr}{n:Nat}{T4:Pos}{p pos:Pos}(hK:X.K=K)(hg:Gl X "zip")(hm:X.mg "zip" = none)(ha:PA X [m0,m1] ta)(hs:aai [m0,m1] X.env=(false,eval m0 X.env)::aai [m1] X.env:=by rfl)(S9:(backTo pos (aai [m1] X.env)).any (·.1)=false:=by rfl):PI X (.Tuple es n T4) (.Call (.Name "zip" p) [m0,m1] [] pos) (J_ K ta):=by
 subst hK;refine qv (W:=λvs H1 R=>∃ a b X0 X1,vs=[.ref a,.ref b]/\ar X.K H1 a X0/\ar X.K H1 b X1/\R (Ef X.K a b) H1) hg hm ha hs S9 λvs H1 R h=>?_;obtain⟨a,b,X0,X1,rfl,h0,h1,q⟩:=h;refine⟨[(true,a),(true,b)],_,rfl,ada _ _,by show 2<=aal;decide,λp hp=>?_,by kernel_rfl,by kernel_rfl,λy=>F.args_object_init_3 y _ _,λi H h=>?_,λi H v H' h=>?_,λi H h=>?_,q⟩
 . simp only[aaP,aaR,or_false] at hp;rcases hp with rfl | rfl
   . exact⟨_,h0⟩
   . exact⟨_,h1⟩
 . obtain⟨X0, X1, x0, x1, g0, g1, e0, e1⟩ := h;exact⟨[x0,x1],rfl,c6 ⟨_,g0,e0⟩ (c6 ⟨_,g1,e1⟩ nq)⟩
 . obtain⟨T, vs, e, hT, e', hl, f⟩ := h;obtain⟨x0,x1,rfl⟩:=N_ hl;exact⟨T,x0,x1,e,hT,e',λX0 X1 g0 g1=>⟨f 0 _ _ _ rfl rfl g0,f 1 _ _ _ rfl rfl g1⟩⟩
 . obtain ⟨X0, X1, g0, g1, hl⟩ := h;refine ⟨λp hp=>?_,?_⟩
   . simp only[aaP,aaR,or_false] at hp;rcases hp with rfl | rfl
     . exact⟨_,g0⟩
     . exact⟨_,g1⟩
   . rcases hl with hl | hl
     . exact⟨(true,a),by simp,_,g0,hl⟩
     . exact⟨(true,b),by simp,_,g1,hl⟩
theorem Pn {K:W.Frag}{es:List Expr}{n:Nat}{T4:Pos}{m2:Expr}{p pos:Pos}(hK:X.K=K)(hg:Gl X "zip")(hm:X.mg "zip" = none)(ha:PA X [m0,m1,m2] ta)(hs:aai [m0,m1,m2] X.env=(false,eval m0 X.env)::aai [m1,m2] X.env:=by rfl)(S9:(backTo pos (aai [m1,m2] X.env)).any (·.1)=false:=by rfl):PI X (.Tuple es n T4) (.Call (.Name "zip" p) [m0,m1,m2] [] pos) (KC K ta):=by
 subst hK;refine qv (W:=λvs H1 R=>∃ a b c X0 X1 X2,vs=[.ref a,.ref b,.ref c]/\aI X.K H1 a X0/\aI X.K H1 b X1/\aI X.K H1 c X2/\R (D_ X.K a b c) H1) hg hm ha hs S9 λvs H1 R h=>?_;obtain⟨a,b,c,X0,X1,X2,rfl,h0,h1,h2,q⟩:=h;refine⟨[(false,a),(false,b),(false,c)],_,rfl,ada _ _,by show 3<=aal;decide,λp hp=>?_,by kernel_rfl,by kernel_rfl,λy=>SH y _ _ _,λi H h=>?_,λi H v H' h=>?_,λi H h=>?_,q⟩
 . simp only[aaP,aaR,or_false] at hp;rcases hp with rfl | rfl | rfl
   . exact⟨_,h0⟩
   . exact⟨_,h1⟩
   . exact⟨_,h2⟩
 . obtain⟨X0, X1, X2, x0, x1, x2, g0, g1, g2, e0, e1, e2⟩ := h;exact⟨[x0,x1,x2],rfl,c6 ⟨_,g0,e0⟩ (c6 ⟨_,g1,e1⟩ (c6 ⟨_,g2,e2⟩ nq))⟩
 . obtain⟨T, vs, e, hT, e', hl, f⟩ := h;obtain⟨x0,x1,x2,rfl⟩:=QS hl;exact⟨T,x0,x1,x2,e,hT,e',λX0 X1 X2 g0 g1 g2=>⟨f 0 _ _ _ rfl rfl g0,f 1 _ _ _ rfl rfl g1,f 2 _ _ _ rfl rfl g2⟩⟩
 . obtain ⟨X0, X1, X2, g0, g1, g2, hl⟩ := h;refine ⟨λp hp=>?_,?_⟩
   . simp only[aaP,aaR,or_false] at hp;rcases hp with rfl | rfl | rfl
     . exact⟨_,g0⟩
     . exact⟨_,g1⟩
     . exact⟨_,g2⟩
   . rcases hl with hl | hl | hl
     . exact⟨(false,a),by simp,_,g0,hl⟩
     . exact⟨(false,b),by simp,_,g1,hl⟩
     . exact⟨(false,c),by simp,_,g2,hl⟩
theorem NT {K:W.Frag}{es:List Expr}{n:Nat}{T4:Pos}{m2 m3 m4:Expr}{p pos:Pos}(hK:X.K=K)(hg:Gl X "zip")(hm:X.mg "zip" = none)(ha:PA X [m0,m1,m2,m3,m4] ta)(hs:aai [m0,m1,m2,m3,m4] X.env=(false,eval m0 X.env)::aai [m1,m2,m3,m4] X.env:=by rfl)(S9:(backTo pos (aai [m1,m2,m3,m4] X.env)).any (·.1)=false:=by rfl):PI X (.Tuple es n T4) (.Call (.Name "zip" p) [m0,m1,m2,m3,m4] [] pos) (JJ K ta):=by
 subst hK;refine qv (W:=λvs H1 R=>∃ a b c d e X0 X1 X2 X3 X4,vs=[.ref a,.ref b,.ref c,.ref d,.ref e]/\ar X.K H1 a X0/\ar X.K H1 b X1/\ar X.K H1 c X2/\ar X.K H1 d X3/\ar X.K H1 e X4/\R (DJ X.K a b c d e) H1) hg hm ha hs S9 λvs H1 R h=>?_;obtain⟨a,b,c,d,e,X0,X1,X2,X3,X4,rfl,h0,h1,h2,h3,h4,q⟩:=h;refine⟨[(true,a),(true,b),(true,c),(true,d),(true,e)],_,rfl,ada _ _,by show 5<=aal;decide,λp hp=>?_,by kernel_rfl,by kernel_rfl,λy=>Sb y _ _ _ _ _,λi H h=>?_,λi H v H' h=>?_,λi H h=>?_,q⟩
 . simp only[aaP,aaR,or_false] at hp;rcases hp with rfl | rfl | rfl | rfl | rfl
   . exact⟨_,h0⟩
   . exact⟨_,h1⟩
   . exact⟨_,h2⟩
   . exact⟨_,h3⟩
   . exact⟨_,h4⟩
 . obtain⟨X0, X1, X2, X3, X4, x0, x1, x2, x3, x4, g0, g1, g2, g3, g4, e0, e1, e2, e3, e4⟩ := h;exact⟨[x0,x1,x2,x3,x4],rfl,c6 ⟨_,g0,e0⟩ (c6 ⟨_,g1,e1⟩ (c6 ⟨_,g2,e2⟩ (c6 ⟨_,g3,e3⟩ (c6 ⟨_,g4,e4⟩ nq))))⟩
 . obtain⟨T, vs, e, hT, e', hl, f⟩ := h;obtain⟨x0,x1,x2,x3,x4,rfl⟩:=SY hl;exact⟨T,x0,x1,x2,x3,x4,e,hT,e',λX0 X1 X2 X3 X4 g0 g1 g2 g3 g4=>⟨f 0 _ _ _ rfl rfl g0,f 1 _ _ _ rfl rfl g1,f 2 _ _ _ rfl rfl g2,f 3 _ _ _ rfl rfl g3,f 4 _ _ _ rfl rfl g4⟩⟩
 . obtain ⟨X0, X1, X2, X3, X4, g0, g1, g2, g3, g4, hl⟩ := h;refine ⟨λp hp=>?_,?_⟩
   . simp only[aaP,aaR,or_false] at hp;rcases hp with rfl | rfl | rfl | rfl | rfl
     . exact⟨_,g0⟩
     . exact⟨_,g1⟩
     . exact⟨_,g2⟩
     . exact⟨_,g3⟩
     . exact⟨_,g4⟩
   . rcases hl with hl | hl | hl | hl | hl
     . exact⟨(true,a),by simp,_,g0,hl⟩
     . exact⟨(true,b),by simp,_,g1,hl⟩
     . exact⟨(true,c),by simp,_,g2,hl⟩
     . exact⟨(true,d),by simp,_,g3,hl⟩
     . exact⟨(true,e),by simp,_,g4,hl⟩
end L3
namespace FB
open PySem PySem.Spec PyProof.Rows L2 L3 PySem.SeqAt
local macro_rules | `(tactic| walk_at "clok") => `(tactic| repeat (first | exact aan | refine ⟨rfl, ?_⟩))
local macro_rules | `(tactic| walk_at "frok") => `(tactic| repeat (first | exact aan | refine ⟨⟨rfl, (by first | exact Or.inl rfl | exact Or.inr rfl), (by first | exact Or.inl rfl | exact Or.inr rfl), rfl⟩, ?_⟩))
local macro_rules | `(tactic| walk_at "hlk") => `(tactic| first | (with_reducible assumption) | (exact aa) | ((with_reducible refine' ai ?x ?y); (case y => with_reducible assumption); (case x => walk_at "hlk")) | ((fail_if_success (((with_reducible refine' ai ?x ?y); (case y => with_reducible assumption)))); (with_reducible refine' cq ?x ?y); (case x => walk_at "ne"); (case y => walk_at "hlk")) | ((with_reducible refine' K1 ?x ?y); (case x => with_reducible assumption); (case y => walk_at "hlk")))
local macro_rules | `(tactic| walk_at "ne") => `(tactic| first | (with_reducible assumption) | (apply Ne.symm; (with_reducible assumption)) | ((with_reducible refine' ag ?x ?y); (case y => with_reducible assumption); (case x => walk_at "hlk")) | (apply Ne.symm; (with_reducible refine' ag ?x ?y); (case y => with_reducible assumption); (case x => walk_at "hlk")))
local macro_rules | `(tactic| walk_at "sql") => `(tactic| first | (with_reducible assumption) | (refine' ar.of ?x; (case x => first | (with_reducible assumption) | (exact aa))) | ((with_reducible refine' C2 ?x ?y); (case y => with_reducible assumption); (case x => walk_at "sql")) | ((fail_if_success (((with_reducible refine' C2 ?x ?y); (case y => with_reducible assumption)))); first | ((with_reducible refine' K2 ?s ?h ?q); (case h => with_reducible assumption); (case s => walk_at "same"); (case q => walk_at "sql")) | (refine' ar.of ?x; (case x => (with_reducible refine' cq ?x2 ?y2); (case x2 => walk_at "ne"); (case y2 => walk_at "hlk")))) | ((with_reducible refine' ao.seq ?x ?y); (case x => with_reducible assumption); (case y => walk_at "sql")))
local macro_rules | `(tactic| walk_at "sqt") => `(tactic| first | (with_reducible assumption) | (refine' aI.of ?x; (case x => first | (with_reducible assumption) | (exact aa))) | ((with_reducible refine' Dk ?x ?y); (case y => with_reducible assumption); (case x => walk_at "sqt")) | ((fail_if_success (((with_reducible refine' Dk ?x ?y); (case y => with_reducible assumption)))); first | ((with_reducible refine' sqt_upd ?s ?h ?q); (case h => with_reducible assumption); (case s => walk_at "same"); (case q => walk_at "sqt")) | (refine' aI.of ?x; (case x => (with_reducible refine' cq ?x2 ?y2); (case x2 => walk_at "ne"); (case y2 => walk_at "hlk")))) | ((with_reducible refine' ck ?x ?y); (case x => with_reducible assumption); (case y => walk_at "sqt")))
local macro_rules | `(tactic| walk_at "lk") => `(tactic| first | (with_reducible exact cz) | (refine' aJ ?x ?y; (case x => nofun); (case y => walk_at "lk")) | exact cz)
local macro_rules | `(tactic| walk_at "nolk") => `(tactic| first | (with_reducible rfl) | (refine' il ?x ?y; (case x => nofun); (case y => walk_at "nolk")) | rfl)
theorem RF {fs:List (Str×V)}{f:Str}{v:V}{n:Nat}(h:fs.length<n):(au f v fs).length<n+1:=abk (fK (aag _)) (Nat.succ_lt_succ h)
theorem RI {n:Nat}:([]:List (Str×V)).length<n+1:=Nat.succ_pos n
theorem RS {fs:List (Str×V)}{n:Nat}(h:fs.length<=9):fs.length<n+10:=abk h (aaz (ab8 9) (acL 10 n))
local macro_rules | `(tactic| walk_at "fewf") => `(tactic| with_reducible ((repeat refine RF ?_); first | exact RI | exact RS (by assumption)))
local macro_rules | `(tactic| walk_at "small") => `(tactic| first | exact aa2 rfl | (show _ <= aal; rw [aaI]; first | omega | (simp only [aac, aaG, acI, aab, aaC, aaZ, List.length_range]; omega)))
local macro_rules | `(tactic| walk_at "r2") => `(tactic| first
 | ((with_reducible refine' Fu ?h ?c ?n ?l ?_);(case h=>walk_at"hlk");(case c=>walk_at"cls");(case n=>walk_at"noat");(case l=>walk_at"lk"))
 | ((with_reducible refine' LH ?h ?c ?n ?l ?_);(case h=>walk_at"hlk");(case c=>walk_at"cls");(case n=>walk_at"noat");(case l=>walk_at"fewf"))
 | ((with_reducible refine' Mr ?h ?_);(case h=>walk_at"sql"))
 | ((with_reducible refine' dU ?h ?_);(case h=>walk_at"sql"))
 | ((with_reducible refine' CZ ?h ?_);(case h=>walk_at"sql"))
 | ((with_reducible refine' Lz ?h ?_);(case h=>walk_at"sqt"))
 | ((with_reducible refine' KA ?h ?_);(case h=>rfl))
 | ((with_reducible refine' JR ?h ?_);(case h=>rfl)))
local macro_rules | `(tactic| walk_at "none") => `(tactic| first | (with_reducible assumption) | ((with_reducible refine' aG ?x ?y); (case y => with_reducible assumption); (case x => walk_at "same")))
local macro_rules | `(tactic| walk_at "same") => `(tactic| first | (with_reducible assumption) | (with_reducible exact ao.refl _) | ((with_reducible refine' same_none ?x ?y); (case y => with_reducible assumption); (case x => walk_at "same")) | ((fail_if_success (((with_reducible refine' same_none ?x ?y); (case y => with_reducible assumption)))); (with_reducible refine' bA ?x ?y); (case y => walk_at "none"); (case x => walk_at "same")) | ((with_reducible refine' ao.trans ?x ?y); (case y => with_reducible assumption); (case x => walk_at "same")))
local macro_rules | `(tactic| walk_at "tt") => `(tactic| first | assumption | omega | with_unfolding_all rfl | decide | (simp only [aac, aaG, acI, aab, aaC, aaZ, dw]; omega))
local macro_rules | `(tactic| walk_at "nn") => `(tactic| first | assumption | omega | decide | (simp only [aac, aaG, acI, aab, aaC, aaZ, dw]; omega))
local macro_rules | `(tactic| walk_at "at") => `(tactic| first | assumption | ((with_reducible refine' PL ?x ?y); (case x => walk_at "tt"); (case y => walk_at "tt")) | rfl)
local macro_rules | `(tactic| walk_at "ty") => `(tactic| first | fail)
local macro_rules | `(tactic| walk_at "dp") => `(tactic| first | (with_reducible exact cG _) | (with_reducible exact dp_str _) | (with_reducible exact C3) | ((with_reducible refine' ju ?x ?y); (case x => walk_at "sql"); (case y => walk_at "dps")) | ((with_reducible refine' gD ?x ?y); (case x => walk_at "sqt"); (case y => walk_at "dps")))
local macro_rules | `(tactic| walk_at "dps") => `(tactic| first | (with_reducible exact cK) | ((with_reducible refine' aT ?x ?y); (case x => walk_at "dp"); (case y => walk_at "dps")))
local macro_rules | `(tactic| walk_at "rd") => `(tactic| (walk_at "rk"; repeat (walk_at "r2"; walk_at "rk")))
local macro_rules | `(tactic| walk_at "rds") => `(tactic| (walk_at "rd"; repeat' (walk_at "cs" <;> walk_at "rd")))
local macro_rules | `(tactic| walk_at "cmul") => `(tactic| first | exact Or.inl ⟨by decide, by decide⟩ | exact Or.inr ⟨by decide, by decide⟩ | exact Or.inl ⟨by omega, by omega⟩ | exact Or.inr ⟨by omega, by omega⟩)
set_option hygiene false
local macro_rules | `(tactic| walk_at "cs") => `(tactic| with_reducible first | refine eW (λhh => ?_) (λhh => ?_) | refine gP (λhh => ?_) (λhh => ?_) | refine cR (λhh => ?_) (λhh => ?_) | refine vz (λhh => ?_) (λhh => ?_) )
local macro_rules | `(tactic| walk_at "tf") => `(tactic| (show Q _ _; refine' q _ _ _ _ ?zs ?SU ?SV ?R9 ?Sy ?SK ?Si ?zt ?zb ?zp; (case zt => walk_at "hlk"); (case zb => walk_at "hlk"); (case zp => walk_at "hlk"); (case zs => walk_at "same"); (case SU => walk_at "none"); (case SV => walk_at "none"); (case R9 => walk_at "none"); (case Sy => walk_at "ne"); (case SK => walk_at "ne"); (case Si => walk_at "ne")))
local macro_rules | `(tactic| walk_at "cls") => `(tactic| first | assumption | exact T.Jj | exact T.jo | exact T.fi | exact T.jL | exact T.ig | exact T.hG | exact T.gX | exact T.jQ | exact T.jP | exact T.gW | exact T.fj | exact T.hU | exact T.fZ | exact T.cu)
local macro_rules | `(tactic| walk_at "noat") => `(tactic| first | assumption | exact T.uT | exact T.tW | exact T.G7 | exact T.Hm | exact T.CB | exact T.AZ | exact T.uX | exact T.G0 | exact T.Ba | exact T.DR | exact T.DZ | exact T.yR | exact T.yj | exact T.He | exact T.Et | exact T.F8 | exact T.DQ | exact T.Cg | exact T.yo | exact T.DB | exact T.EO | exact T.vX | exact T.uj | exact T.xa | exact T.tu | exact T.xh | exact T.uo | exact T.ui | exact T.qY | exact T.vI)
local macro_rules | `(tactic| walk_at "kit") => `(tactic| first | assumption | exact T.k9 | exact T.kU | exact T.rK | exact T.jl | exact T.j7 | exact T.o8 | exact T.lA | exact T.kW | exact T.sd | exact T.jr | exact T.jO | exact T.pB | exact T.ik | exact T.ir | exact T.lU | exact T.lE | exact T.lu | exact T.r_ | exact T.lC | exact T.kZ | exact T.rm | exact T.jR | exact T.jv | exact T.oC | exact T.iw | exact T.ie | exact T.mF | exact T.jX | exact T.jm | exact T.oK | exact T.ki | exact T.jE | exact T.oS | exact T.jH | exact T.jD | exact T.jw)
set_option hygiene true
set_option maxHeartbeats 4000000
local macro_rules | `(tactic| walk_at "sc") => `(tactic| exact ⟨rfl, rfl, rfl, by nofun, rfl, by nofun, by nofun⟩)
def top (i:Nat):Stmt:=PySem.Challenge.pw_frameback_k91_whole_the_reader_tells_the.main.body.getD i (.Pass ⟨0,0,0,0⟩)
abbrev nQ:Stmt:=inClass (top 5) 0
theorem lN:aq ["self","row"] ["self","row"] (ah nQ):=by walk_at"sc"
abbrev xQ:Stmt:=top 12
theorem vk:aq ["number","top"] ["number","top"] (ah xQ):=by walk_at"sc"
abbrev vL:Stmt:=top 15
theorem rM:aq ["boxes","box","value","changed"] ["boxes","box","value"] (ah vL):=by walk_at"sc"
abbrev r0:Stmt:=top 16
theorem pJ:aq ["box"] ["box"] (ah r0):=by walk_at"sc"
abbrev p9:Stmt:=top 17
theorem nJ:aq ["cell","high"] ["cell","high"] (ah p9):=by walk_at"sc"
abbrev xN:Stmt:=top 18
theorem vO:aq ["places","place"] ["places","place"] (ah xN):=by walk_at"sc"
abbrev zB:Stmt:=top 19
theorem xy:aq ["places","place","source"] ["places","place","source"] (ah zB):=by walk_at"sc"
abbrev dA:Stmt:=inClass (top 20) 0
theorem bD:aq ["self","at"] ["self","at"] (ah dA):=by walk_at"sc"
abbrev cY:Stmt:=inClass (top 20) 1
theorem bh:aq ["self","high"] ["self","high"] (ah cY):=by walk_at"sc"
abbrev eT:Stmt:=inClass (top 20) 2
theorem cF:aq ["self","places","high"] ["self","places","high"] (ah eT):=by walk_at"sc"
abbrev vj:Stmt:=inClass (top 21) 0
theorem rJ:aq ["self","box","number"] ["self","box","number"] (ah vj):=by walk_at"sc"
abbrev uQ:Stmt:=inClass (top 21) 1
theorem sj:aq ["self","at","boxes","pile"] ["self","at","boxes","pile"] (ah uQ):=by walk_at"sc"
abbrev r9:Stmt:=inClass (top 21) 2
theorem oB:aq ["self","places","high"] ["self","places","high"] (ah r9):=by walk_at"sc"
abbrev rL:Stmt:=inClass (top 22) 0
theorem pT:aq ["self","box","one"] ["self","box","one"] (ah rL):=by walk_at"sc"
abbrev rP:Stmt:=inClass (top 22) 1
theorem qf:aq ["self","at","boxes","pile"] ["self","at","boxes","pile"] (ah rP):=by walk_at"sc"
abbrev pD:Stmt:=inClass (top 22) 2
theorem nE:aq ["self","places","high"] ["self","places","high"] (ah pD):=by walk_at"sc"
abbrev jS:Stmt:=inClass (top 23) 0
theorem iY:aq ["self","box","one","other"] ["self","box","one","other"] (ah jS):=by walk_at"sc"
abbrev iZ:Stmt:=inClass (top 23) 1
theorem iC:aq ["self","places","high"] ["self","places","high"] (ah iZ):=by walk_at"sc"
abbrev uH:Stmt:=inClass (top 24) 0
theorem rV:aq ["self","at","boxes","pile","value"] ["self","at","boxes","pile"] (ah uH):=by walk_at"sc"
abbrev rz:Stmt:=inClass (top 25) 0
theorem oE:aq ["self","many"] ["self","many"] (ah rz):=by walk_at"sc"
abbrev rX:Stmt:=inClass (top 25) 1
theorem pY:aq ["self","at","boxes","pile"] ["self","at","boxes","pile"] (ah rX):=by walk_at"sc"
abbrev nX:Stmt:=inClass (top 25) 2
theorem l0:aq ["self","high"] ["self","high"] (ah nX):=by walk_at"sc"
abbrev nF:Stmt:=inClass (top 26) 0
theorem me:aq ["self","many"] ["self","many"] (ah nF):=by walk_at"sc"
abbrev nB:Stmt:=inClass (top 26) 1
theorem mI:aq ["self","at","boxes","pile","left"] ["self","at","boxes","pile"] (ah nB):=by walk_at"sc"
abbrev kJ:Stmt:=inClass (top 26) 2
theorem jJ:aq ["self","high"] ["self","high"] (ah kJ):=by walk_at"sc"
abbrev mD:Stmt:=inClass (top 26) 3
theorem kS:aq ["self","places","high","gone"] ["self","places","high"] (ah mD):=by walk_at"sc"
abbrev gm:Stmt:=inClass (top 27) 0
theorem eL:aq ["self","box","cell"] ["self","box","cell"] (ah gm):=by walk_at"sc"
abbrev fC:Stmt:=inClass (top 27) 1
theorem dS:aq ["self","high"] ["self","high"] (ah fC):=by walk_at"sc"
abbrev vG:Stmt:=inClass (top 28) 0
theorem rO:aq ["self","at","boxes","pile","changed"] ["self","at","boxes","pile"] (ah vG):=by walk_at"sc"
abbrev rC:Stmt:=inClass (top 28) 1
theorem qg:aq ["self","places","high"] ["self","places","high"] (ah rC):=by walk_at"sc"
abbrev vh:Stmt:=inClass (top 29) 0
theorem sq:aq ["self","at","boxes","pile","value"] ["self","at","boxes","pile"] (ah vh):=by walk_at"sc"
abbrev rF:Stmt:=inClass (top 29) 1
theorem p8:aq ["self","places","high"] ["self","places","high"] (ah rF):=by walk_at"sc"
abbrev qa:Stmt:=inClass (top 33) 0
theorem nY:aq ["self","entries","landings"] ["self","entries","landings"] (ah qa):=by walk_at"sc"
abbrev xK:Stmt:=top 34
theorem uP:aq ["entry","kept"] ["entry"] (ah xK):=by walk_at"sc"
abbrev mx:Stmt:=top 37
theorem kG:aq ["places"] ["places"] (ah mx):=by walk_at"sc"
abbrev rR:Stmt:=top 38
theorem pP:aq ["places","known","piece","place","cell"] ["places","known","piece"] (ah rR):=by walk_at"sc"
abbrev ko:Stmt:=top 39
theorem fS:aq ["entries","at","known","pile","entry","length","piece","found"] ["entries","at","known","pile"] (ah ko):=by walk_at"sc"
abbrev xB:Stmt:=top 40
theorem mT:aq ["table","row","boxes","pile","home","told","at","known","left","caller"] ["table","row","boxes","pile"] (ah xB):=by walk_at"sc"
abbrev rG:Stmt:=inClass (top 44) 0
theorem pA:aq ["self","target"] ["self","target"] (ah rG):=by walk_at"sc"
abbrev rj:Stmt:=inClass (top 44) 1
theorem o7:aq ["self","at","boxes","pile"] ["self","at","boxes","pile"] (ah rj):=by walk_at"sc"
abbrev rq:Stmt:=inClass (top 44) 2
theorem qd:aq ["self","at"] ["self","at"] (ah rq):=by walk_at"sc"
abbrev nM:Stmt:=inClass (top 45) 0
theorem lK:aq ["self","box","target"] ["self","box","target"] (ah nM):=by walk_at"sc"
abbrev nG:Stmt:=inClass (top 45) 1
theorem mJ:aq ["self","at","boxes","pile","coming"] ["self","at","boxes","pile"] (ah nG):=by walk_at"sc"
abbrev oo:Stmt:=inClass (top 45) 2
theorem mH:aq ["self","at"] ["self","at"] (ah oo):=by walk_at"sc"
abbrev rS:Stmt:=inClass (top 46) 0
theorem pR:aq ["self","target"] ["self","target"] (ah rS):=by walk_at"sc"
abbrev si:Stmt:=inClass (top 46) 1
theorem oN:aq ["self","at","boxes","pile"] ["self","at","boxes","pile"] (ah si):=by walk_at"sc"
abbrev oG:Stmt:=inClass (top 46) 2
theorem nI:aq ["self","places","high"] ["self","places","high"] (ah oG):=by walk_at"sc"
abbrev rp:Stmt:=inClass (top 47) 0
theorem pC:aq ["self","box"] ["self","box"] (ah rp):=by walk_at"sc"
abbrev rT:Stmt:=inClass (top 47) 1
theorem oU:aq ["self","at","boxes","pile"] ["self","at","boxes","pile"] (ah rT):=by walk_at"sc"
abbrev rB:Stmt:=inClass (top 47) 2
theorem pW:aq ["self","at"] ["self","at"] (ah rB):=by walk_at"sc"
abbrev rN:Stmt:=inClass (top 48) 0
theorem oX:aq ["self","box"] ["self","box"] (ah rN):=by walk_at"sc"
abbrev sr:Stmt:=inClass (top 48) 1
theorem pZ:aq ["self","at","boxes","pile"] ["self","at","boxes","pile"] (ah sr):=by walk_at"sc"
abbrev so:Stmt:=inClass (top 48) 2
theorem p_:aq ["self","at"] ["self","at"] (ah so):=by walk_at"sc"
abbrev BE:Stmt:=top 51
theorem xR:aq ["number","entries"] ["number","entries"] (ah BE):=by walk_at"sc"
abbrev iX:Stmt:=top 52
theorem iJ:aq ["entry","high","beyond"] ["entry"] (ah iX):=by walk_at"sc"
abbrev oa:Stmt:=top 53
theorem mz:aq ["row","entry"] ["row","entry"] (ah oa):=by walk_at"sc"
abbrev kC:Stmt:=top 54
theorem jA:aq ["row","entry"] ["row","entry"] (ah kC):=by walk_at"sc"
abbrev kF:Stmt:=top 55
theorem kg:aq ["row","entry","coming","entries","there","name","ours","theirs"] ["row","entry","coming","entries"] (ah kF):=by walk_at"sc"
abbrev iF:Stmt:=top 56
theorem gS:aq ["row","entries"] ["row","entries"] (ah iF):=by walk_at"sc"
abbrev rl:Stmt:=top 57
theorem qc:aq ["numbers","told","number"] ["numbers"] (ah rl):=by walk_at"sc"
abbrev jN:Stmt:=top 58
theorem fF:aq ["code","entries","at","row","entry","own","found"] ["code","entries","at"] (ah jN):=by walk_at"sc"
abbrev gU:Stmt:=top 59
theorem gk:aq ["code","entries","at","landing","entry"] ["code","entries","at","landing"] (ah gU):=by walk_at"sc"
abbrev x8:Stmt:=top 60
theorem mQ:aq ["code","table","entries","complaints","at","landing","what"] ["code","table"] (ah x8):=by walk_at"sc"
abbrev xu:Stmt:=top 62
theorem vx:aq ["code","landings","at","ways"] ["code","landings","at"] (ah xu):=by walk_at"sc"
abbrev CN:Stmt:=top 63
theorem BH:aq ["heights","waiting","at","high"] ["heights","waiting","at","high"] (ah CN):=by walk_at"sc"
abbrev qh:Stmt:=top 64
theorem eR:aq ["code","ways","heights","waiting","at","behind","coming"] ["code","ways"] (ah qh):=by walk_at"sc"
abbrev AJ:Stmt:=top 65
theorem xJ:aq ["sets","changed","at","places","left"] ["sets","changed","at","places"] (ah AJ):=by walk_at"sc"
abbrev rD:Stmt:=top 66
theorem gF:aq ["code","ways","heights","first","sets","changed","wave","at","kept","coming"] ["code","ways","heights","first"] (ah rD):=by walk_at"sc"
abbrev pL:Stmt:=top 67
theorem eN:aq ["code","landings","ways","heights","found","entries","high","back","four","five","six"] ["code","landings"] (ah pL):=by walk_at"sc"
abbrev C6:Stmt:=top 68
theorem sO:aq ["code","landings","known","table"] ["code","landings"] (ah C6):=by walk_at"sc"
abbrev xY:Stmt:=top 70
theorem ue:aq ["boxes"] ["boxes"] (ah xY):=by walk_at"sc"
abbrev lZ:Stmt:=inClass (top 71) 0
theorem kT:aq ["self","code","table","boxes","start"] ["self","code","table","boxes","start"] (ah lZ):=by walk_at"sc"
abbrev fA:Stmt:=inClass (top 71) 1
theorem fk:aq ["self","coming"] ["self","coming"] (ah fA):=by walk_at"sc"
abbrev o9:Stmt:=inClass (top 71) 2
theorem nO:aq ["self"] ["self"] (ah o9):=by walk_at"sc"
abbrev kL:Stmt:=inClass (top 71) 3
theorem jq:aq ["self"] ["self"] (ah kL):=by walk_at"sc"
abbrev l_:Stmt:=inClass (top 71) 4
theorem ku:aq ["self"] ["self"] (ah l_):=by walk_at"sc"
abbrev mE:Stmt:=inClass (top 71) 5
theorem km:aq ["self"] ["self"] (ah mE):=by walk_at"sc"
abbrev lX:Stmt:=inClass (top 71) 6
theorem kQ:aq ["self"] ["self"] (ah lX):=by walk_at"sc"
abbrev lO:Stmt:=inClass (top 71) 8
theorem kr:aq ["self","row"] ["self"] (ah lO):=by walk_at"sc"
abbrev pO:Stmt:=inClass (top 71) 9
theorem nz:aq ["self","row","done"] ["self","row"] (ah pO):=by walk_at"sc"
abbrev jy:Stmt:=inClass (top 71) 10
theorem fD:aq ["self","many","left"] ["self","many"] (ah jy):=by walk_at"sc"
abbrev kP:Stmt:=inClass (top 71) 11
theorem kh:aq ["self","coming","boxes","pile"] ["self","coming","boxes","pile"] (ah kP):=by walk_at"sc"
abbrev lH:Stmt:=inClass (top 71) 12
theorem gL:aq ["self","value","told","looked_at","caller"] ["self","value"] (ah lH):=by walk_at"sc"
abbrev mr:Stmt:=inClass (top 71) 13
theorem gi:aq ["self","value","caller","looked_at","coming","boxes"] ["self","value","caller","looked_at"] (ah mr):=by walk_at"sc"
abbrev nK:Stmt:=top 73
theorem lS:aq ["_law_script","_law_k"] ["_law_script","_law_k"] (ah nK):=by walk_at"sc"
abbrev rA:Stmt:=top 74
theorem qm:aq ["_law_cell"] ["_law_cell"] (ah rA):=by walk_at"sc"
abbrev xp:Stmt:=top 75
theorem vC:aq ["_law_told","_law_word","_law_box","_law_part"] ["_law_told"] (ah xp):=by walk_at"sc"
abbrev uA:Stmt:=top 76
theorem kX:aq ["_law_cells","_law_saved","_law_spare","_law_at","_law_rows","_law_cell","_law_kind","_law_box","_law_kept"] ["_law_cells","_law_saved","_law_spare","_law_at"] (ah uA):=by walk_at"sc"
abbrev ml:Stmt:=top 77
theorem cU:aq ["_law_cell","_law_cells","_law_at","_law_saved","_law_height","_law_turn","_law_places","_law_spare","_law_rows","_law_cut","_law_end"] ["_law_cell","_law_cells","_law_at"] (ah ml):=by walk_at"sc"
abbrev uN:Stmt:=top 78
theorem se:aq ["_law_script","_law_many","_law_rows","_law_starts","_law_landings","_law_k","_law_part","_law_end","_law_j","_law_way","_law_found","_law_told"] ["_law_script"] (ah uN):=by walk_at"sc"
abbrev nA:Stmt:=top 79
theorem ma:aq ["_law_cell","_law_many","_law_kind","_law_box","_law_part"] ["_law_cell","_law_many"] (ah nA):=by walk_at"sc"
abbrev lV:Stmt:=top 80
theorem gw:aq ["_law_script","_law_many","_law_rows","_law_landings","_law_cell"] ["_law_script"] (ah lV):=by walk_at"sc"
abbrev kA:Stmt:=top 81
theorem jU:aq ["_law_cell","_law_height","_law_many","_law_part","_law_kept"] ["_law_cell"] (ah kA):=by walk_at"sc"
abbrev kE:Stmt:=top 82
theorem jZ:aq ["_law_cell","_law_many","_law_box","_law_some"] ["_law_cell","_law_many"] (ah kE):=by walk_at"sc"
abbrev oA:Stmt:=top 83
theorem nZ:aq ["_law_entry","_law_cell","_law_height","_law_back","_law_kept"] ["_law_entry","_law_cell"] (ah oA):=by walk_at"sc"
abbrev rE:Stmt:=top 84
theorem gr:aq ["_law_script","_law_code_here","_law_landings","_law_table_here","_law_entries","_law_at"] ["_law_script","_law_code_here","_law_landings"] (ah rE):=by walk_at"sc"
abbrev nW:Stmt:=top 85
theorem lG:aq ["_law_book","_law_landings","_law_home","_law_k"] ["_law_book","_law_landings","_law_home"] (ah nW):=by walk_at"sc"
abbrev vv:Stmt:=top 86
theorem kY:aq ["_law_machine","_law_table_here","_law_book","_law_found"] ["_law_machine","_law_table_here","_law_book"] (ah vv):=by walk_at"sc"
abbrev kR:Stmt:=top 87
theorem ke:aq ["_law_script","_law_code_here","_law_landings","_law_entries","_law_k"] ["_law_script","_law_code_here","_law_landings"] (ah kR):=by walk_at"sc"
abbrev gB:Stmt:=top 88
theorem pH:aq ["_law_script","_law_anyhow","_law_rows","_law_landings","_law_other","_law_code_here","_law_table_here","_law_boxes","_law_machine","_law_book","_law_k","_law_at","_law_held_here","_law_length"] ["_law_script"] (ah gB):=by walk_at"sc"
abbrev cB (K:W.Frag)(mg:Str->Option Value)(x:Str)(st:Stmt)(ps:List Str):Prop:=∃ f fd,dY K x x st f fd/\mg x=some (.ref f)/\Binds K fd ps []
abbrev bE (K:W.Frag)(C:Addr)(x q:Str)(st:Stmt)(ps:List Str):Prop:=∃ f fd,dY K x q st f fd/\Aj K C x f/\Binds K fd ps []
abbrev oq (K:W.Frag)(C:Addr)(q:Str)(st:Stmt)(ps:List Str):Prop:=∃ f fd,dY K "__init__" q st f fd/\Mk K C f/\Binds K fd ps []
abbrev de (K:W.Frag)(C D:Addr)(b:Bool):Prop:=acj K (.ref C) (.ref D)=some b
abbrev nU (K:W.Frag)(C:Addr):Prop:=abg K (.ref C) "__class__" = some (some (.builtin "object.__class__"))/\W.mroIn K C (.type "object")=some true
local macro_rules | `(tactic| walk_at "L") => `(tactic| (repeat first | (with_reducible assumption) | (exact aa) | ((with_reducible refine' cq ?zx ?_);(case zx=>with_reducible assumption)) | ((with_reducible refine' ai ?_ ?zy);(case zy=>with_reducible assumption))))
set_option hygiene false
local macro_rules | `(tactic| walk_at "A") => `(tactic| exact ⟨⟨by simp only[Rw.ok,aH,isVal,aF,aM];lia,aan⟩,by simp only[bN];lia⟩)
set_option hygiene true
local macro_rules | `(tactic| symm) => `(tactic| walk_at "rd")
local macro_rules | `(tactic| ac_rfl) => `(tactic| walk_at "rk")
structure Txt (K:W.Frag)(mg:Str->Option Value)(a:bG):Prop where
 Qm:mg "all" = none
 PN:mg "any" = none
 OE:mg "dict" = none
 BZ:mg "enumerate" = none
 Qt:mg "int" = none
 pX:mg "isinstance" = none
 ja:mg "len" = none
 zZ:mg "list" = none
 JV:mg "max" = none
 fU:mg "range" = none
 DM:mg "reversed" = none
 IB:mg "sorted" = none
 y_:mg "zip" = none
 sV:∃ t,mg "FIRST_CELL_BIT" = some (abt 8 t)
 oF:mg "KEPT_BOXES" = some (.ref a.gQ)
 jz:(∀ H,aI K H a.gQ [.int 4,.int 5,.int 6])
 Ol:∃ t,mg "LINK" = some (abt 7 t)
 vV:∃ t,mg "LOST_BY_CALL" = some (abt 143 t)
 xc:∃ t,mg "MOST_CALLERS" = some (abt 5000 t)
 rQ:mg "SET_NAMES" = some (.ref a.iA)
 lD:(∀ H,aI K H a.iA [.str "back",.int 4,.int 5,.int 6])
 lL:mg "START" = some (.ref a.jk)
 lI:∃ U8:Addr,(∀ H,aI K H a.jk [.int 0,.int 128,.ref U8])/\(∀ H,aI K H U8 [.int 16,.int 32,.int 64])
 GL:∃ t,mg "TOP_BOX" = some (abt 7 t)
 Ct:∃ t,mg "TOP_CELLS" = some (abt 4000 t)
 BG:∃ t,mg "TOP_TARGET" = some (abt 2000 t)
 BO:∃ t,mg "TOP_VALUE" = some (abt 4294967295 t)
 JA:∃ t,mg "VALUES" = some (abt 4294967296 t)
 QA:mg "Add" = some (.ref a.cI)
 Rn:mg "Astray" = some (.ref a.dE)
 FV:mg "Back" = some (.ref a.a_)
 Jc:mg "Branch" = some (.ref a.bt)
 AF:mg "Call" = some (.ref a.aY)
 M4:mg "Copy" = some (.ref a.bX)
 G9:mg "Drop" = some (.ref a.bc)
 M9:mg "FrameError" = some (.ref a.pS)
 Qc:mg "Get" = some (.ref a.cM)
 Nr:mg "Grow" = some (.ref a.cm)
 O7:mg "Jump" = some (.ref a.cp)
 FZ:mg "Machine" = some (.ref a.ax)
 R3:mg "NoRow" = some (.ref a.La)
 QR:mg "NoTable" = some (.ref a.fe)
 PZ:mg "Put" = some (.ref a.cO)
 Qv:mg "Set" = some (.ref a.cN)
 IK:mg "Shrink" = some (.ref a.bB)
 Mb:mg "Table" = some (.ref a.b3)
 Jj:er K a.b3
 uT:a8 K a.b3 "entries"
 tW:a8 K a.b3 "landings"
 Lj:∃ f fd,fm K "__init__" "Table.__init__" qa f fd/\Mk K a.b3 f/\Binds K fd ["self","entries","landings"] []/\Binds K fd ["self","entries","landings"] [.none]
 jo:er K a.cI
 G7:a8 K a.cI "box"
 Hm:a8 K a.cI "one"
 CB:a8 K a.cI "other"
 P_:oq K a.cI "Reckoning.__init__" jS ["self","box","one","other"]
 Ek:bE K a.cI "goes" "Row.goes" dA ["self","at"]
 BD:bE K a.cI "height" "Row.height" cY ["self","high"]
 BN:bE K a.cI "keeps" "Reckoning.keeps" iZ ["self","places","high"]
 Er:bE K a.cI "runs" "Add.runs" uH ["self","at","boxes","pile"]
 fi:er K a.bt
 AZ:a8 K a.bt "box"
 uX:a8 K a.bt "target"
 ID:oq K a.bt "Branch.__init__" nM ["self","box","target"]
 yu:bE K a.bt "goes" "Branch.goes" oo ["self","at"]
 vB:bE K a.bt "height" "Row.height" cY ["self","high"]
 vR:bE K a.bt "keeps" "Row.keeps" eT ["self","places","high"]
 yK:bE K a.bt "runs" "Branch.runs" nG ["self","at","boxes","pile"]
 jL:er K a.cN
 G0:a8 K a.cN "box"
 Ba:a8 K a.cN "number"
 PX:oq K a.cN "Set.__init__" vj ["self","box","number"]
 Ec:bE K a.cN "goes" "Row.goes" dA ["self","at"]
 AE:bE K a.cN "height" "Row.height" cY ["self","high"]
 BW:bE K a.cN "keeps" "Set.keeps" r9 ["self","places","high"]
 EK:bE K a.cN "runs" "Set.runs" uQ ["self","at","boxes","pile"]
 ig:er K a.bX
 DR:a8 K a.bX "box"
 DZ:a8 K a.bX "one"
 Nb:oq K a.bX "Copy.__init__" rL ["self","box","one"]
 Cd:bE K a.bX "goes" "Row.goes" dA ["self","at"]
 yz:bE K a.bX "height" "Row.height" cY ["self","high"]
 Bj:bE K a.bX "keeps" "Copy.keeps" pD ["self","places","high"]
 CI:bE K a.bX "runs" "Copy.runs" rP ["self","at","boxes","pile"]
 hG:er K a.cp
 yR:a8 K a.cp "target"
 M6:oq K a.cp "Jump.__init__" rG ["self","target"]
 B5:bE K a.cp "goes" "Jump.goes" rq ["self","at"]
 yO:bE K a.cp "height" "Row.height" cY ["self","high"]
 AG:bE K a.cp "keeps" "Row.keeps" eT ["self","places","high"]
 CA:bE K a.cp "runs" "Jump.runs" rj ["self","at","boxes","pile"]
 gX:er K a.aY
 yj:a8 K a.aY "target"
 OK:oq K a.aY "Call.__init__" rS ["self","target"]
 BU:bE K a.aY "goes" "Row.goes" dA ["self","at"]
 yh:bE K a.aY "height" "Row.height" cY ["self","high"]
 Bz:bE K a.aY "keeps" "Call.keeps" oG ["self","places","high"]
 CG:bE K a.aY "runs" "Call.runs" si ["self","at","boxes","pile"]
 jQ:er K a.cO
 He:a8 K a.cO "box"
 Et:a8 K a.cO "cell"
 Qw:oq K a.cO "Reaching.__init__" gm ["self","box","cell"]
 Dy:bE K a.cO "goes" "Row.goes" dA ["self","at"]
 AI:bE K a.cO "height" "Reaching.height" fC ["self","high"]
 BQ:bE K a.cO "keeps" "Put.keeps" rC ["self","places","high"]
 Ei:bE K a.cO "runs" "Put.runs" vG ["self","at","boxes","pile"]
 jP:er K a.cM
 F8:a8 K a.cM "box"
 DQ:a8 K a.cM "cell"
 Qj:oq K a.cM "Reaching.__init__" gm ["self","box","cell"]
 EX:bE K a.cM "goes" "Row.goes" dA ["self","at"]
 z9:bE K a.cM "height" "Reaching.height" fC ["self","high"]
 CD:bE K a.cM "keeps" "Get.keeps" rF ["self","places","high"]
 D1:bE K a.cM "runs" "Get.runs" vh ["self","at","boxes","pile"]
 gW:er K a.cm
 Cg:a8 K a.cm "many"
 NL:oq K a.cm "Grow.__init__" rz ["self","many"]
 Cj:bE K a.cm "goes" "Row.goes" dA ["self","at"]
 yQ:bE K a.cm "height" "Grow.height" nX ["self","high"]
 Au:bE K a.cm "keeps" "Row.keeps" eT ["self","places","high"]
 B3:bE K a.cm "runs" "Grow.runs" rX ["self","at","boxes","pile"]
 fj:er K a.bB
 yo:a8 K a.bB "many"
 Ju:oq K a.bB "Shrink.__init__" nF ["self","many"]
 yB:bE K a.bB "goes" "Row.goes" dA ["self","at"]
 ug:bE K a.bB "height" "Shrink.height" kJ ["self","high"]
 wg:bE K a.bB "keeps" "Shrink.keeps" mD ["self","places","high"]
 yn:bE K a.bB "runs" "Shrink.runs" nB ["self","at","boxes","pile"]
 hU:er K a.a_
 DB:a8 K a.a_ "box"
 Oq:oq K a.a_ "Back.__init__" rp ["self","box"]
 Cz:bE K a.a_ "goes" "Back.goes" rB ["self","at"]
 yA:bE K a.a_ "height" "Row.height" cY ["self","high"]
 Bq:bE K a.a_ "keeps" "Row.keeps" eT ["self","places","high"]
 Cf:bE K a.a_ "runs" "Back.runs" rT ["self","at","boxes","pile"]
 fZ:er K a.bc
 EO:a8 K a.bc "box"
 Nk:oq K a.bc "Drop.__init__" rN ["self","box"]
 B7:bE K a.bc "goes" "Drop.goes" so ["self","at"]
 yP:bE K a.bc "height" "Row.height" cY ["self","high"]
 z8:bE K a.bc "keeps" "Row.keeps" eT ["self","places","high"]
 Cw:bE K a.bc "runs" "Drop.runs" sr ["self","at","boxes","pile"]
 cu:er K a.ax
 vX:a8 K a.ax "code"
 uj:a8 K a.ax "table"
 xa:a8 K a.ax "home"
 tu:a8 K a.ax "coming"
 xh:a8 K a.ax "held"
 uo:a8 K a.ax "cells"
 ui:a8 K a.ax "calls"
 qY:a8 K a.ax "dropped"
 vI:a8 K a.ax "state"
 EY:∃ f fd dv,lF K dv "__init__" "Machine.__init__" lZ f fd/\Mk K a.ax f/\Binds K fd ["self","code","table","boxes","start"] []/\Binds K fd ["self","code","table","boxes","start"] [dv]/\RelV (.int 0) dv
 BA:bE K a.ax "at" "Machine.at" o9 ["self"]
 vP:bE K a.ax "book" "Machine.book" lX ["self"]
 uu:bE K a.ax "boxes" "Machine.boxes" kL ["self"]
 Bb:bE K a.ax "do" "Machine.do" pO ["self","row"]
 vZ:bE K a.ax "drop" "Machine.drop" lH ["self","value"]
 tP:bE K a.ax "forget" "Machine.forget" jy ["self","many"]
 vE:bE K a.ax "go_on" "Machine.go_on" kP ["self","coming","boxes","pile"]
 wj:bE K a.ax "land" "Machine.land" mr ["self","value","caller","looked_at"]
 wJ:bE K a.ax "pile" "Machine.pile" l_ ["self"]
 wB:bE K a.ax "step" "Machine.step" lO ["self"]
 wQ:bE K a.ax "word" "Machine.word" mE ["self"]
 kl:bE K a.ax "word_ahead_of" "Machine.word_ahead_of" fA ["self","coming"]
 uC:nU K a.cN
 k9:de K a.cN a.aY false
 kU:de K a.cN a.a_ false
 rK:de K a.cN a.bc false
 qJ:nU K a.bX
 jl:de K a.bX a.aY false
 j7:de K a.bX a.a_ false
 o8:de K a.bX a.bc false
 uE:nU K a.cI
 lA:de K a.cI a.aY false
 kW:de K a.cI a.a_ false
 sd:de K a.cI a.bc false
 qH:nU K a.cm
 jr:de K a.cm a.aY false
 jO:de K a.cm a.a_ false
 pB:de K a.cm a.bc false
 kH:nU K a.bB
 ik:de K a.bB a.aY false
 ir:de K a.bB a.a_ false
 lU:de K a.bB a.bc false
 uv:nU K a.cO
 lE:de K a.cO a.aY false
 lu:de K a.cO a.a_ false
 r_:de K a.cO a.bc false
 ud:nU K a.cM
 lC:de K a.cM a.aY false
 kZ:de K a.cM a.a_ false
 rm:de K a.cM a.bc false
 qQ:nU K a.cp
 jR:de K a.cp a.aY false
 jv:de K a.cp a.a_ false
 oC:de K a.cp a.bc false
 kq:nU K a.bt
 iw:de K a.bt a.aY false
 ie:de K a.bt a.a_ false
 mF:de K a.bt a.bc false
 qN:nU K a.aY
 jX:de K a.aY a.aY true
 jm:de K a.aY a.a_ false
 oK:de K a.aY a.bc false
 qC:nU K a.a_
 ki:de K a.a_ a.aY false
 jE:de K a.a_ a.a_ true
 oS:de K a.a_ a.bc false
 jh:nU K a.bc
 jH:de K a.bc a.aY false
 jD:de K a.bc a.a_ false
 jw:de K a.bc a.bc true
 eP:W.specialIn K (.builtin "object.__class__") "__get__" = some (some (.builtin "getset_descriptor.__get__"))
 eO:W.takesIn K (.builtin "object.__class__")=some true
 iL:Ae K mg "NoTable" a.fe
 QL:Ot K a.fe
 Fz:∃ f fd,dY K "__init__" "Astray.__init__" nQ f fd/\k7 K mg "Astray" a.dE f/\Binds K fd ["self","row"] []
 xo:∃ f,k7 K mg "Astray" a.dE f
 QU:Ot K a.dE
 FI:vU K a.dE "row"
 Q1:abg K (.ref a.dE) "row" = some none
 QP:((W.clsIn K a.dE).any (·.hasDict))=true
 yH:Ke K mg "FrameError" a.pS
 Px:acj K (.type "list") (.type "list")=some true
 Mm:acj K (.type "tuple") (.type "tuple")=some true
 PH:acj K (.type "int") (.type "bool")=some false
 DA:cB K mg "bounded" xQ ["number","top"]
 Cv:cB K mg "with_box" vL ["boxes","box","value"]
 Aw:cB K mg "box_place" r0 ["box"]
 yw:cB K mg "cell_place" p9 ["cell","high"]
 Dt:cB K mg "without" xN ["places","place"]
 GI:cB K mg "filled" zB ["places","place","source"]
 DN:cB K mg "sets_of" xK ["entry"]
 uk:cB K mg "lowest_place" mx ["places"]
 zM:cB K mg "looked_up" rR ["places","known","piece"]
 tG:cB K mg "newest_caller" ko ["entries","at","known","pile"]
 EE:cB K mg "callers" xB ["table","row","boxes","pile"]
 G5:cB K mg "is_row" BE ["number","entries"]
 pM:cB K mg "has_wrong_place" iX ["entry"]
 w9:cB K mg "may_go_back" oa ["row","entry"]
 tE:cB K mg "own_complaint" kC ["row","entry"]
 t8:cB K mg "way_complaint" kF ["row","entry","coming","entries"]
 oy:cB K mg "target_complaint" iF ["row","entries"]
 AW:cB K mg "each_once" rl ["numbers"]
 qX:cB K mg "row_complaints" jN ["code","entries","at"]
 nu:cB K mg "landing_complaint" gU ["code","entries","at","landing"]
 D2:cB K mg "checked" x8 ["code","table"]
 Eu:cB K mg "ways_on" xu ["code","landings","at"]
 HU:cB K mg "reach" CN ["heights","waiting","at","high"]
 yI:cB K mg "heights_of" qh ["code","ways"]
 E7:cB K mg "narrow" AJ ["sets","changed","at","places"]
 Bd:cB K mg "places_of" rD ["code","ways","heights","first"]
 yC:cB K mg "entries_of" pL ["code","landings"]
 IU:∃ f fd,fm K "guess" "guess" C6 f fd/\mg "guess" = some (.ref f)/\Binds K fd ["code","landings"] []/\Binds K fd ["code","landings"] [.none]
 Es:cB K mg "kept_of" xY ["boxes"]
 vT:cB K mg "_law_cell_at" nK ["_law_script","_law_k"]
 Bm:cB K mg "_law_value" rA ["_law_cell"]
 Du:cB K mg "_law_row" xp ["_law_told"]
 BM:cB K mg "_law_body" uA ["_law_cells","_law_saved","_law_spare","_law_at"]
 vy:cB K mg "_law_function" ml ["_law_cell","_law_cells","_law_at"]
 Ca:cB K mg "_law_code" uN ["_law_script"]
 wU:cB K mg "_law_any_row" nA ["_law_cell","_law_many"]
 vg:cB K mg "_law_any_code" lV ["_law_script"]
 s_:cB K mg "_law_any_entry" kA ["_law_cell"]
 tQ:cB K mg "_law_other_row" kE ["_law_cell","_law_many"]
 yT:cB K mg "_law_turned" oA ["_law_entry","_law_cell"]
 Ao:cB K mg "_law_table" rE ["_law_script","_law_code_here","_law_landings"]
 wc:cB K mg "_law_landing" nW ["_law_book","_law_landings","_law_home"]
 BK:cB K mg "_law_held" vv ["_law_machine","_law_table_here","_law_book"]
 ub:cB K mg "_law_any_table" kR ["_law_script","_law_code_here","_law_landings"]
 SO:cB K mg "law" gB ["_law_script"]
def lowP (p:Int):Int:=((abn (aaJ p (-p)):Nat):Int) - 1
theorem Hk {n:Nat}(h : 0<n):aaJ (n:Int) (-(n:Int))=((Bt.wo n (n - 1):Nat):Int):=by
 rw[show -(n:Int)=aav ((n - 1:Nat):Int) from by unfold aav;lia,fV]
theorem Jh (i:Nat):abn ((2 ^ i:Nat):Int)=i+1:=by
 have h1:abn ((2 ^ i:Nat):Int)<=i+1:=PySem.intBits_le_iff.mpr (by rw[acT];exact adB (by decide) (by lia));have h2 : ¬ abn ((2 ^ i:Nat):Int)<=i:=λz=>by
   have:=PySem.intBits_le_iff.mp z
   rw[acT] at this;exact absurd this (abB _)
 lia
theorem MB {n i:Nat}(h : 0<n)(e:Bt.wo n (n - 1)=2 ^ i):lowP (n:Int)=i:=by
 unfold lowP;rw[Hk h,e,Jh];lia
structure Ent where
 h:Int
 b:Int
 v4:Int
 v5:Int
 v6:Int
def Ent.dI (e:Ent):List Int:=[e.b,e.v4,e.v5,e.v6]
def iy (K:W.Frag)(H:Hp)(p:Addr)(e:Ent):Prop:=∃ q,aI K H p [.int e.h,.int e.b,.ref q]/\aI K H q [.int e.v4,.int e.v5,.int e.v6]
variable {e:Ent} {p:Addr} {H H':Hp}
theorem iy.same {K:W.Frag}(h:iy K H p e)(s:ao H H'):iy K H' p e:=let ⟨q,h1,h2⟩:=h;⟨q,ck s h1,ck s h2⟩
def iS (K:W.Frag)(H:Hp)(v:V):Option Ent->Prop
 | none=>v=.aC
 | some e=>∃ p,v=.ref p/\iy K H p e
variable {oe:Option Ent}
theorem iS.same {K:W.Frag}{v:V}(h:iS K H v oe)(s:ao H H'):iS K H' v oe:=by
 cases oe with
 | none=>exact h
 | some e=>obtain⟨p,e1,e2⟩:=h;exact⟨p,e1,e2.same s⟩
def bJ (K:W.Frag)(H:Hp)(vs:List V)(es:List (Option Ent)):Prop:=vs.length=es.length/\∀ (i:Nat) (oe:Option Ent),es[i]? = some oe->∃ v,vs[i]? = some v/\iS K H v oe
variable {es:List (Option Ent)} {vs:List V}
theorem bJ.same {K:W.Frag}(h:bJ K H vs es)(s:ao H H'):bJ K H' vs es :=
 ⟨h.1,λi oe e=>let ⟨v,e1,e2⟩:=h.2 i oe e;⟨v,e1,e2.same s⟩⟩
theorem bJ.snoc {K:W.Frag}{v:V}(h:bJ K H vs es)(hv:iS K H v oe):bJ K H (vs++[v]) (es++[oe]):=by
 refine⟨by rw[aab,aab,h.1];rfl,λi o e=>?_⟩;by_cases hi:i<es.length
 . rw[aas hi] at e;obtain⟨u,e1,e2⟩:=h.2 i o e;exact⟨u,by rw[aas (by rw[h.1];exact hi)];exact e1,e2⟩
 . rw[aaq (by lia)] at e;have UK:i - es.length=0:=by
     rcases Nat.eq_zero_or_pos (i - es.length) with z | z
     . exact z
     . rw[abS (by simp;lia)] at e;cases e
   rw[UK] at e;cases e
   exact⟨v,by rw[aaq (by rw[h.1];lia),h.1,UK];rfl,hv⟩
theorem bJ.nil {K:W.Frag}:bJ K H [] []:=⟨rfl,λi oe e=>by simp at e⟩
def fG:Option Ent->PyData
 | none=>.none
 | some e=>.tuple [.int e.h,.int e.b,.tuple [.int e.v4,.int e.v5,.int e.v6]]
theorem iS.dp {K:W.Frag}{v:V}(h:iS K H v oe):Dp K H (fG oe) v:=by
 cases oe with
 | none=>cases h;exact C3
 | some e =>
   obtain⟨p,rfl,q,h1,h2⟩:=h;exact gD h1 (aT (cG _) (aT (cG _) (aT (gD h2 (aT (cG _) (aT (cG _) (aT (cG _) cK)))) cK)))
theorem jc (e:Option Ent):shaped (fG e)=true:=by cases e <;> rfl
structure bK where
 r:Int
 a:Int
 b:Int
 c:Int
 n:Int
def iQ (H:Hp)(v:V)(c:bK):Prop:=∃ t q,v=.ref t/\H t=some (.tup [.int c.r,.ref q,.int c.n])/\H q=some (.tup [.int c.a,.int c.b,.int c.c])
variable {c:bK}
theorem iQ.same {v:V}(h:iQ H v c)(s:ao H H'):iQ H' v c:=let ⟨t,q,e,h1,h2⟩:=h;⟨t,q,e,s _ _ h1,s _ _ h2⟩
def aZ (H:Hp):List V->List bK->Prop
 | [],[]=>True
 | v::vs,c::cs=>iQ H v c/\aZ H vs cs
 | _,_=>False
theorem aZ.same (s:ao H H'):∀ {vs:List V} {cs:List bK},aZ H vs cs->aZ H' vs cs
 | [],[],_=>aan
 | _::_,_::_,h=>⟨h.1.same s,aZ.same s h.2⟩
 | [],_::_,h=>h.elim
 | _::_,[],h=>h.elim
theorem aZ.snoc {v:V}(hv:iQ H v c):∀ {vs:List V} {cs:List bK},aZ H vs cs->aZ H (vs++[v]) (cs++[c])
 | [],[],_=>⟨hv,aan⟩
 | _::_,_::_,h=>⟨h.1,aZ.snoc hv h.2⟩
 | [],_::_,h=>h.elim
 | _::_,[],h=>h.elim
theorem aZ.len:∀ {vs:List V} {cs:List bK},aZ H vs cs->vs.length=cs.length
 | [],[],_=>rfl
 | _::_,_::_,h=>by rw[aaG,aaG,aZ.len h.2]
 | [],_::_,h=>h.elim
 | _::_,[],h=>h.elim
variable {o:HO} {ys:List V}
theorem iQ.upd {v:V}(hp:H p=some (.lst ys))(h:iQ H v c):iQ (upd H p o) v c:=by
 obtain⟨t,q,e,h1,h2⟩:=h;refine⟨t,q,e,?_,?_⟩
 . rw[ak (λz=>by subst z;rw[hp] at h1;cases h1)];exact h1
 . rw[ak (λz=>by subst z;rw[hp] at h2;cases h2)];exact h2
theorem aZ.upd (hp:H p=some (.lst ys)):∀ {vs:List V} {cs:List bK},aZ H vs cs->aZ (upd H p o) vs cs
 | [],[],_=>aan
 | _::_,_::_,h=>⟨h.1.upd hp,aZ.upd hp h.2⟩
 | [],_::_,h=>h.elim
 | _::_,[],h=>h.elim
def mM (c:bK):PyData:=.tuple [.int c.r,.tuple [.int c.a,.int c.b,.int c.c],.int c.n]
theorem aZ.dp {K:W.Frag}:∀ {vs:List V} {cs:List bK},aZ H vs cs->eA K H (cs.map mM) vs
 | [],[],_=>cK
 | v :: vs, c :: cs, h => by
   obtain⟨⟨t,q,rfl,h1,h2⟩,h3⟩:=h;exact aT (gD (aI.of h1) (aT (cG _) (aT (gD (aI.of h2) (aT (cG _) (aT (cG _) (aT (cG _) cK)))) (aT (cG _) cK)))) (aZ.dp h3)
 | [],_::_,h=>h.elim
 | _::_,[],h=>h.elim
theorem BF:∀ es:List bK,PyData.canLayAll0 (es.map mM)=true
 | []=>rfl
 | e :: es => by
   rw[aaQ,PyData.canLayAll0,BF es];rfl
theorem uB:∀ es:List bK,PyData.depthAll (es.map mM)<=2
 | []=>by decide
 | e :: es => by
   have h1:(mM e).depth<=2:=by simp[mM,PyData.depth,PyData.depthAll]
   have h2:=uB es;rw[aaQ,PyData.depthAll]
   lia
theorem r6 (es:List bK):shaped (.list (es.map mM))=true:=by
 have:=uB es
 unfold shaped;rw[PyData.canLay0,BF,PyData.depth]
 simp;lia
variable {Z : L2.St} {xs:List V}
theorem FK {K:W.Frag}{n:Nat}{t:ye}{Q:L2.St->Hp->Prop}(h:aI K H p xs)(hl:xs.length=n)(q:t xs Z H Q):Jk K n t (.ref p) Z H Q:=⟨p,xs,rfl,h,hl,q⟩
theorem vW {t:TG}{u:ye}{v:V}{r:List V}{Q:L2.St->Hp->Prop}(q:t v Z H λZ' H'=>u r Z' H' Q):Kk t u (v::r) Z H Q:=⟨v,r,rfl,q⟩
theorem Ak {Q:L2.St->Hp->Prop}(q:Q Z H):O9 [] Z H Q:=⟨rfl,q⟩
theorem Mw:aaW "dict" = some (.type "dict"):=by nofun
def fQ (l d:Addr):List (Str×V):=au "landings" (.ref d) (au "entries" (.ref l) [])
def yV (K:W.Frag)(C:Addr):Sp:=λvs H Q _=>∃ (x dx pe:Addr) (lv:V) (xs:List V) (kvs:List (Key×V)),vs=[.ref x,.ref pe,lv]/\H x=some (.ins C dx [])/\ar K H pe xs /\
 ((lv=.aC/\kvs=[])∨∃ pd,lv=.ref pd/\H pd=some (.dK kvs)) /\
 ∀ l d H',H l=none->H d=none->l≠d->(∀ b o,H b=some o->b≠x->H' b=some o)->H' x=some (.ins C dx (fQ l d))->H' l=some (.lst xs)->H' d=some (.dK kvs)->Q .aC H'
def OL (K:W.Frag):Sp:=λvs H Q _=>∃ (p:Addr) (e:Ent),vs=[.ref p]/\iy K H p e/\∀ t,H t=none->Q (.ref t) (upd H t (.tup (e.dI.map V.int)))
def Ks:Sp:=λvs H Q _=>∃ i:Int,vs=[.int i]/\Q (.int (lowP i)) H
variable {E:XK} {Q:VK} {i:Int}
theorem Kl (q:Q (.int (lowP i)) H):Ks [.int i] H Q E:=⟨i,rfl,q⟩
def br (s:Int)(kn:List V)(pc:List Int):V:=if s<=0 then .aC else if lowP s<8 then kn.getD (lowP s).toNat .aC else if lowP s - 8<pc.length then .int (gI pc (lowP s - 8)) else .aC
def F5 (K:W.Frag):Sp:=λvs H Q _=>∃ (s:Int) (pk pp:Addr) (kn:List V) (pc:List Int),vs=[.int s,.ref pk,.ref pp]/\ar K H pk kn/\kn.length=8/\ar K H pp (pc.map V.int)/\(0<s->0<=lowP s)/\Q (br s kn pc) H
variable {pc:List Int} {pk:Addr} {s:Int}
theorem Nn {K:W.Frag}{pp:Addr}{kn:List V}(h1:ar K H pk kn)(h8:kn.length=8)(h2:ar K H pp (pc.map V.int))(h0 : 0<s->0<=lowP s)(q:Q (br s kn pc) H):F5 K [.int s,.ref pk,.ref pp] H Q E:=⟨s,pk,pp,kn,pc,rfl,h1,h8,h2,h0,q⟩
def ib (c:bK):List V:=[.aC,.aC,.aC,.aC,.int c.a,.int c.b,.int c.c,.aC]
theorem GJ (xs:List Int){k:Int}(h0 : 0<=k)(h1:k<=xs.length):cV xs (some k) none=xs.drop k.toNat:=by
 unfold cV;have e2:HT.bg xs.length 0 (some k)=k.toNat:=by
   show(if k<0 then _ else _)=_;rw[if_neg (by lia)];lia
 have e3:HT.bg xs.length xs.length none=xs.length:=rfl;rw[e2,e3,adg (by rw[abz];exact aag _)]
theorem Ie {kn:List V}(h : 0<s)(h0 : 0<=lowP s)(h1:lowP s<8)(h8:kn.length=8):cZ kn (lowP s)=some (br s kn pc):=by
 unfold br;rw[if_neg (by lia),if_pos h1];have e:lowP s=(((lowP s).toNat:Nat):Int):=by lia
 rw[e];exact bF (by rw[aaD,aar,aaa (by lia)];rfl)
theorem IG:aaW "sorted" = some (.builtin "sorted"):=by nofun
def kM (a b:Option Ent):Bool:=adN (fG a) (fG b)
theorem E4 {a b:Option Ent}(h:kM a b=true):a=b:=by
 cases a with
 | none=>cases b with
   | none=>rfl
   | some e=>simp[kM,fG,adN] at h
 | some e=>cases b with
   | none=>simp[kM,fG,adN] at h
   | some f =>
     obtain⟨h1,h2,h3,h4,h5⟩:=e;obtain⟨g1,g2,g3,g4,g5⟩:=f;simp[kM,fG,adN,PyData.eqvAll] at h;obtain⟨rfl,rfl,rfl,rfl,rfl⟩:=h;rfl
def Rw.here:Rw->Prop
 | .set ..=>True
 | .copy ..=>True
 | .add ..=>True
 | .sub ..=>False
 | .mul ..=>False
 | .less ..=>False
 | .grow ..=>True
 | .shrink ..=>True
 | .put ..=>True
 | .get ..=>True
 | .dr ..=>True
 | .branch ..=>True
 | .call ..=>True
 | .back ..=>True
 | .drop ..=>True
def Rw.isCall:Rw->Bool
 | .call _=>true
 | _=>false
def Rw.d7:Rw->Bool
 | .back _=>true
 | _=>false
def Rw.dR:Rw->Bool
 | .drop _=>true
 | _=>false
def bL (a:bG)(H:Hp)(prs:List Addr)(rs:List Rw):Prop:=prs.length=rs.length/\∀ (i:Nat) (p:Addr) (r:Rw),prs[i]? = some p->rs[i]? = some r->bC a H p r
variable {rs:List Rw} {prs:List Addr}
theorem bL.to {a:bG}(h:bL a H prs rs)(k:∀ p∈prs,∀ o,H p=some o->H' p=some o):bL a H' prs rs :=
 ⟨h.1,λi p r e1 e2=>let ⟨dx,e⟩:=h.2 i p r e1 e2;⟨dx,k p (aak e1) _ e⟩⟩
theorem bL.same {a:bG}(h:bL a H prs rs)(s:ao H H'):bL a H' prs rs:=h.to λ_ _ _ e=>s _ _ e
theorem bL.nil {a:bG}:bL a H [] []:=⟨rfl,λi p r e=>by simp at e⟩
variable {r:Rw}
theorem bL.snoc {a:bG}(h:bL a H prs rs)(q:bC a H p r):bL a H (prs++[p]) (rs++[r]):=by
 refine⟨by rw[aab,aab,h.1];rfl,λi p' r' e1 e2=>?_⟩;by_cases hi:i<rs.length
 . rw[aas (by rw[h.1]; exact hi)] at e1;rw[aas hi] at e2;exact h.2 i p' r' e1 e2
 . have UK : i = rs.length := by
     have:=(List.getElem?_eq_some_iff.mp e2).1
     rw[aab] at this;simp at this;lia
   subst UK;rw[aaq (by lia)] at e2;rw[aaq (by rw[h.1];lia),h.1] at e1;simp at e1 e2;subst e1 e2;exact q
theorem bL.mem {a:bG}(h:bL a H prs rs)(hp:p∈prs):∃ r,r∈rs/\bC a H p r:=by
 obtain⟨i,hi,e⟩:=List.mem_iff_getElem.mp hp;have e1:prs[i]? = some p:=by rw[aaa hi,e]
 have hi2:i<rs.length:=by rw[<- h.1];exact hi
 exact⟨rs[i],aaX hi2,h.2 i p _ e1 (aaa hi2)⟩
def aw (l:List (Int×Int)):List (Key×V):=l.map λp=>((Sum.inl p.1:Key),V.int p.2)
theorem AM {l:List (Int×Int)}{c r:Int}(h:cP (aw l) (.inl c)=none):putK (aw l) (.inl c) (.int r)=aw (l++[(c,r)]):=by
 rw[Iv _ h];unfold aw;rw[aaE];rfl
def lv (ls:List (Int×Int))(k:Int):Int:=((ls.find? λp=>decide (p.1=k)).map (·.2)).getD 0
theorem g6:∀ {ls:List (Int×Int)},(ls.map (·.1)).Nodup->∀ p∈ls,cP (aw ls) (.inl p.1)=some (.int p.2)/\lv ls p.1=p.2
 | [],_,_,h=>nomatch h
 | (c, r) :: ls, hn, p, hp => by
   rw[aaQ,List.nodup_cons] at hn;rcases List.mem_cons.mp hp with rfl | hp
   . refine⟨?_,?_⟩
     . show cP ((Sum.inl c, V.int r) :: aw ls) (.inl c) = _;rw[mR rfl]
     . unfold lv;rw[abE,decide_eq_true rfl];rfl
   . have ne : ¬ c = p.1 := λz => hn.1 (List.mem_map.mpr ⟨p, hp, z.symm⟩);obtain ⟨i1,i2⟩:=g6 hn.2 p hp;refine ⟨?_,?_⟩
     . show cP ((Sum.inl c, V.int r) :: aw ls) (.inl p.1) = _;rw[jG (λz=>ne (ac0 z))];exact i1
     . unfold lv at i2 ⊢;rw[abE,decide_eq_false ne];exact i2
theorem iG:∀ {ls:List (Int×Int)} {c:Int},c ∉ ls.map (·.1)->cP (aw ls) (.inl c)=none
 | [],_,_=>rfl
 | (d, r) :: ls, c, h => by
   rw[aaQ,aaP,not_or] at h;show cP ((Sum.inl d,V.int r)::aw ls) (.inl c)=_;rw[jG (λz=>h.1 (ac0 z).symm)];exact iG h.2
theorem GQ (ls:List (Int×Int)):(aw ls).map (·.1)=(ls.map (·.1)).map Sum.inl:=by
 unfold aw;rw[abd,abd];rfl
theorem Qf:aaW "any" = some (.builtin "any"):=by nofun
inductive Wt where
 | place | aE | back | row | aC | start | call | length | b4 | b5 | b6
def Wt.v:Wt->V
 | .place=>.str "place" | .aE=>.str "height" | .back=>.str "back" | .row=>.str "row" | .aC=>.str "none" | .start=>.str "start" | .call=>.str "call" | .length=>.str "length"
 | .b4=>.int 4 | .b5=>.int 5 | .b6=>.int 6
def oV:Option Wt->V
 | none=>.aC
 | some w=>w.v
def mC:Option Ent:=some ⟨0,128,16,32,64⟩
def jK (h s:Int):Bool:=decide (s<=0) || !decide (s/2 ^ (8+h).toNat=0)
def du (e:Ent):Bool:=decide (e.h<0) || (decide (4000<e.h) || e.dI.any (jK e.h))
def jt (b:Int)(e:Ent):Bool:=decide (e.h=0) && ((aaJ e.b ((2 ^ b.toNat:Nat):Int) != 0) && ((aaJ e.v4 16 != 0) && ((aaJ e.v5 32 != 0) && (aaJ e.v6 64 != 0))))
def ek (r:Rw)(e:Ent):Option Wt:=if du e=true then some .place else if r.aE e.h=none then some .aE else match r with | .back b=>if jt b e=true then none else some .back | _=>none
def nh (r:Rw)(e t:Ent):Option Wt:=if Bt.wo t.b.toNat (r.keep e.b.toNat e.h)≠0 then some .back else if Bt.wo t.v4.toNat (r.keep e.v4.toNat e.h)≠0 then some .b4 else if Bt.wo t.v5.toNat (r.keep e.v5.toNat e.h)≠0 then some .b5 else if Bt.wo t.v6.toNat (r.keep e.v6.toNat e.h)≠0 then some .b6 else none
def fE (r:Rw)(e:Ent)(c:Int)(es:List (Option Ent)):Option Wt:=if 0<=c/\c<es.length then (match es[c.toNat]?.join with | none=>some .aC | some t=>if r.aE e.h=some t.h then nh r e t else some .aE) else some .row
def eC (t:Int)(es:List (Option Ent)):Option Wt:=if 0<=t/\t<es.length then (if kM (es[t.toNat]?.join) mC=true then none else some .start) else some .row
def Ent.nn (e:Ent):Prop:=0<=e.b/\0<=e.v4/\0<=e.v5/\0<=e.v6
def Lx (K:W.Frag):Sp:=λvs H Q _=>∃ (n:Int) (p:Addr) (us:List V),vs=[.int n,.ref p]/\ar K H p us/\Q (.bl (decide (0<=n/\n<us.length))) H
def K3 (K:W.Frag):Sp:=λvs H Q _=>∃ (p:Addr) (e:Ent),vs=[.ref p]/\iy K H p e/\∀ H',ao H H'->Q (.bl (du e)) H'
def NN (K:W.Frag)(a:bG):Sp:=λvs H Q _=>∃ (x p:Addr) (b:Int) (e:Ent),vs=[.ref x,.ref p]/\bC a H x (.back b)/\0<=b/\b<=7/\iy K H p e/\∀ H',ao H H'->Q (.bl (jt b e)) H'
def Pp (K:W.Frag)(a:bG):Sp:=λvs H Q _=>∃ (x p:Addr) (r:Rw) (e:Ent),vs=[.ref x,.ref p]/\bC a H x r/\r.ok/\r.here/\iy K H p e/\∀ H',ao H H'->Q (oV (ek r e)) H'
def Ng (K:W.Frag)(a:bG):Sp:=λvs H Q _=>∃ (x p l:Addr) (c:Int) (r:Rw) (e:Ent) (ev:List V) (es:List (Option Ent)),vs=[.ref x,.ref p,.int c,.ref l]/\bC a H x r/\r.ok/\r.here/\iy K H p e/\e.nn/\0<=e.h/\e.h<=4000/\(r.aE e.h).isSome=true/\H l=some (.lst ev)/\bJ K H ev es/\(∀ t,some t∈es->t.nn)/\∀ H',ao H H'->Q (oV (fE r e c es)) H'
def NI (K:W.Frag)(a:bG):Sp:=λvs H Q _=>∃ (x l:Addr) (t:Int) (ev:List V) (es:List (Option Ent)),vs=[.ref x,.ref l]/\bC a H x (.call t)/\H l=some (.lst ev)/\bJ K H ev es/\∀ H',ao H H'->Q (oV (eC t es)) H'
def once (ns:List Int):List Int:=ns.foldl (λt n=>if n∈t then t else t++[n]) []
def Mn (K:W.Frag):Sp:=λvs H Q _=>∃ (p:Addr) (ns:List Int),vs=[.ref p]/\ar K H p (ns.map V.int)/\ns.length<=4000/\∀ q H',ao H H'->H' q=some (.lst ((once ns).map V.int))->Q (.ref q) H'
theorem Gr (ns:List Int):(ns.map V.int).all dQ=true:=by rw[List.all_map];exact List.all_eq_true.mpr λ_ _=>rfl
theorem Ir (n:Int)(ns:List Int):eV (.int n) (ns.map V.int)=decide (n∈ns):=by
 unfold eV;rw[List.any_map]
 induction ns with
 | nil=>rfl
 | cons p ps ih =>
   rw[abA,ih];show(o_ (.int p) (.int n) || _)=_;by_cases e:n=p
   . subst e;simp[o_]
   . have : ¬ p = n := λz => e z.symm;simp[o_,e,this]
theorem bJ.at {K:W.Frag}{c:Int}(h:bJ K H vs es)(h0 : 0<=c)(h1:c<es.length):∃ v oe,cZ vs c=some v/\es[c.toNat]? = some oe/\oe∈es/\iS K H v oe:=by
 have hi:c.toNat<es.length:=by omega
 obtain⟨v,e1,e2⟩:=h.2 c.toNat _ (aaa hi);exact⟨v,_,by rw[show c=((c.toNat:Nat):Int) from by omega];exact bF e1,aaa hi,aaX hi,e2⟩
theorem AL {K:W.Frag}{s q:Addr}(h1:aI K H s [.int 0,.int 128,.ref q])(h2:aI K H q [.int 16,.int 32,.int 64]):Dp K H (fG mC) (.ref s):=gD h1 (aT (cG _) (aT (cG _) (aT (gD h2 (aT (cG _) (aT (cG _) (aT (cG _) cK)))) cK)))
theorem Qe {K:W.Frag}{x y:V}(a b:Option Ent)(hx:Dp K H (fG a) x)(hy:Dp K H (fG b) y)(q:Q (.bl (kM a b)) H):gf K x y H Q:=.inr ⟨fG a,fG b,hx,hy,jc a,jc b,q⟩
theorem QD {K:W.Frag}{x y:V}(a b:Option Ent)(hx:Dp K H (fG a) x)(hy:Dp K H (fG b) y)(q:Q (.bl (!kM a b)) H):gG K x y H Q:=.inr ⟨fG a,fG b,hx,hy,jc a,jc b,q⟩
theorem Nv {w:Wt}(q:Q (.bl true) H):kB w.v .aC H Q:=⟨rfl,by rw[decide_eq_false (λz=>by cases w <;> cases z)];exact q⟩
structure Cm where
 i:Int
 at_:Int
 w:Wt
def Fv (H:Hp)(v:V)(c:Cm):Prop:=∃ q,v=.ref q/\H q=some (.tup [.int c.i,.int c.at_,c.w.v])
def cy (H:Hp)(vs:List V)(cs:List Cm):Prop:=vs.length=cs.length/\∀ (i:Nat) (c:Cm),cs[i]? = some c->∃ v,vs[i]? = some v/\Fv H v c
theorem Fv.same {v:V}{c:Cm}(h:Fv H v c)(s:ao H H'):Fv H' v c:=let ⟨q,e,k⟩:=h;⟨q,e,s _ _ k⟩
theorem cy.same {cs:List Cm}(h:cy H vs cs)(s:ao H H'):cy H' vs cs:=⟨h.1,λi c e=>let ⟨v,e1,e2⟩:=h.2 i c e;⟨v,e1,e2.same s⟩⟩
theorem cy.nil:cy H [] []:=⟨rfl,λi c e=>by simp at e⟩
variable {us:List V}
theorem cy.app {cs ds:List Cm}(h:cy H vs cs)(k:cy H us ds):cy H (vs++us) (cs++ds):=by
 refine⟨by rw[aab,aab,h.1,k.1],λi o e=>?_⟩;by_cases hi:i<cs.length
 . rw[aas hi] at e;obtain⟨u,e1,e2⟩:=h.2 i o e;exact⟨u,by rw[aas (by rw[h.1];exact hi)];exact e1,e2⟩
 . rw[aaq (by lia)] at e;obtain⟨u,e1,e2⟩:=k.2 _ o e;exact⟨u,by rw[aaq (by rw[h.1];lia),h.1];exact e1,e2⟩
theorem cy.one {v:V}{c:Cm}(h:Fv H v c):cy H [v] [c]:=⟨rfl,λi c' e=>by
 cases i with
 | zero=>simp at e;subst e;exact⟨v,rfl,h⟩
 | succ i=>simp at e⟩
def tR (r:Rw)(i:Int)(es:List (Option Ent)):List Cm:=match r with | .call t=>((eC t es).map λw=>Cm.mk i t w).toList | _=>[]
def pU (r:Rw)(e:Ent)(i:Int)(es:List (Option Ent)):List Cm:=match ek r e with
 | some w=>[⟨i,i,w⟩]
 | none=>((once (r.dz i)).filterMap λc=>(fE r e c es).map λw=>Cm.mk i c w)++tR r i es
def m6 (rs:List Rw)(es:List (Option Ent))(i:Nat):List Cm:=match rs[i]?,es[i]?.join with
 | some r,some e=>pU r e i es
 | _,_=>[]
def y4 (r:Rw)(oe:Option Ent)(at_:Int)(es:List (Option Ent)):Option Wt:=if r.isCall=true then (match oe with | none=>none | some e=>if (ek r e).isSome=true then none else fE r e at_ es) else some .call
def mS (rs:List Rw)(es:List (Option Ent))(i at_:Int):Option Wt :=
 if 0<=i/\i<es.length then (match rs[i.toNat]?,es[i.toNat]?.join with
   | some r,oe=>y4 r oe at_ es
   | none,_=>some .call) else some .call
structure IC (rs:List Rw)(es:List (Option Ent)):Prop where
 ok:∀ r∈rs,r.ok/\r.here
 nn:∀ t,some t∈es->t.nn
 nr:rs.length<=2000
 ne:es.length<=2000
def Po (K:W.Frag)(a:bG):Sp:=λvs H Q _=>∃ (c l:Addr) (i:Nat) (prs:List Addr) (rs:List Rw) (ev:List V) (es:List (Option Ent)),vs=[.ref c,.ref l,.int (i:Int)]/\H c=some (.lst (prs.map V.ref))/\bL a H prs rs/\H l=some (.lst ev)/\bJ K H ev es/\IC rs es/\i<rs.length/\rs.length=es.length /\
 ∀ p us H',ao H H'->H' p=some (.lst us)->cy H' us (m6 rs es i)->H p=none->Q (.ref p) H'
def LU (K:W.Frag)(a:bG):Sp:=λvs H Q _=>∃ (c l:Addr) (i z:Int) (prs:List Addr) (rs:List Rw) (ev:List V) (es:List (Option Ent)),vs=[.ref c,.ref l,.int i,.int z]/\H c=some (.lst (prs.map V.ref))/\bL a H prs rs/\H l=some (.lst ev)/\bJ K H ev es/\IC rs es/\rs.length=es.length /\
 ∀ H',ao H H'->Q (oV (mS rs es i z)) H'
def dF (rs:List Rw)(es:List (Option Ent)):List Cm:=if 0<rs.length then (if kM (es[0]?.join) mC=true then [] else [⟨-1,0,.start⟩]) else []
def js (rs:List Rw)(es:List (Option Ent))(ls:List (Int×Int))(ks:List Int):List Cm:=ks.flatMap λk=>((mS rs es k (lv ls k)).map λw=>Cm.mk k (lv ls k) w).toList
def gE (rs:List Rw)(es:List (Option Ent))(n:Nat):List Cm:=(ab_ n).flatMap λi=>m6 rs es i
def dG (rs:List Rw)(es:List (Option Ent))(ls:List (Int×Int))(ks:List Int):List Cm :=
 if es.length=rs.length then dF rs es++gE rs es rs.length++js rs es ls ks else [⟨-1,-1,.length⟩]
theorem su (rs:List Rw)(es:List (Option Ent))(n:Nat):gE rs es (n+1)=gE rs es n++m6 rs es n:=by
 unfold gE;rw[List.range_succ,List.flatMap_append];simp
theorem Jw (r:Rw)(e:Ent)(i:Int)(es:List (Option Ent)):(pU r e i es).length<=10:=by
 unfold pU;split
 . exact aa2 rfl
 . rw[aab];have h1:=List.length_filterMap_le (λc=>(fE r e c es).map λw=>Cm.mk i c w) (once (r.dz i));have h2:(once (r.dz i)).length<=9:=by
     cases r <;> simp[Rw.dz,once]
     split <;> simp
   have h3:(tR r i es).length<=1:=by
     unfold tR;split
     . cases eC _ es <;> exact aa2 rfl
     . exact aaT _
   lia
theorem xC (rs:List Rw)(es:List (Option Ent))(i:Nat):(m6 rs es i).length<=10:=by
 unfold m6;split
 . exact Jw _ _ _ _
 . exact aaT _
theorem mV (rs:List Rw)(es:List (Option Ent)):∀ n,(gE rs es n).length<=10*n
 | 0=>aag _
 | n + 1 => by
   rw[su,aab]
   have:=mV rs es n
   have:=xC rs es n
   lia
theorem Ez (rs:List Rw)(es:List (Option Ent)):(dF rs es).length<=1:=by
 unfold dF;split
 . split <;> exact aa2 rfl
 . exact aaT _
def TabOf (K:W.Frag)(a:bG)(H:Hp)(t:Addr)(ev:List V)(ls:List (Int×Int)):Prop:=∃ dt l d,H t=some (.ins a.b3 dt (fQ l d))/\H l=some (.lst ev)/\H d=some (.dK (aw ls))
def wI (K:W.Frag)(a:bG):Sp:=λvs H Q _=>∃ (c t:Addr) (prs:List Addr) (rs:List Rw) (ev:List V) (es:List (Option Ent)) (ls:List (Int×Int)),vs=[.ref c,.ref t]/\H c=some (.lst (prs.map V.ref))/\bL a H prs rs/\TabOf K a H t ev ls/\bJ K H ev es/\IC rs es/\(ls.map (·.1)).Nodup/\ls.length<64 /\
 ∀ p us ks H',ao H H'->H' p=some (.lst us)->(es.length=rs.length->ks.Perm (ls.map (·.1))/\ks.Pairwise (· <= ·))->cy H' us (dG rs es ls ks)->Q (.ref p) H'
theorem we {r r':R2}{ta tb tc:TE}(h:ta Z H λx H1=>tb Z H1 λy H2=>r x y H2 λz H3=>∃ k,z=.bl k/\(if k then tc Z H3 λu H4=>r' y u H4 Q else Q (.bl false) H3)):Ar r r' ta tb tc Z H Q:=h
theorem Hh (h : 0<s) : 0<=lowP s:=by
 obtain⟨n,rfl⟩:∃ n:Nat,s=(n:Int):=⟨s.toNat,by omega⟩
 have hn : 0<n:=by omega
 unfold lowP;rw[Hk hn];have hw : 0<Bt.wo n (n - 1):=by
   unfold Bt.wo
   have:=adf (n:=n) (m:=n - 1)
   omega
 have : ¬ abn ((Bt.wo n (n - 1):Nat):Int)<=0:=λz=>by
   have:=PySem.intBits_le_iff.mp z
   rw[acT] at this;omega
 omega
def near (i:Int):Prop:=-(2 ^ 61)<=i/\i<2 ^ 61
def pK (v:V):Prop:=v=.aC∨∃ i,v=.int i/\near i
def tV (kn:List V):Prop:=kn.length=8/\∀ v∈kn,pK v
def fO (pl:List Int):Prop:=∀ i∈pl,near i
theorem fO.take {pl:List Int}(h:fO pl)(n:Nat):fO (pl.take n):=λi hi=>h i (abY hi)
theorem fO.drop {pl:List Int}(h:fO pl)(n:Nat):fO (pl.drop n):=λi hi=>h i (List.mem_of_mem_drop hi)
theorem fX {kn:List V}(hk:tV kn)(hp:fO pc):pK (br s kn pc):=by
 unfold br;split
 . exact .inl rfl
 . rename_i hs;split
   . rename_i hl;have h0:=Hh (s:=s) (by omega);rw[aar,aaa (by rw[hk.1];omega)];exact hk.2 _ (aaX _)
   . rename_i hl;split
     . rename_i hc;refine .inr ⟨_,rfl,?_⟩;unfold gI;rw[aar,aaa (by omega)];exact hp _ (aaX _)
     . exact .inl rfl
def vi:V->Option Int
 | .int i=>some i
 | _=>none
def gJ (e:Ent)(kn:List V)(pl:List Int):Option bK :=
 match vi (br e.b kn (pl.drop ((pl.length:Int) - e.h).toNat)),vi (br e.v4 kn (pl.drop ((pl.length:Int) - e.h).toNat)),vi (br e.v5 kn (pl.drop ((pl.length:Int) - e.h).toNat)),vi (br e.v6 kn (pl.drop ((pl.length:Int) - e.h).toNat)) with
 | some r,some a,some b,some c=>some ⟨r,a,b,c,(pl.length:Int) - e.h⟩
 | _,_,_,_=>none
def Fb (oe:Option Ent)(kn:List V)(pl:List Int):Option bK:=match oe with
 | none=>none
 | some e=>if 0<=e.h/\e.h<=pl.length then gJ e kn pl else none
def dX (es:List (Option Ent))(at':Int)(kn:List V)(pl:List Int):Option bK :=
 if 0<=at'/\at'<es.length then Fb (es.getD at'.toNat none) kn pl else none
def bp (es:List (Option Ent)):Nat->Int->List V->List Int->List bK×Option Int
 | 0,at',_,_=>([],if at'=es.length then none else some at')
 | f + 1, at', kn, pl => if at' = es.length then ([], none) else match dX es at' kn pl with
   | none=>([],some at')
   | some c=>(c::(bp es f c.r (ib c) (pl.take c.n.toNat)).1,(bp es f c.r (ib c) (pl.take c.n.toNat)).2)
variable {at':Int} {f:Nat}
theorem xE {kn:List V}{pl:List Int}(h:at'=es.length):bp es f at' kn pl=([],none):=by
 cases f with
 | zero=>unfold bp;rw[if_pos h]
 | succ f=>unfold bp;rw[if_pos h]
theorem xG {kn:List V}{pl:List Int}(h:at'≠es.length)(hs:f=0∨dX es at' kn pl=none):bp es f at' kn pl=([],some at'):=by
 cases f with
 | zero=>unfold bp;rw[if_neg h]
 | succ f =>
   unfold bp;rw[if_neg h];rcases hs with hs | hs
   . cases hs
   . rw[hs]
theorem yf {f:Nat}{kn:List V}{pl:List Int}(h:at'≠es.length)(hs:dX es at' kn pl=some c) :
   bp es (f+1) at' kn pl=(c::(bp es f c.r (ib c) (pl.take c.n.toNat)).1,(bp es f c.r (ib c) (pl.take c.n.toNat)).2):=by
 rw[bp,if_neg h,hs]
theorem C0 {v1 v2 v3 v4:V}(h1:pK v1)(h2:pK v2)(h3:pK v3)(h4:pK v4):(eV .aC [v1,v2,v3,v4]=true/\(vi v1=none∨vi v2=none∨vi v3=none∨vi v4=none)) ∨
   (eV .aC [v1,v2,v3,v4]=false/\∃ r a b c,v1=.int r/\v2=.int a/\v3=.int b/\v4=.int c/\near r/\near a/\near b/\near c):=by
 rcases h1 with rfl | ⟨r,rfl,n1⟩
 . exact .inl ⟨rfl,.inl rfl⟩
 rcases h2 with rfl | ⟨a,rfl,n2⟩
 . exact .inl ⟨rfl,.inr (.inl rfl)⟩
 rcases h3 with rfl | ⟨b,rfl,n3⟩
 . exact .inl ⟨rfl,.inr (.inr (.inl rfl))⟩
 rcases h4 with rfl | ⟨c,rfl,n4⟩
 . exact .inl ⟨rfl,.inr (.inr (.inr rfl))⟩
 exact .inr ⟨rfl,r,a,b,c,rfl,rfl,rfl,rfl,n1,n2,n3,n4⟩
theorem GB {v1 v2 v3 v4:V}(h1:pK v1)(h2:pK v2)(h3:pK v3)(h4:pK v4) : [v1,v2,v3,v4].all dQ=true:=by
 have f:∀ {v:V},pK v->dQ v=true:=λh=>by rcases h with rfl | ⟨i,rfl,_⟩ <;> rfl
 simp[f h1,f h2,f h3,f h4]
theorem zr {kn:List V}{pl:List Int}(h:vi (br e.b kn (pl.drop ((pl.length:Int) - e.h).toNat))=none∨vi (br e.v4 kn (pl.drop ((pl.length:Int) - e.h).toNat))=none∨vi (br e.v5 kn (pl.drop ((pl.length:Int) - e.h).toNat))=none∨vi (br e.v6 kn (pl.drop ((pl.length:Int) - e.h).toNat))=none):gJ e kn pl=none:=by
 unfold gJ;rcases h with h | h | h | h <;> rw[h]
 . cases vi (br e.b kn (pl.drop ((pl.length:Int) - e.h).toNat)) <;> rfl
 . cases vi (br e.b kn (pl.drop ((pl.length:Int) - e.h).toNat)) <;> cases vi (br e.v4 kn (pl.drop ((pl.length:Int) - e.h).toNat)) <;> rfl
 . cases vi (br e.b kn (pl.drop ((pl.length:Int) - e.h).toNat)) <;> cases vi (br e.v4 kn (pl.drop ((pl.length:Int) - e.h).toNat)) <;> cases vi (br e.v5 kn (pl.drop ((pl.length:Int) - e.h).toNat)) <;> rfl
variable {b:Int}
theorem Az {kn:List V}{pl:List Int}{r a c:Int}(h1:br e.b kn (pl.drop ((pl.length:Int) - e.h).toNat)=.int r)(h2:br e.v4 kn (pl.drop ((pl.length:Int) - e.h).toNat)=.int a)(h3:br e.v5 kn (pl.drop ((pl.length:Int) - e.h).toNat)=.int b)(h4:br e.v6 kn (pl.drop ((pl.length:Int) - e.h).toNat)=.int c) :
   gJ e kn pl=some ⟨r,a,b,c,(pl.length:Int) - e.h⟩:=by
 unfold gJ;rw[h1,h2,h3,h4];rfl
theorem K7 {kn:List V}{pl:List Int}(hk:tV kn)(hp:fO pl)(h:dX es at' kn pl=some c):near c.r/\tV (ib c)/\0<=c.n/\c.n<=pl.length:=by
 unfold dX at h;split at h
 . unfold Fb at h;split at h
   . cases h
   . rename_i e _;split at h
     . rename_i hh;rcases C0 (fX (s:=e.b) hk (hp.drop ((pl.length:Int) - e.h).toNat)) (fX (s:=e.v4) hk (hp.drop ((pl.length:Int) - e.h).toNat)) (fX (s:=e.v5) hk (hp.drop ((pl.length:Int) - e.h).toNat)) (fX (s:=e.v6) hk (hp.drop ((pl.length:Int) - e.h).toNat)) with ⟨_,z⟩ | ⟨_,r,a,b,c',h1,h2,h3,h4,n1,n2,n3,n4⟩
       . rw[zr z] at h;cases h
       . rw[Az h1 h2 h3 h4] at h;cases h
         refine⟨n1,⟨rfl,λv hv=>?_⟩,(show 0<=(pl.length:Int) - e.h by lia),(show(pl.length:Int) - e.h<=pl.length by lia)⟩;simp only[ib,aaP,aaR,or_false] at hv;rcases hv with rfl | rfl | rfl | rfl | rfl | rfl | rfl | rfl
         . exact .inl rfl
         . exact .inl rfl
         . exact .inl rfl
         . exact .inl rfl
         . exact .inr ⟨_,rfl,n2⟩
         . exact .inr ⟨_,rfl,n3⟩
         . exact .inr ⟨_,rfl,n4⟩
         . exact .inl rfl
     . cases h
 . cases h
theorem LQ (r:List bK×Option Int):r=([]++r.1,r.2):=by cases r;rfl
theorem Hl {kn:List V}{pl:List Int}{ds:List bK}{r:List bK×Option Int}(h:at'≠es.length)(hs:dX es at' kn pl=some c)(hw:r=(ds++(bp es (f+1) at' kn pl).1,(bp es (f+1) at' kn pl).2)) :
   r=((ds++[c])++(bp es f c.r (ib c) (pl.take c.n.toNat)).1,(bp es f c.r (ib c) (pl.take c.n.toNat)).2):=by
 rw[hw,yf h hs,aco];rfl
def NQ (K:W.Frag)(C:Addr):Sp:=λvs H Q E=>∃ (pe pk pp:Addr) (at':Int) (ev:List V) (es:List (Option Ent)) (kn:List V) (pl:List Int),vs=[.ref pe,.int at',.ref pk,.ref pp]/\ar K H pe ev/\bJ K H ev es/\ar K H pk kn/\tV kn/\ar K H pp (pl.map V.int)/\fO pl/\near at' /\
 (∀ c v H',dX es at' kn pl=some c->ao H H'->iQ H' v c->Q v H')/\(dX es at' kn pl=none->∀ d H',ao H H'->H' d=some (.xd [("row",.int at')])->E (.ref C) (some d) H')
def K_ (K:W.Frag)(a:bG):Sp:=λvs H Q E=>∃ (x dx l d pk pp:Addr) (at':Int) (ev:List V) (es:List (Option Ent)) (kn:List V) (pl:List Int),vs=[.ref x,.int at',.ref pk,.ref pp]/\H x=some (.ins a.b3 dx (fQ l d))/\H l=some (.lst ev)/\bJ K H ev es/\ar K H pk kn/\tV kn/\ar K H pp (pl.map V.int)/\fO pl/\near at' /\
 ((bp es 5000 at' kn pl).2=none->∀ p vs H',ao H H'->H p=none->H' p=some (.lst vs)->aZ H' vs (bp es 5000 at' kn pl).1->Q (.ref p) H') /\
 (∀ r,(bp es 5000 at' kn pl).2=some r->∀ d H',ao H H'->H' d=some (.xd [("row",.int r)])->E (.ref a.dE) (some d) H')
theorem Oh {xs:List Int}{v x:Int}(h:x∈sI xs i v):x∈xs∨x=v:=by
 unfold sI at h;exact acU h
theorem fL {xs:List Int}(hv:∀ x∈xs,isVal x)(i:Int):isVal (gI xs i):=by
 unfold gI;rw[aar];cases e:xs[i.toNat]? with
 | none=>exact⟨by decide,by decide⟩
 | some y=>exact hv y (aak e)
theorem fo {xs:List Int}{v:Int}(hv:∀ x∈xs,isVal x)(h:isVal v):∀ x∈sI xs i v,isVal x:=λx hx=>by
 rcases Oh hx with z | z
 . exact hv x z
 . rw[z];exact h
variable {Uw Tx:List Int} {n:Int}
theorem MH {n':Int}{bs pl:List Int}(ok:r.ok)(h0 : 0<=n)(h1:n<=2000)(h8:bs.length=8)(hv:∀ x∈bs,isVal x)(hp:∀ x∈pl,isVal x)(hl:pl.length<=4000)(hr:r.run n bs pl=some (n',Uw,Tx)) :
   Uw.length=8/\(∀ x∈Uw,isVal x)/\(∀ x∈Tx,isVal x)/\Tx.length<=4000/\0<=n':=by
 have g0:∀ {m:Int},aF m->0<=m:=λh=>h.1;have t0:∀ {m:Int},aM m->0<=m:=λh=>h.1;have md:∀ x:Int,isVal (x%4294967296):=λx=>⟨by omega,by omega⟩;cases r with
 | set b m=>cases hr;exact⟨by rw[dw];exact h8,fo hv ok.2,hp,hl,by omega⟩
 | copy b o=>cases hr;exact⟨by rw[dw];exact h8,fo hv (fL hv _),hp,hl,by omega⟩
 | add b o t=>cases hr;exact⟨by rw[dw];exact h8,fo hv (md _),hp,hl,by omega⟩
 | sub b o t=>cases hr;exact⟨by rw[dw];exact h8,fo hv (md _),hp,hl,by omega⟩
 | mul b o t=>cases hr;exact⟨by rw[dw];exact h8,fo hv (md _),hp,hl,by omega⟩
 | less b o t=>cases hr;exact⟨by rw[dw];exact h8,fo hv (by split <;> exact⟨by decide,by decide⟩),hp,hl,by omega⟩
 | grow m =>
   simp only[Rw.run] at hr;split at hr
   . cases hr
   cases hr
   have:=g0 ok
   refine⟨h8,hv,λx hx=>?_,by rw[aab,aaC];omega,by omega⟩;rcases List.mem_append.mp hx with z | z
   . exact hp x z
   . rw[List.eq_of_mem_replicate z];exact⟨by decide,by decide⟩
 | shrink m =>
   simp only[Rw.run] at hr;split at hr
   . cases hr
   cases hr
   exact⟨h8,hv,λx hx=>hp x (abY hx),by rw[aaA];exact aaK (Nat.min_le_right _ _) hl,by omega⟩
 | put b c =>
   simp only[Rw.run] at hr;split at hr
   . cases hr
   cases hr
   exact⟨h8,hv,fo hp (fL hv _),by rw[dw];exact hl,by omega⟩
 | get b c =>
   simp only[Rw.run] at hr;split at hr
   . cases hr
   cases hr
   exact⟨by rw[dw];exact h8,fo hv (fL hp _),hp,hl,by omega⟩
 | dr t=>cases hr;exact⟨h8,hv,hp,hl,t0 ok⟩
 | branch b t=>cases hr;exact⟨h8,hv,hp,hl,by split;omega;exact t0 ok.2⟩
 | call t=>cases hr;exact⟨by rw[dw];exact h8,fo hv ⟨by omega,by omega⟩,hp,hl,t0 ok⟩
 | back b=>cases hr;exact⟨h8,hv,hp,hl,(fL hv _).1⟩
 | drop b=>cases hr
def aK (aS n:Int):Str:=if n=aS then "ended" else if 0<=n/\n<aS then "runs" else "fault"
abbrev Cl:=Int×Int×Int×Int×Int
structure MS where
 rows:List Rw
 av:Int
 held:List Int
 cells:List Int
 calls:List Cl
 dj:V
 state:Str
def MS.l6 (S:MS)(r:Rw):List Cl:=if r.isCall then S.calls++[(S.av+1,gI S.held 4,gI S.held 5,gI S.held 6,(S.cells.length:Int))] else if r.d7 then S.calls.take (S.calls.length - 1) else S.calls
def MS.bU (S:MS)(r:Rw):MS:=match r.run S.av S.held S.cells with
 | none=>{ S with state:="fault" }
 | some (n,bs,pl)=>if aK S.rows.length n = "fault" then { S with state:="fault" } else { S with av:=n,held:=bs,cells:=pl,calls:=S.l6 r,state:=aK S.rows.length n }
abbrev vm:List Str:=["word_ahead_of","at","boxes","pile","word","book","fault","step","do","forget","go_on","drop","land"]
structure MF (fs:List (Str×V))(pc pt ph pl pk:Addr)(aS av:Int)(dj:V)(state:Str):Prop where
 code:fs.lookup ("code" : Str)=some (.ref pc)
 table:fs.lookup ("table" : Str)=some (.ref pt)
 aS:fs.lookup ("home" : Str)=some (.int aS)
 av:fs.lookup ("coming" : Str)=some (.int av)
 held:fs.lookup ("held" : Str)=some (.ref ph)
 cells:fs.lookup ("cells" : Str)=some (.ref pl)
 calls:fs.lookup ("calls" : Str)=some (.ref pk)
 dj:fs.lookup ("dropped" : Str)=some dj
 state:fs.lookup ("state" : Str)=some (.str state)
 len:fs.length<=9
 no:∀ x:Str,x∈vm->fs.lookup x=none
theorem ip {f:Str}{v w:V}:∀ {fs:List (Str×V)},fs.lookup f=some w->(au f v fs).length=fs.length
 | [],h=>by cases h
 | (g, x) :: r, h => by
   by_cases e:g=f
   . show(if g = f then (g, v) :: r else (g, x) :: au f v r).length = _;rw[if_pos e];rfl
   . have hb : (f == g) = false := beq_eq_false_iff_ne.mpr (λz => e z.symm);rw[abe,hb] at h;show(if g=f then (g,v)::r else (g,x)::au f v r).length=_;rw[if_neg e,aaG,ip h];rfl
theorem MF.qz {fs:List (Str×V)}{f:Str}{v:V}(h:∀ x:Str,x∈vm->fs.lookup x=none)(hf:f ∉ vm):∀ x:Str,x∈vm->(au f v fs).lookup x=none:=λx hx=>il (λe=>hf (e ▸ hx)) (h x hx)
section
variable {fs:List (Str×V)} {pc pt ph pl pk:Addr} {aS av:Int} {dj:V} {state:Str}
theorem MF.GC (F:MF fs pc pt ph pl pk aS av dj state)(n:Int):MF (au "coming" (.int n) fs) pc pt ph pl pk aS n dj state :=
 ⟨aJ (by nofun) F.code,aJ (by nofun) F.table,aJ (by nofun) F.aS,cz,aJ (by nofun) F.held,aJ (by nofun) F.cells,aJ (by nofun) F.calls,aJ (by nofun) F.dj,aJ (by nofun) F.state,by rw[ip F.av];exact F.len,MF.qz F.no (by nofun)⟩
theorem MF.Ls (F:MF fs pc pt ph pl pk aS av dj state)(q:Addr):MF (au "held" (.ref q) fs) pc pt q pl pk aS av dj state :=
 ⟨aJ (by nofun) F.code,aJ (by nofun) F.table,aJ (by nofun) F.aS,aJ (by nofun) F.av,cz,aJ (by nofun) F.cells,aJ (by nofun) F.calls,aJ (by nofun) F.dj,aJ (by nofun) F.state,by rw[ip F.held];exact F.len,MF.qz F.no (by nofun)⟩
theorem MF.Jn (F:MF fs pc pt ph pl pk aS av dj state)(q:Addr):MF (au "cells" (.ref q) fs) pc pt ph q pk aS av dj state :=
 ⟨aJ (by nofun) F.code,aJ (by nofun) F.table,aJ (by nofun) F.aS,aJ (by nofun) F.av,aJ (by nofun) F.held,cz,aJ (by nofun) F.calls,aJ (by nofun) F.dj,aJ (by nofun) F.state,by rw[ip F.cells];exact F.len,MF.qz F.no (by nofun)⟩
theorem MF.setState (F:MF fs pc pt ph pl pk aS av dj state)(t:Str):MF (au "state" (.str t) fs) pc pt ph pl pk aS av dj t :=
 ⟨aJ (by nofun) F.code,aJ (by nofun) F.table,aJ (by nofun) F.aS,aJ (by nofun) F.av,aJ (by nofun) F.held,aJ (by nofun) F.cells,aJ (by nofun) F.calls,aJ (by nofun) F.dj,cz,by rw[ip F.state];exact F.len,MF.qz F.no (by nofun)⟩
theorem MF.O2 (F:MF fs pc pt ph pl pk aS av dj state)(v:V):MF (au "dropped" v fs) pc pt ph pl pk aS av v state :=
 ⟨aJ (by nofun) F.code,aJ (by nofun) F.table,aJ (by nofun) F.aS,aJ (by nofun) F.av,aJ (by nofun) F.held,aJ (by nofun) F.cells,aJ (by nofun) F.calls,cz,aJ (by nofun) F.state,by rw[ip F.dj];exact F.len,MF.qz F.no (by nofun)⟩
end
theorem MF.start (pc pt ph pl pk:Addr)(aS av:Int)(st:Str):MF (au "state" (.str st) (au "dropped" .aC (au "calls" (.ref pk) (au "cells" (.ref pl) (au "held" (.ref ph) (au "coming" (.int av) (au "home" (.int aS) (au "table" (.ref pt) (au "code" (.ref pc) []))))))))) pc pt ph pl pk aS av .aC st:=by
 refine⟨?_,?_,?_,?_,?_,?_,?_,?_,?_,fK (fK (fK (fK (fK (fK (fK (fK (fK (aag 0))))))))),?_⟩
 . repeat first | exact cz | refine aJ (by nofun) ?_
 . repeat first | exact cz | refine aJ (by nofun) ?_
 . repeat first | exact cz | refine aJ (by nofun) ?_
 . repeat first | exact cz | refine aJ (by nofun) ?_
 . repeat first | exact cz | refine aJ (by nofun) ?_
 . repeat first | exact cz | refine aJ (by nofun) ?_
 . repeat first | exact cz | refine aJ (by nofun) ?_
 . repeat first | exact cz | refine aJ (by nofun) ?_
 . exact cz
 . repeat refine MF.qz ?_ (by nofun)
   exact λx _=>rfl
def tU (H:Hp)(v:V)(c:Cl):Prop:=∃ t k,v=.ref t/\H t=some (.tup [.int c.1,.ref k,.int c.2.2.2.2])/\H k=some (.tup [.int c.2.1,.int c.2.2.1,.int c.2.2.2.1])
def ClsAt (H:Hp)(vs:List V)(cs:List Cl):Prop:=vs.length=cs.length/\∀ (i:Nat) (v:V) (c:Cl),vs[i]? = some v->cs[i]? = some c->tU H v c
theorem tU.to {v:V}{c:Cl}(h:tU H v c)(k:∀ b xs,H b=some (.tup xs)->H' b=some (.tup xs)):tU H' v c:=let ⟨t,q,e,e1,e2⟩:=h;⟨t,q,e,k _ _ e1,k _ _ e2⟩
theorem ClsAt.to {cs:List Cl}(h:ClsAt H vs cs)(k:∀ b xs,H b=some (.tup xs)->H' b=some (.tup xs)):ClsAt H' vs cs:=⟨h.1,λi v c e1 e2=>(h.2 i v c e1 e2).to k⟩
theorem ClsAt.snoc {cs:List Cl}{v:V}{c:Cl}(h:ClsAt H vs cs)(q:tU H v c):ClsAt H (vs++[v]) (cs++[c]):=by
 refine⟨by rw[aab,aab,h.1];rfl,λi p' r' e1 e2=>?_⟩;by_cases hi:i<cs.length
 . rw[aas (by rw[h.1]; exact hi)] at e1;rw[aas hi] at e2;exact h.2 i p' r' e1 e2
 . have UK : i = cs.length := by
     have:=(List.getElem?_eq_some_iff.mp e2).1
     rw[aab] at this;simp at this;lia
   subst UK;rw[aaq (by lia)] at e2;rw[aaq (by rw[h.1];lia),h.1] at e1;simp at e1 e2;subst e1 e2;exact q
theorem ClsAt.take {cs:List Cl}(h:ClsAt H vs cs)(n:Nat):ClsAt H (vs.take n) (cs.take n):=by
 refine⟨by rw[aaA,aaA,h.1],λi v c e1 e2=>?_⟩;rw[List.getElem?_take] at e1 e2;split at e1
 . rename_i hi;rw[if_pos hi] at e2;exact h.2 i v c e1 e2
 . cases e1
def aP (m k:Addr)(H H':Hp):Prop:=∀ b o,H b=some o->b≠m->b≠k->H' b=some o
variable {m:Addr}
theorem aP.refl {k:Addr}:aP m k H H:=λ_ _ e _ _=>e
theorem aP.trans {k:Addr}{H1 H2:Hp}(h:aP m k H H1)(g:aP m k H1 H2):aP m k H H2:=λb o e n1 n2=>g b o (h b o e n1 n2) n1 n2
theorem aP.of_same {k:Addr}(h:ao H H'):aP m k H H':=λb o e _ _=>h b o e
theorem aP.ny {k:Addr}(h:aP m k H H'):aP m k H (upd H' m o):=λb u e n1 n2=>by rw[ak n1];exact h b u e n1 n2
theorem aP.Ii {k:Addr}(h:aP m k H H'):aP m k H (upd H' k o):=λb u e n1 n2=>by rw[ak n2];exact h b u e n1 n2
structure gb (a:bG)(H:Hp)(m pk dx pc pt ph pl:Addr)(fs:List (Str×V))(prs:List Addr)(cs:List V)(S:MS):Prop where
 hm:H m=some (.ins a.ax dx fs)
 f:MF fs pc pt ph pl pk S.rows.length S.av S.dj S.state
 hc:H pc=some (.lst (prs.map V.ref))
 rows:bL a H prs S.rows
 hh:H ph=some (.lst (S.held.map V.int))
 hl:H pl=some (.lst (S.cells.map V.int))
 hk:H pk=some (.lst cs)
 calls:ClsAt H cs S.calls
 n1:pk≠pc
 n2:pk≠ph
 n3:pk≠pl
 n4:∀ p∈prs,p≠m
def cX (a:bG)(H:Hp)(m pk pt:Addr)(S:MS):Prop:=∃ dx pc ph pl fs prs cs,gb a H m pk dx pc pt ph pl fs prs cs S
structure c5 (S:MS):Prop where
 ok:∀ r∈S.rows,r.ok/\(r.dR=false->r.here)
 many:S.rows.length<=2000
 fJ : 0<=S.av
 q_:S.state = "runs"->S.av<S.rows.length
 h8:S.held.length=8
 hv:∀ x∈S.held,isVal x
 cv:∀ x∈S.cells,isVal x
 cl:S.cells.length<=4000
 sk:PyData.strOk S.state=true
theorem DD (h n:Int):PyData.strOk (aK h n)=true:=by
 unfold aK
 repeat' split
 all_goals nofun
theorem y0:PyData.strOk "fault" = true:=by nofun
variable {aS:Int}
theorem P8 (h : ¬ aK aS n = "fault"):n=aS∨(0<=n/\n<aS):=by
 unfold aK at h;split at h
 . rename_i e;exact .inl e
 . split at h
   . rename_i e;exact .inr e
   . exact absurd rfl h
theorem Na:("ended" : Str) ≠ "runs":=by nofun
theorem pf:("fault" : Str) ≠ "runs":=by nofun
theorem EB (h:aK aS n = "runs") : 0<=n/\n<aS:=by
 unfold aK at h;split at h
 . exact absurd h Na
 . split at h
   . assumption
   . exact absurd h pf
variable {S:MS}
theorem c5.bU (o:c5 S)(hr:r∈S.rows)(hn:S.av<S.rows.length):c5 (S.bU r):=by
 unfold MS.bU;split
 . exact⟨o.ok,o.many,o.fJ,λz=>absurd z pf,o.h8,o.hv,o.cv,o.cl,y0⟩
 . rename_i n bs pl e;split
   . exact⟨o.ok,o.many,o.fJ,λz=>absurd z pf,o.h8,o.hv,o.cv,o.cl,y0⟩
   . have hm := o.many;obtain⟨k1,k2,k3,k4,k5⟩:=MH (o.ok r hr).1 o.fJ (by lia) o.h8 o.hv o.cv o.cl e;exact⟨o.ok,o.many,k5,λz=>(EB z).2,k1,k2,k3,k4,DD _ _⟩
theorem c5.row (o:c5 S)(h:S.state = "runs"):∃ r,S.rows[S.av.toNat]? = some r/\r∈S.rows:=by
 have h1:=o.q_ h;have h0:=o.fJ;have hl:S.av.toNat<S.rows.length:=by omega
 exact⟨S.rows[S.av.toNat],aaa hl,aaX hl⟩
theorem DY (S:MS)(r:Rw):(S.bU r).rows=S.rows:=by
 unfold MS.bU;split
 . rfl
 . split <;> rfl
theorem CF (S:MS)(r:Rw):(S.bU r).calls.length<=S.calls.length+1:=by
 unfold MS.bU;split
 . exact abm _
 . split
   . exact abm _
   . show(S.l6 r).length <= _;unfold MS.l6;split
     . rw[aab];exact aag _
     . split
       . rw[aaA];omega
       . exact abm _
def A_ (K:W.Frag):Sp:=λvs H Q _=>∃ (p:Addr) (bs:List Int),vs=[.ref p]/\ar K H p (bs.map V.int)/\bs.length=8/\∀ t,H t=none->Q (.ref t) (upd H t (.tup [.int (gI bs 4),.int (gI bs 5),.int (gI bs 6)]))
theorem HW {K:W.Frag}{bs:List Int}(h:ar K H p (bs.map V.int))(h8:bs.length=8)(q:∀ t,H t=none->Q (.ref t) (upd H t (.tup [.int (gI bs 4),.int (gI bs 5),.int (gI bs 6)]))):A_ K [.ref p] H Q E:=⟨p,bs,rfl,h,h8,q⟩
def RW (a:bG):Sp:=λvs H Q _=>∃ (m dx:Addr) (fs:List (Str×V)) (aS n:Int),vs=[.ref m,.int n]/\H m=some (.ins a.ax dx fs)/\fs.lookup ("home" : Str)=some (.int aS)/\Q (.str (aK aS n)) H
def J6 (a:bG)(f:Str):Sp:=λvs H Q _=>∃ (m dx:Addr) (fs:List (Str×V)) (v:V),vs=[.ref m]/\H m=some (.ins a.ax dx fs)/\fs.lookup f=some v/\Q v H
def Gm (a:bG)(f:Str):Sp:=λvs H Q _=>∃ (m dx p:Addr) (fs:List (Str×V)) (xs:List V),vs=[.ref m]/\H m=some (.ins a.ax dx fs)/\fs.lookup f=some (.ref p)/\H p=some (.lst xs)/\∀ l,H l=none->Q (.ref l) (upd H l (.lst xs))
def Mo (a:bG):Sp:=λvs H Q _=>∃ (m dx pc pt ph pl pk pb pp:Addr) (fs:List (Str×V)) (aS c n:Int) (d:V) (st:Str),vs=[.ref m,.int n,.ref pb,.ref pp]/\H m=some (.ins a.ax dx fs)/\MF fs pc pt ph pl pk aS c d st /\
 ∀ U_,MF U_ pc pt pb pp pk aS n d (aK aS n)->Q .aC (upd H m (.ins a.ax dx U_))
def Hu (a:bG):Sp:=λvs H Q _=>∃ (m dx pk:Addr) (fs:List (Str×V)) (k:Int) (xs:List V),vs=[.ref m,.int k]/\H m=some (.ins a.ax dx fs)/\fs.lookup ("calls" : Str)=some (.ref pk)/\H pk=some (.lst xs)/\0<=k/\xs.length<=100000 /\
 ∀ H',H' pk=some (.lst (xs.take (xs.length - k.toNat)))->(∀ b,b≠pk->H' b=H b)->Q .aC H'
def RV (a:bG):Sp:=λvs H Q _=>∃ (m p pk pt:Addr) (r:Rw) (S:MS),vs=[.ref m,.ref p]/\cX a H m pk pt S/\c5 S/\bC a H p r/\r∈S.rows/\r.dR=false/\p≠m/\S.av<S.rows.length/\S.calls.length<=50000/\∀ H',aP m pk H H'->cX a H' m pk pt (S.bU r)->Q .aC H'
def ia (rs:List Rw)(bs:List Int)(start:Int):MS:=⟨rs,start,bs++[(rs.length:Int)],[],[((rs.length:Int),gI (bs++[(rs.length:Int)]) 4,gI (bs++[(rs.length:Int)]) 5,gI (bs++[(rs.length:Int)]) 6,0)],.aC,aK rs.length start⟩
def Ed (a:bG)(H:Hp)(t pk:Addr)(ev:List V)(kvs:List (Key×V)):Prop:=∃ dt l d,H t=some (.ins a.b3 dt (fQ l d))/\H l=some (.lst ev)/\H d=some (.dK kvs)/\l≠pk
def zg (a:bG)(H H':Hp)(t pk:Addr)(ev:List V)(kvs:List (Key×V)):Prop:=∃ dt l d,H' t=some (.ins a.b3 dt (fQ l d))/\H' l=some (.lst ev)/\H' d=some (.dK kvs)/\l≠pk/\H l=none/\H d=none
def mL (a:bG):Sp:=λvs H Q _=>∃ (x dx c t b dt l d:Addr) (start:Int) (prs:List Addr) (rs:List Rw) (bs:List Int) (es:List V) (kvs:List (Key×V)),vs=[.ref x,.ref c,.ref t,.ref b,.int start]/\H x=some (.ins a.ax dx [])/\H c=some (.lst (prs.map V.ref))/\bL a H prs rs/\(∀ p∈prs,p≠x) /\
 H t=some (.ins a.b3 dt (fQ l d))/\t≠x/\H l=some (.lst es)/\H d=some (.dK kvs)/\H b=some (.lst (bs.map V.int))/\bs.length=7/\rs.length<=2000 /\
 ∀ pk pc pt ph pl fs cs H',H pk=none->H pc=none->H ph=none->H pl=none->(∀ b o,H b=some o->b≠x->H' b=some o)->gb a H' x pk dx pc pt ph pl fs prs cs (ia rs bs start)->zg a H H' pt pk es kvs->Q .aC H'
variable {dx:Addr}
theorem Nc {a:bG}{x c t b dt l d:Addr}{start:Int}{bs:List Int}{es:List V}{kvs:List (Key×V)}{R:VK}{E:XK}(hx:H x=none)(U2:H dx=none)(hc:H c=some (.lst (prs.map V.ref)))(hr:bL a H prs rs)
   (ht:H t=some (.ins a.b3 dt (fQ l d))) (hl:H l=some (.lst es)) (hd:H d=some (.dK kvs)) (hb:H b=some (.lst (bs.map V.int))) (h7:bs.length=7) (hm:rs.length<=2000)
   (q:∀ pk pc pt ph pl fs cs H',H pk=none->H pc=none->H ph=none->H pl=none->ao H H'->gb a H' x pk dx pc pt ph pl fs prs cs (ia rs bs start)->zg a H H' pt pk es kvs->R .aC H'):mL a [.ref x,.ref c,.ref t,.ref b,.int start] (upd (upd H dx (.own x)) x (.ins a.ax dx [])) R E:=by
 have up:∀ {b:Addr} {o:HO},H b=some o->upd (upd H dx (.own x)) x (.ins a.ax dx []) b=some o:=λ{b o} e=>by rw[ak (ag e hx),ak (ag e U2)];exact e
 refine⟨x,dx,c,t,b,dt,l,d,start,prs,rs,bs,es,kvs,rfl,aa,up hc,hr.to (λp _ o e=>up e),λp hp=>?_,up ht,ag ht hx,up hl,up hd,up hb,h7,hm,λpk pc pt ph pl fs cs H' n1 n2 n3 n4 kp M TT=>?_⟩
 . obtain⟨r, _, dxr, e⟩ := hr.mem hp;exact ag e hx
 . have dn : ∀ {b : Addr}, upd (upd H dx (.own x)) x (.ins a.ax dx []) b = none -> H b = none := λe => (bw (bw e).1).1;exact q pk pc pt ph pl fs cs H' (dn n1) (dn n2) (dn n3) (dn n4) (λb o e=>kp b o (up e) (ag e hx)) M (by obtain⟨dt',l',d',t1,t2,t3,t4,t5,t6⟩:=TT;exact⟨dt',l',d',t1,t2,t3,t4,dn t5,dn t6⟩)
section
variable {a:bG} {H H1:Hp} {m pk dx pc pt ph pl:Addr} {fs:List (Str×V)} {prs:List Addr} {cs:List V} {S:MS}
theorem gb.xg (M:gb a H m pk dx pc pt ph pl fs prs cs S)(kp:aP m pk H H1){o1:List (Str×V)}{b' p':Addr}{U_:List (Str×V)}{cs':List V}{calls':List Cl}{n:Int}{bs pp:List Int}{st:Str}{d':V}(hmm:H1 m=some (.ins a.ax dx o1))
   (hb:H1 b'=some (.lst (bs.map V.int))) (hp:H1 p'=some (.lst (pp.map V.int))) (hk:H1 pk=some (.lst cs')) (Uc:ClsAt H1 cs' calls') (nb:pk≠b') (np:pk≠p') (F':MF U_ pc pt b' p' pk S.rows.length n d' st) :
   gb a (upd H1 m (.ins a.ax dx U_)) m pk dx pc pt b' p' U_ prs cs' ⟨S.rows,n,bs,pp,calls',d',st⟩:=by
 have kn:∀ {b:Addr} {xs:List V},H1 b=some (.lst xs)->b≠m:=λ{b xs} e z=>by subst z;rw[hmm] at e;cases e
 have kt:∀ {b:Addr} {xs:List V},H1 b=some (.tup xs)->b≠m:=λ{b xs} e z=>by subst z;rw[hmm] at e;cases e
 have c1:pc≠m:=λz=>by have e:=M.hc;rw[z,M.hm] at e;cases e
 refine⟨aa,F',?_,?_,?_,?_,?_,?_,M.n1,nb,np,M.n4⟩
 . rw[ak c1];exact kp _ _ M.hc c1 M.n1.symm
 . refine M.rows.to λp h o e=>?_;have q1:=M.n4 p h;rw[ak q1];refine kp _ _ e q1 λz=>?_;obtain⟨r,_,dxr,e2⟩:=M.rows.mem h;have e3:=M.hk;rw[<- z,e2] at e3;cases e3
 . rw[ak (kn hb)];exact hb
 . rw[ak (kn hp)];exact hp
 . rw[ak (kn hk)];exact hk
 . exact Uc.to λb xs e=>by rw[ak (kt e)];exact e
theorem gb.clsAt (M:gb a H m pk dx pc pt ph pl fs prs cs S)(kp:aP m pk H H1):ClsAt H1 cs S.calls:=M.calls.to λb xs e=>kp b _ e (λz=>by have q:=M.hm;rw[<- z,e] at q;cases q) (λz=>by have q:=M.hk;rw[<- z,e] at q;cases q)
theorem gb.QX (M:gb a H m pk dx pc pt ph pl fs prs cs S):ph≠m:=λz=>by have e:=M.hh;rw[z,M.hm] at e;cases e
theorem gb.QV (M:gb a H m pk dx pc pt ph pl fs prs cs S):pl≠m:=λz=>by have e:=M.hl;rw[z,M.hm] at e;cases e
theorem gb.QO (M:gb a H m pk dx pc pt ph pl fs prs cs S):pk≠m:=λz=>by have e:=M.hk;rw[z,M.hm] at e;cases e
theorem gb.qP (M:gb a H m pk dx pc pt ph pl fs prs cs S)(s:ao H H1)(t:Str):cX a (upd H1 m (.ins a.ax dx (au "state" (.str t) fs))) m pk pt { S with state:=t } :=
 ⟨dx,pc,ph,pl,_,prs,cs,M.xg (aP.of_same s) (s _ _ M.hm) (s _ _ M.hh) (s _ _ M.hl) (s _ _ M.hk) (M.clsAt (aP.of_same s)) M.n2 M.n3 (M.f.setState t)⟩
theorem gb.to (M:gb a H m pk dx pc pt ph pl fs prs cs S)(s:ao H H1):gb a H1 m pk dx pc pt ph pl fs prs cs S :=
 ⟨s _ _ M.hm,M.f,s _ _ M.hc,M.rows.same s,s _ _ M.hh,s _ _ M.hl,s _ _ M.hk,M.clsAt (aP.of_same s),M.n1,M.n2,M.n3,M.n4⟩
theorem cX.to (M:cX a H m pk pt S)(s:ao H H1):cX a H1 m pk pt S:=by
 obtain⟨dx,pc,ph,pl,fs,prs,cs,M⟩:=M;exact⟨dx,pc,ph,pl,fs,prs,cs,s _ _ M.hm,M.f,s _ _ M.hc,M.rows.same s,s _ _ M.hh,s _ _ M.hl,s _ _ M.hk,M.clsAt (aP.of_same s),M.n1,M.n2,M.n3,M.n4⟩
end
def Nh (c:Cl):PyData:=.tuple [.int c.1,.tuple [.int c.2.1,.int c.2.2.1,.int c.2.2.2.1],.int c.2.2.2.2]
theorem tU.dp {K:W.Frag}{v:V}{c:Cl}(h:tU H v c):Dp K H (Nh c) v:=by
 obtain⟨t,k,rfl,h1,h2⟩:=h;exact gD (aI.of h1) (aT (cG _) (aT (gD (aI.of h2) (aT (cG _) (aT (cG _) (aT (cG _) cK)))) (aT (cG _) cK)))
theorem ClsAt.dp {K:W.Frag}:∀ {vs:List V} {cs:List Cl},ClsAt H vs cs->eA K H (cs.map Nh) vs
 | [],[],_=>cK
 | [],_::_,h=>by have:=h.1;simp at this
 | _::_,[],h=>by have:=h.1;simp at this
 | v :: vs, c :: cs, h => by
   refine aT (h.2 0 v c rfl rfl).dp (ClsAt.dp (vs:=vs) (cs:=cs) ⟨by simpa using h.1,λi u d e1 e2=>?_⟩);exact h.2 (i+1) u d (by simpa using e1) (by simpa using e2)
theorem ClsAt.rev {cs:List Cl}(h:ClsAt H vs cs):ClsAt H vs.reverse cs.reverse:=by
 refine⟨by rw[aa7,aa7,h.1],λi v c e1 e2=>?_⟩;have hi:i<vs.length:=by
   have:=(List.getElem?_eq_some_iff.mp e1).1
   rwa [aa7] at this
 rw[adm hi] at e1;rw[adm (by rw[<- h.1];exact hi),<- h.1] at e2;exact h.2 _ v c e1 e2
def N2 (a:bG):Sp:=λvs H Q _=>∃ (m dx pk:Addr) (fs:List (Str×V)) (cs:List V),vs=[.ref m]/\H m=some (.ins a.ax dx fs)/\fs.lookup ("calls" : Str)=some (.ref pk)/\H pk=some (.lst cs)/\∀ l,H l=none->Q (.ref l) (upd H l (.lst cs.reverse))
def TabAt (K:W.Frag)(a:bG)(H:Hp)(t pk:Addr)(es:List (Option Ent))(kvs:List (Key×V)):Prop:=∃ ev,Ed a H t pk ev kvs/\bJ K H ev es
variable {C:Addr}
theorem aI.kept {K:W.Frag}{k:Addr}{fs:List (Str×V)}(h:aP m k H H')(hm:H m=some (.ins C dx fs))(hk:H k=some (.lst xs))(q:aI K H p ys):aI K H' p ys:=by
 rcases q with (q | ⟨o,q⟩) | q
 . exact .inl (.inl (h _ _ q (λz=>by rw[z,hm] at q;cases q) (λz=>by rw[z,hk] at q;cases q)))
 . exact .inl (.inr ⟨o,h _ _ q (λz=>by rw[z,hm] at q;cases q) (λz=>by rw[z,hk] at q;cases q)⟩)
 . exact .inr q
theorem bJ.kept {K:W.Frag}{k:Addr}{fs:List (Str×V)}(h:aP m k H H')(hm:H m=some (.ins C dx fs))(hk:H k=some (.lst xs))(q:bJ K H vs es):bJ K H' vs es:=by
 refine⟨q.1,λi oe e=>?_⟩;obtain⟨v,e1,e2⟩:=q.2 i oe e;refine⟨v,e1,?_⟩;cases oe with
 | none=>exact e2
 | some en =>
   obtain⟨p,rfl,qq,h1,h2⟩:=e2;exact⟨p,rfl,qq,aI.kept h hm hk h1,aI.kept h hm hk h2⟩
variable {kvs:List (Key×V)} {t:Addr}
theorem Ed.ne {a:bG}{fs:List (Str×V)}{ev:List V}{v:V}(T:Ed a H t pk ev kvs)(hm:H m=some (.ins a.ax dx fs))(hf:fs.lookup ("code" : Str)=some v):t≠m:=λz=>by
 obtain⟨dt,l,d,h1,_⟩:=T;rw[z,hm] at h1;injection h1 with h1;injection h1 with _ _ h1;subst h1;rw[show(fQ l d).lookup ("code" : Str)=none from il (by nofun) (il (by nofun) rfl)] at hf;cases hf
theorem TabAt.kept {K:W.Frag}{a:bG}{pq:Addr}(T:TabAt K a H t pk es kvs)(M:cX a H m pk pq S)(k:aP m pk H H'):TabAt K a H' t pk es kvs:=by
 obtain⟨ev,TI,E⟩:=T;obtain⟨dx,pc,ph,pl,fs,prs,cs,M⟩:=M;have tm:=TI.ne M.hm M.f.code;obtain⟨dt,l,d,h1,h2,h3,h4⟩:=TI;refine⟨ev,⟨dt,l,d,k _ _ h1 tm (λz=>by rw[z,M.hk] at h1;cases h1),k _ _ h2 (λz=>by rw[z,M.hm] at h2;cases h2) h4,k _ _ h3 (λz=>by rw[z,M.hm] at h3;cases h3) (λz=>by rw[z,M.hk] at h3;cases h3),h4⟩,E.kept k M.hm M.hk⟩
theorem TabAt.same {K:W.Frag}{a:bG}(T:TabAt K a H t pk es kvs)(s:ao H H'):TabAt K a H' t pk es kvs:=by
 obtain⟨ev,⟨dt,l,d,h1,h2,h3,h4⟩,E⟩:=T;exact⟨ev,⟨dt,l,d,s _ _ h1,s _ _ h2,s _ _ h3,h4⟩,E.same s⟩
def zX (kvs:List (Key×V)):Prop:=∀ k v,cP kvs k=some v->∃ i:Int,v=.int i
def vb (kvs:List (Key×V))(c:bK):Option Int:=match cP kvs (.inl (c.r - 1)) with | some (.int n)=>some n | _=>none
def landAt (aS:Int)(kvs:List (Key×V))(c:bK):Bool:=decide (c.r≠aS) && (cP kvs (.inl (c.r - 1))).isSome
def MS.landed (S : MS)(v : Int)(c : bK)(k : Nat)(n : Int) : MS := if aK S.rows.length n = "fault" then { S with state := "fault" } else
 ⟨S.rows,n,[v,gI S.held 1,gI S.held 2,gI S.held 3,c.a,c.b,c.c,gI S.held 7],S.cells.take c.n.toNat,S.calls.take (S.calls.length - k),S.dj,aK S.rows.length n⟩
def MS.dropped (S:MS)(es:List (Option Ent))(kvs:List (Key×V))(v:Int):MS :=
 match (bp es 5000 S.av (S.held.map V.int) S.cells).2 with
 | some _=>{ S with state:="fault" }
 | none => match (bp es 5000 S.av (S.held.map V.int) S.cells).1.findIdx? (landAt S.rows.length kvs) with
   | none=>{ S with state:="dropped",dj:=.int v }
   | some i => match (bp es 5000 S.av (S.held.map V.int) S.cells).1[i]? with
     | none=>S
     | some c => match vb kvs c with
       | none=>S
       | some n=>S.landed v c (i+1) n
def MS.ei (S:MS)(es:List (Option Ent))(kvs:List (Key×V)):Rw->MS
 | .drop b=>S.dropped es kvs (gI S.held b)
 | r=>S.bU r
theorem CM (h:r.dR=false):S.ei es kvs r=S.bU r:=by cases r <;> first | rfl | cases h
def MS.bV (S:MS)(es:List (Option Ent))(kvs:List (Key×V)):MS:=if S.state = "runs" then (match S.rows[S.av.toNat]? with | none=>S | some r=>S.ei es kvs r) else S
theorem xM (h:S.state ≠ "runs"):S.bV es kvs=S:=by unfold MS.bV;rw[if_neg h]
theorem tf (h:S.state = "runs")(hr:S.rows[S.av.toNat]? = some r):S.bV es kvs=S.ei es kvs r:=by unfold MS.bV;rw[if_pos h,hr]
theorem zk {v:Int}(h:(bp es 5000 S.av (S.held.map V.int) S.cells).2=none)(hf:(bp es 5000 S.av (S.held.map V.int) S.cells).1.findIdx? (landAt S.rows.length kvs)=none):S.dropped es kvs v={ S with state:="dropped",dj:=.int v }:=by unfold MS.dropped;rw[h];dsimp only;rw[hf]
theorem AN {v n:Int}{i:Nat}(h:(bp es 5000 S.av (S.held.map V.int) S.cells).2=none)(hf:(bp es 5000 S.av (S.held.map V.int) S.cells).1.findIdx? (landAt S.rows.length kvs)=some i)(hc:(bp es 5000 S.av (S.held.map V.int) S.cells).1[i]? = some c)
   (hv:cP kvs (.inl (c.r - 1))=some (.int n)):S.dropped es kvs v=S.landed v c (i+1) n:=by
 unfold MS.dropped;rw[h];dsimp only;rw[hf];dsimp only;rw[hc];dsimp only;rw[show vb kvs c=some n from by unfold vb;rw[hv]]
def O_ (K:W.Frag)(a:bG):Sp:=λvs H Q _=>∃ (m pk pt t:Addr) (v n:Int) (k:Nat) (c:bK) (S:MS) (es:List (Option Ent)) (kvs:List (Key×V)),vs=[.ref m,.int v,.ref t,.int (k:Int)]/\cX a H m pk pt S/\c5 S/\TabAt K a H pt pk es kvs/\iQ H (.ref t) c/\0<=c.n /\
 S.calls.length<=50000/\cP kvs (.inl (c.r - 1))=some (.int n)/\∀ H',aP m pk H H'->cX a H' m pk pt (S.landed v c k n)->Q .aC H'
def NS (K:W.Frag)(a:bG):Sp:=λvs H Q _=>∃ (m pk pt:Addr) (v:Int) (S:MS) (es:List (Option Ent)) (kvs:List (Key×V)),vs=[.ref m,.int v]/\cX a H m pk pt S/\c5 S/\TabAt K a H pt pk es kvs/\zX kvs/\S.av<S.rows.length /\
 S.calls.length<=50000/\∀ H',aP m pk H H'->cX a H' m pk pt (S.dropped es kvs v)->Q .aC H'
def Lf (K:W.Frag)(a:bG):Sp:=λvs H Q _=>∃ (m pk pt:Addr) (S:MS) (es:List (Option Ent)) (kvs:List (Key×V)),vs=[.ref m]/\cX a H m pk pt S/\c5 S/\TabAt K a H pt pk es kvs/\zX kvs /\
 S.calls.length<=50000/\∀ H',aP m pk H H'->cX a H' m pk pt (S.bV es kvs)->Q .aC H'
theorem aZ.kept {fs:List (Str×V)}(kp:aP m pk H H')(hm:H m=some (.ins C dx fs))(hk:H pk=some (.lst xs)):∀ {vs:List V} {cs:List bK},aZ H vs cs->aZ H' vs cs
 | [],[],_=>aan
 | [],_::_,h=>h.elim
 | _::_,[],h=>h.elim
 | v :: vs, c :: cs, h => by
   have kt:∀ b xs,H b=some (.tup xs)->H' b=some (.tup xs):=λb xs e=>kp b _ e (λz=>by rw[z,hm] at e;cases e) (λz=>by rw[z,hk] at e;cases e);obtain⟨⟨t,q,e,h1,h2⟩,h3⟩:=h;exact⟨⟨t,q,e,kt _ _ h1,kt _ _ h2⟩,aZ.kept kp hm hk h3⟩
def MS.walk (S:MS)(es:List (Option Ent)):List bK×Option Int:=bp es 5000 S.av (S.held.map V.int) S.cells
def zz (v:V):Prop:=∀ i,v=.int i->isVal i
theorem tY {kn:List V}(hk:∀ v∈kn,zz v)(hp:∀ x∈pc,isVal x):zz (br s kn pc):=by
 unfold br;split
 . intro i e;cases e
 . split
   . intro i e;rw[aar] at e;cases h:kn[(lowP s).toNat]? with
     | none=>rw[h] at e;cases e
     | some v=>rw[h] at e;exact hk v (aak h) i e
   . split
     . intro i e;injection e with e;subst e;exact fL hp _
     . intro i e;cases e
theorem MZ (h1:isVal c.a)(h2:isVal c.b)(h3:isVal c.c):∀ v∈ib c,zz v:=λv hv i e=>by
 simp only[ib,aaP,aaR,or_false] at hv;rcases hv with rfl | rfl | rfl | rfl | rfl | rfl | rfl | rfl
 all_goals first | cases e | skip
 all_goals assumption
theorem zJ {v:V}(h:vi v=some i):v=.int i:=by
 cases v with
 | int j=>injection h with h;rw[h]
 | _=>cases h
theorem Lv {kn:List V}{pl:List Int}(hk:∀ v∈kn,zz v)(hp:∀ x∈pl,isVal x)(h:gJ e kn pl=some c):isVal c.a/\isVal c.b/\isVal c.c:=by
 have hd:∀ x∈pl.drop ((pl.length:Int) - e.h).toNat,isVal x:=λx hx=>hp x (List.mem_of_mem_drop hx);unfold gJ at h;split at h
 . rename_i r x y z h1 h2 h3 h4;cases h
   exact⟨tY hk hd _ (zJ h2),tY hk hd _ (zJ h3),tY hk hd _ (zJ h4)⟩
 . cases h
theorem Ht {kn:List V}{pl:List Int}(hk:∀ v∈kn,zz v)(hp:∀ x∈pl,isVal x)(h:dX es at' kn pl=some c):isVal c.a/\isVal c.b/\isVal c.c/\0<=c.n:=by
 unfold dX at h;split at h
 . unfold Fb at h;split at h
   . cases h
   . rename_i e _;split at h
     . rename_i hh;obtain⟨h1,h2,h3⟩:=Lv hk hp h;refine⟨h1,h2,h3,?_⟩;unfold gJ at h;split at h
       . cases h
         show 0<=(pl.length:Int) - e.h
         lia
       . cases h
     . cases h
 . cases h
theorem Bk:∀ (f:Nat) (at':Int) (kn:List V) (pl:List Int),(∀ v∈kn,zz v)->(∀ x∈pl,isVal x)->∀ c∈(bp es f at' kn pl).1,isVal c.a/\isVal c.b/\isVal c.c/\0<=c.n
 | 0,at',kn,pl,_,_,c,hc=>by rw[bp] at hc;cases hc
 | f + 1, at', kn, pl, hk, hp, c, hc => by
   rw[bp] at hc;split at hc
   . cases hc
   . split at hc
     . cases hc
     . rename_i d hd;obtain⟨h1,h2,h3,h4⟩:=Ht hk hp hd;rcases List.mem_cons.mp hc with rfl | hc
       . exact⟨h1,h2,h3,h4⟩
       . exact Bk f d.r (ib d) (pl.take d.n.toNat) (MZ h1 h2 h3) (λx hx=>hp x (abY hx)) c hc
theorem A3:∀ (f:Nat) (at':Int) (kn:List V) (pl:List Int),(bp es f at' kn pl).1.length<=f
 | 0,at',kn,pl=>by rw[bp];exact aag 0
 | f + 1, at', kn, pl => by
   rw[bp];split
   . exact aaT _
   . split
     . exact aaT _
     . exact ade (A3 f _ _ _)
theorem KZ {bs:List Int}(h:∀ x∈bs,isVal x):∀ v∈bs.map V.int,zz v:=λv hv i e=>by
 obtain⟨x,hx,rfl⟩:=List.mem_map.mp hv;injection e with e;subst e;exact h x hx
theorem c5.walk (o:c5 S)(es:List (Option Ent)):∀ c∈(S.walk es).1,isVal c.a/\isVal c.b/\isVal c.c/\0<=c.n:=Bk 5000 _ _ _ (KZ o.hv) o.cv
theorem c5.kn (o : c5 S) : tV (S.held.map V.int) := ⟨by rw[aac]; exact o.h8, λv hv => by
 obtain⟨x,hx,rfl⟩:=List.mem_map.mp hv
 have:=o.hv x hx
 exact .inr ⟨x,rfl,by have:=this.1;lia,by have:=this.2;lia⟩⟩
theorem c5.pl (o:c5 S):fO S.cells:=λx hx=>by
 have:=o.cv x hx
 exact⟨by have:=this.1;lia,by have:=this.2;lia⟩
structure Cn where
 P:Program
 w:World
 K:W.Frag
 mg:Str->Option Value
 base:Heap
 a:bG
def Cn.Good (c:Cn):Prop:=∀ (fa:Addr) (fd:aa3),Txt c.K c.mg c.a->dY c.K "law" "law" gB fa fd->c7 c.P c.w c.K c.mg c.base cb 10 fa fd ["_law_script"] (qG c.K)
theorem Cn.some:Nonempty Cn:=⟨⟨PySem.Challenge.pw_frameback_k91_whole_the_reader_tells_the,⟨λ_ _=>0,{ strHash:=λ_=>0,shareClass:=λ_=>0,mergeTok:=id,idOf:=λ_=>0,idOfShared:=λ_ _=>0,followText:=λ_=>true,idOfImm:=λ_=>0 }⟩,[],λ_=>none,Classical.choice inferInstance,by constructor <;> exact(0:Nat)⟩⟩
noncomputable def cn:Cn:=@Classical.epsilon Cn Cn.some λc=>¬ c.Good
@[irreducible] noncomputable def P:Program:=cn.P
@[irreducible] noncomputable def w:World:=cn.w
@[irreducible] noncomputable def K:W.Frag:=cn.K
@[irreducible] noncomputable def mg:Str->Option Value:=cn.mg
@[irreducible] noncomputable def base:Heap:=cn.base
@[irreducible] noncomputable def a:bG:=cn.a
theorem NR (h:∀ (fa:Addr) (fd:aa3),Txt K mg a->dY K "law" "law" gB fa fd->c7 P w K mg base cb 10 fa fd ["_law_script"] (qG K))(c:Cn):c.Good:=by
 delta P w K mg base a at h
 exact Classical.byContradiction λhn=>(@Classical.epsilon_spec Cn (λc=>¬ c.Good) ⟨c,hn⟩) h
abbrev FE:=iE P w K mg base cb
abbrev ME:=mO P w K mg base cb
abbrev KE:=CW P w K mg base cb
abbrev TX:=Txt K mg a
local macro_rules | `(tactic| walk_at "lk") => `(tactic| with_reducible assumption)
local macro_rules | `(tactic| walk_at "nolk") => `(tactic| with_reducible assumption)
set_option hygiene false
local macro_rules | `(tactic| walk_at "in") => `(tactic| ((focus (intro vs H Q E h; (repeat (first | (refine exE8 h ?_; clear h; intro _ _ _ _ _ _ _ _ h) | (refine exE4 h ?_; clear h; intro _ _ _ _ h) | (refine exE2 h ?_; clear h; intro _ _ h) | (refine Exists.elim h ?_; clear h; intro _ h))); first | exact congrArg List.length h.1 | exact congrArg List.length h | ((repeat (obtain ⟨_, h⟩ := h)); subst_vars; rfl))); intro f S6 A outer s H vs Q E hr h))
set_option hygiene true
set_option hygiene false
local macro_rules | `(tactic| walk_at "t0") => `(tactic| first | (refine' aV ?_ ?_;walk_at "tS";walk_at "tB") | (refine' fv ?_;walk_at "tS"))
local macro_rules | `(tactic| walk_at "tB") => `(tactic| first | ((with_reducible refine' fv ?_);walk_at "tS") | ((with_reducible refine' aV ?_ ?_);walk_at "tS";walk_at "tB") | exact cL)
local macro_rules | `(tactic| walk_at "tS") => `(tactic| first
 | ((with_reducible refine' iD ?_);walk_at"tE")
 | ((with_reducible refine' Kc ?_ ?_ ?_);walk_at"tT";walk_at"tB";walk_at"tB")
 | ((with_reducible refine' c8 ?_ ?_ ?_ ?_ ?_ ?_);walk_at"tn";walk_at"ti";walk_at"tl";walk_at"tE";exact rfl;walk_at"tl")
 | ((with_reducible refine' wx ?_ ?_ ?_ ?_);walk_at"tk";walk_at"tE";walk_at"tE";exact rfl)
 | ((with_reducible refine' f7 ?_ ?_);walk_at"tE";exact rfl)
 | ((with_reducible refine' OG ?_ ?_ ?_ ?_ ?_);walk_at"tE";walk_at"tG";exact rfl;exact rfl;exact rfl)
 | ((with_reducible refine' Bl ?_ ?_ ?_ ?_ ?_ ?_);exact acy;exact rfl;walk_at"tI";walk_at"tG";walk_at"tB";exact λ_=>rfl)
 | ((with_reducible refine' jB ?_ ?_ ?_);exact acy;walk_at"tT";walk_at"tB")
 | (with_reducible exact Dd)
 )
local macro_rules | `(tactic| walk_at "tI") => `(tactic| first
 | ((with_reducible refine' Om (mg:=mg) ?_ ?_ ?_ ?_ ?_);exact rfl;walk_at"t3";exact rfl;walk_at"tA";exact rfl)
 | ((with_reducible refine' NU (mg:=mg) ?_ ?_ ?_ ?_ ?_ ?_);exact rfl;walk_at"t3";exact rfl;walk_at"tA";exact rfl;exact rfl)
 | ((with_reducible refine' dP ?_ ?_);walk_at"tk";walk_at"tE"))
local macro_rules | `(tactic| walk_at "tG") => `(tactic| first
 | ((with_reducible refine' bT ?_ ?_ ?_ ?_);walk_at"tn";walk_at"ti";walk_at"tl";walk_at"tl")
 | ((with_reducible refine' wb ?_ ?_ ?_ ?_ ?_);walk_at"tk";exact rfl;walk_at"tH";exact rfl;exact rfl)
 | ((with_reducible refine' MC ?_ ?_ ?_ ?_);walk_at"tE";walk_at"tE";exact set_list;exact λ_=>rfl))
local macro_rules | `(tactic| walk_at "tH") => `(tactic| first
 | (with_reducible exact wF)
 | ((with_reducible refine' j_ ?_ ?_ ?_);walk_at"tG";walk_at"tH";exact rfl))
local macro_rules | `(tactic| walk_at "tA") => `(tactic| first
 | ((with_reducible refine' aj ?_ ?_ ?_);walk_at"tE";walk_at"tA";exact rfl)
 | (with_reducible exact aD))
local macro_rules | `(tactic| walk_at "tT") => `(tactic| first
 | ((with_reducible refine' dO ?_ ?_ ?_ ?_);walk_at"tc";walk_at"tE";walk_at"tE";exact rfl)
 | ((with_reducible refine' NO ?_ ?_);walk_at"tT";walk_at"tW")
 | ((with_reducible refine' PM ?_ ?_);walk_at"tT";walk_at"tW")
 | ((with_reducible refine' Oy ?_);walk_at"tT")
 | ((with_reducible refine' CU ?_ ?_ ?_);walk_at"tk";walk_at"tE";exact λ_=>rfl))
local macro_rules | `(tactic| walk_at "tW") => `(tactic| first
 | ((with_reducible refine' mq ?_);walk_at"tT")
 | ((with_reducible refine' G3 ?_);walk_at"tT")
 | ((with_reducible refine' mG ?_ ?_);walk_at"tT";walk_at"tW")
 | ((with_reducible refine' D8 ?_ ?_);walk_at"tT";walk_at"tW"))
local macro_rules | `(tactic| walk_at "tP") => `(tactic| first
 | (with_reducible exact L_)
 | ((with_reducible refine' LY ?_);walk_at"tE"))
local macro_rules | `(tactic| walk_at "tE") => `(tactic| first
 | ((with_reducible refine' F1 ?_ ?_ ?_ ?_);walk_at"ti";walk_at"tl";exact Eq.refl false;exact Eq.refl false)
 | (with_reducible exact aW)
 | ((with_reducible refine' cT ?_ ?_ ?_);walk_at"tc";walk_at"tE";walk_at"tE")
 | ((with_reducible refine' cC ?_ ?_ ?_ ?_);walk_at"tc";walk_at"tE";walk_at"tE";exact λ_ _=>rfl)
 | ((with_reducible refine' Qo (P:=P) (w:=w) (K:=K) (mg:=mg) (base:=base) ?_ ?_ ?_ ?_ ?_ ?_ ?_ ?_);rotate_left 1;exact⟨rfl,rfl,rfl,rfl,rfl⟩;walk_at"t3";walk_at"th";exact rfl;walk_at"tA";exact Eq.refl false;exact rfl;exact rfl)
 | ((with_reducible refine' cD ?_ ?_ ?_);walk_at"tk";walk_at"tE";exact rfl)
 | (with_reducible exact gA)
 | ((with_reducible refine' oR ?_);walk_at"tA")
 | ((with_reducible refine' lW ?_);walk_at"tA")
 | ((with_reducible refine' Nx (mg:=mg) ?_ ?_ ?_ ?_ ?_ ?_ ?_ ?_ ?_ ?_);rotate_left 1;exact rfl;walk_at"t3";walk_at"t3";walk_at"tc";exact rfl;walk_at"tA";exact Eq.refl false;decide;exact rfl;exact rfl)
 | (with_reducible exact jT)
 | (with_reducible exact JU)
 | ((with_reducible refine' M3 (mg:=mg) ?_ ?_ ?_ ?_ ?_ ?_ ?_ ?_ ?_ ?_);rotate_left 1;exact rfl;walk_at"t3";walk_at"t3";walk_at"tc";exact rfl;walk_at"tA";exact Eq.refl false;decide;exact rfl;exact rfl)
 | ((with_reducible refine' NK (P:=P) (w:=w) (K:=K) (mg:=mg) (base:=base) ?_ ?_ ?_ ?_ ?_ ?_ ?_ ?_);rotate_left 1;exact⟨rfl,rfl,rfl,rfl,rfl⟩;walk_at"t3";walk_at"th";exact rfl;walk_at"tA";exact Eq.refl false;exact rfl;exact rfl)
 | ((with_reducible refine' L1 ?_ ?_ ?_ ?_ ?_ ?_ ?_ ?_);walk_at"tk";walk_at"tE";walk_at"tA";exact rfl;exact rfl;exact rfl;exact rfl;exact rfl)
 | ((with_reducible refine' M0 (P:=P) (w:=w) (K:=K) (mg:=mg) (base:=base) ?_ ?_ ?_ ?_ ?_ ?_ ?_ ?_);rotate_left 1;walk_at"t3";exact⟨rfl,rfl,rfl,rfl,rfl⟩;walk_at"tE";walk_at"th";walk_at"tA";exact rfl;exact rfl;exact rfl)
 | ((with_reducible refine' LS (P:=P) (w:=w) (K:=K) (mg:=mg) (base:=base) ?_ ?_ ?_ ?_ ?_);rotate_left 1;walk_at"t3";exact⟨rfl,rfl,rfl,rfl,rfl⟩;walk_at"tE";walk_at"th";exact rfl)
 | ((with_reducible refine' Jb ?_ ?_ ?_ ?_);walk_at"tc";walk_at"tE";walk_at"tP";walk_at"tP")
 | ((with_reducible refine' wD ?_ ?_ ?_ ?_);walk_at"tc";walk_at"tE";walk_at"tE";exact rfl)
 | ((with_reducible refine' Nd (mg:=mg) ?_ ?_ ?_ ?_);exact rfl;walk_at"t3";exact rfl;exact Eq.refl false)
 | ((with_reducible refine' O3 (mg:=mg) ?_ ?_ ?_ ?_);exact rfl;walk_at"t3";exact rfl;exact Eq.refl false)
 | ((with_reducible refine' J1 ?_ ?_);walk_at"tc";walk_at"tE")
 | ((with_reducible refine' tw ?_ ?_ ?_);walk_at"tT";walk_at"tE";walk_at"tE")
 | ((with_reducible refine' Gj ?_);walk_at"tE")
 | ((with_reducible refine' MW ?_ ?_);walk_at"tE";walk_at"tE")
 | ((with_reducible refine' Ku ?_ ?_);walk_at"tE";walk_at"tE")
 | (with_reducible exact zT))
local macro_rules | `(tactic| walk_at "tl") => `(tactic| first | exact .inl rfl | exact .inr rfl | exact .inr (.inl rfl) | exact .inr (.inr rfl))
local macro_rules | `(tactic| walk_at "tn") => `(tactic| exact nd)
local macro_rules | `(tactic| walk_at "tk") => `(tactic| exact (rfl : _ = K))
local macro_rules | `(tactic| walk_at "th") => `(tactic| exact hr.mono (by decide))
local macro_rules | `(tactic| walk_at "ti") => `(tactic| ((with_reducible first | refine SW nd ?_ | refine Sd nd ?_ | refine Sx nd ?_ | refine Sn nd ?_ | refine R7 nd ?_ | refine SR nd ?_ | refine Sw nd ?_ | refine S0 nd ?_ | refine Sm nd ?_ | refine SQ nd ?_ | refine Rk nd ?_ | refine Rq nd ?_ | refine RN nd ?_ | refine RX nd ?_ ); rfl))
local macro_rules | `(tactic| walk_at "tc") => `(tactic| ((with_reducible first | exact uD | exact Dl | exact l7 | exact DI | exact HN | exact JG | exact y3 | exact Qu | exact vK | exact Qy | exact OB | exact K6 | exact G4 | exact wG | exact ze | exact Gi | exact Pg | exact Fy | refine' dW ?_ | refine' FR ?_ ?_ | refine' mj ?_ ?_ | refine' OM ?_ | refine' FJ ?_ | refine' di ?_ | refine' R1 ?_ | refine' ez ?_ | refine' DP ?_ | refine' xU ?_) <;> first | exact (rfl : _ = K) | exact hr.units))
local macro_rules | `(tactic| walk_at "t3") => `(tactic| with_reducible first | exact T.ja | exact i_ | exact T.zZ | exact Bc | exact DL T | exact gZ T | exact T.GL | exact T.pX | exact oO | exact oJ T | exact i9 "height" 1 | exact T.Ct | exact T.fU | exact T.sV | exact Ey T | exact CC T | exact T.AF | exact i9 "word_ahead_of" 1 | exact T.Qt | exact Pz | exact Gy T | exact T.BG | exact Ff T | exact Gs T | exact Al T | exact yl T | exact T.FV | exact i9 "keeps" 3 | exact T.lL | exact sU T | exact Eh T | exact i9 "forget" 1 | exact i9 "go_on" 2 | exact Cu T | exact Aq T | exact BP T | exact T.BO | exact T.JA | exact ve T | exact T.xc | exact T.Ol | exact T.vV | exact oY T | exact wO T | exact oz T | exact jn T | exact mX T | exact i9 "goes" 1 | exact uw T | exact T.G9 | exact i9 "drop" 5 | exact i9 "do" 3 | exact i9 "runs" 2 | exact i9 "land" 3 | exact Nf T | exact KS T | exact Ox T | exact N7 T | exact MV T | exact Hc T | exact L8 T | exact Fk T | exact LC T | exact LG T | exact KU T | exact LF T | exact ux T | exact yF T | exact i9 "book" 1 | exact sM T | exact uV T | exact B0 T | exact t7 T | exact t_ T | exact vY T | exact i9 "at" 1 | exact i9 "boxes" 1 | exact i9 "step" 6 | exact i9 "word" 1 | exact i9 "pile" 1)
local macro_rules | `(tactic| walk_at "s") => `(tactic| (refine Qp rfl (by dsimp only [L3.pE]) ?_))
local macro_rules | `(tactic| walk_at "h") => `(tactic| (refine' ⟨_, ?_, ?_⟩; rotate_left))
local macro_rules | `(tactic| walk_at "v") => `(tactic| (walk_at "t0"; walk_at "s"))
local macro_rules | `(tactic| walk_at "n") => `(tactic| (with_reducible refine' aV ?_ ?_))
local macro_rules | `(tactic| walk_at "m") => `(tactic| (with_reducible refine' fv ?_))
local macro_rules | `(tactic| walk_at "c") => `(tactic| (walk_at "n"; walk_at "tS"))
local macro_rules | `(tactic| walk_at "x") => `(tactic| (with_reducible refine' PS.eY ?_))
local macro_rules | `(tactic| walk_at "y") => `(tactic| (with_reducible refine' PT.eY ?_))
local macro_rules | `(tactic| walk_at "f") => `(tactic| (with_reducible refine' Kc ?_ ?_ ?_))
local macro_rules | `(tactic| walk_at "g") => `(tactic| ((with_reducible refine' Bl ?_ ?_ ?_ ?_ ?_ ?_); exact acy; exact rfl))
set_option hygiene true
local macro_rules | `(tactic| walk_at "rk") => `(tactic| repeat (first | (with_reducible first | refine KY ?_ | refine NV ?_ | refine Mv ?_ | refine P0 ?_ | (refine' IJ ?x ?_; (case x => with_unfolding_all rfl)) | (refine' HH ?x ?_; (case x => with_unfolding_all rfl)) | refine MG ?_ | refine Nt ?_ | refine Nz ?_ | refine Mc ?_ | refine Q_ ?_ | refine Rc ?_ | refine PF ?_ | refine Py ?_ | refine Nq ?_ | refine Ms ?_ | refine ⟨_, rfl, ?_⟩) | (first | ((fail_if_success (fail_if_success (with_reducible refine K0 ?_))); (with_reducible refine λ_ _ => ?_)) | ((with_reducible refine' RK ?x ?y ?_); (case x => walk_at "tt"); (case y => walk_at "tt")) | ((with_reducible refine' PU ?x ?_); (case x => walk_at "sql")) | ((with_reducible refine' QB ?x ?_); (case x => walk_at "sqt")) | ((with_reducible refine' QC ?x ?_); (case x => walk_at "sql")) | ((with_reducible refine' J9 ?x ?_); (case x => walk_at "sql")) | ((with_reducible refine' IA ?x ?y ?z ?_); (case x => walk_at "hlk"); (case y => walk_at "tt"); (case z => walk_at "tt")) | ((with_reducible refine' IL ?x ?y ?z ?_); (case x => walk_at "hlk"); (case y => walk_at "hlk"); (case z => walk_at "small")) | ((with_reducible refine' Qg ?x ?_); (case x => walk_at "hlk")) | ((with_reducible refine' Jq ?h ?_); (case h => walk_at "cmul")) | ((with_reducible refine' sW ?x ?y ?_); (case x => walk_at "hlk"); (case y => walk_at "small")) | ((with_reducible refine' eX ?c ?t ?e ?_); (case c => exact λz => nomatch z); (case t => walk_at "ty"); (case e => walk_at "kit"))) | (first | ((with_reducible refine' FG ?h ?_); (case h => first | exact ⟨by decide, by decide⟩ | (show (0 : Int) < _; first | decide | omega) | (show (0 : Int) <= _; first | decide | omega))) | ((with_reducible refine' Kt ?x ?_); (case x => intro hh; exact absurd hh (by decide)); intro _) | ((with_reducible refine' Kt ?_ ?x); (case x => intro hh; exact absurd hh (by decide)); intro _) | ((with_reducible refine' eW ?x ?_); (case x => intro hh; exact absurd hh (by walk_at "nn")); intro _) | ((with_reducible refine' eW ?_ ?x); (case x => intro hh; exact absurd (by walk_at "tt") hh); intro _) | ((with_reducible refine' gP ?x ?_); (case x => intro hh; exact absurd (by walk_at "tt") hh); intro _) | ((with_reducible refine' gP ?_ ?x); (case x => intro hh; exact absurd hh (by walk_at "nn")); intro _) | ((with_reducible refine' cR ?x ?_); (case x => intro hh; exact absurd hh (by walk_at "nn")); intro _) | ((with_reducible refine' cR ?_ ?x); (case x => intro hh; exact absurd (by walk_at "tt") hh); intro _) | ((with_reducible refine' vz ?x ?_); (case x => intro hh; exact absurd (by walk_at "tt") hh); intro _) | ((with_reducible refine' vz ?_ ?x); (case x => intro hh; exact absurd hh (by walk_at "nn")); intro _)) | (first | ((with_reducible refine' Fi ?a ?b ?_); (case a => omega); (case b => omega)) | ((with_reducible refine' GO ?h ?a ?b ?_); (case h => walk_at "sql"); (case a => omega); (case b => omega)) | ((with_reducible refine' JD ?h ?a ?_); (case h => walk_at "sql"); (case a => omega)) | (with_reducible refine yb ?_) | (with_reducible refine Jz ?_) | ((with_reducible refine' LP ?a ?b ?_); (case a => omega); (case b => omega)) | ((with_reducible refine' IM ?a ?b ?c ?_); (case a => omega); (case b => omega); (case c => omega)) | ((with_reducible refine' Oa ?x ?y ?z ?_); (case x => walk_at "hlk"); (case y => walk_at "tt"); (case z => walk_at "tt")) | ((with_reducible refine' vo ?h ?e ?_); (case h => walk_at "sqt"); (case e => walk_at "at")) | ((with_reducible refine' b9 ?h ?e ?_); (case h => walk_at "sql"); (case e => walk_at "at")) | (with_reducible refine Mt ?_)) | (first | (with_reducible refine LV ?_) | (with_reducible refine Nl ?_) | (with_reducible refine OT ?_) | ((with_reducible refine' NW ?x ?_); (case x => walk_at "sql")) | (with_reducible refine we ?_) | (with_reducible refine LM ?_) | ((with_reducible refine' HW ?x ?y ?_); (case x => walk_at "sql"); (case y => first | assumption | apply_assumption)) | (with_reducible refine AK ?_) | ((with_reducible refine' zR ?x ?_); (case x => walk_at "hlk")) | ((with_reducible refine' qu ?x ?y ?z ?_); (case x => walk_at "hlk"); (case y => walk_at "hlk"); (case z => walk_at "small"))) | (first | (with_reducible refine we ?_) | (with_reducible refine Iw ?_) | (with_reducible refine Pm ?_) | (with_reducible refine pQ ?_) | (with_reducible refine Rz ?_) | (with_reducible refine M8 ?_) | (with_reducible refine KR ?_) | (with_reducible refine AK ?_) | (with_reducible refine F_ ?_) | (with_reducible refine Ag ?_) | (with_reducible refine Kv ?_) | (with_reducible refine Kl ?_) | (with_reducible refine vW ?_) | (with_reducible refine Ak ?_) | ((with_reducible refine' FK ?x ?y ?_); (case x => walk_at "sqt"); (case y => with_unfolding_all rfl)) | ((with_reducible refine' zR ?x ?_); (case x => walk_at "hlk")) | ((with_reducible refine' ji ?x ?y ?_); (case x => walk_at "hlk"); (case y => walk_at "small")) | ((with_reducible refine' qu ?x ?y ?z ?_); (case x => walk_at "hlk"); (case y => walk_at "hlk"); (case z => walk_at "small"))) | (first | (with_reducible refine Nv ?_) | (with_reducible refine we ?_) | (with_reducible refine Qr ?_) | (with_reducible refine M7 ?_) | (with_reducible refine AK ?_) | (with_reducible refine F_ ?_) | (with_reducible refine Ag ?_) | (with_reducible refine Kv ?_) | (with_reducible refine Kl ?_) | (with_reducible refine vW ?_) | (with_reducible refine Ak ?_) | ((with_reducible refine' FK ?x ?y ?_); (case x => walk_at "sqt"); (case y => with_unfolding_all rfl)) | ((with_reducible refine' zR ?x ?_); (case x => walk_at "hlk")) | ((with_reducible refine' ji ?x ?y ?_); (case x => walk_at "hlk"); (case y => walk_at "small")) | ((with_reducible refine' qu ?x ?y ?z ?_); (case x => walk_at "hlk"); (case y => walk_at "hlk"); (case z => walk_at "small"))) | ((with_reducible refine' KA ?h ?_); (case h => rfl)) | ((with_reducible refine' JR ?h ?_); (case h => rfl)) | ((with_reducible refine' Fu ?h ?c ?n ?l ?_); (case h => walk_at "hlk"); (case c => walk_at "cls"); (case n => walk_at "noat"); (case l => walk_at "lk"))))
section
variable {l:Addr}
theorem iq {A:Hp}{b:Addr}{x:HO}(h:(upd A l x) b=none):A b=none/\b≠l:=by
 by_cases e:b=l
 . rw[e,aa] at h;cases h
 . rw[ak e] at h;exact⟨h,e⟩
def dB (rs:List Rw)(ls:List (Int×Int))(i:Nat):List Int:=match rs[i]? with
 | some r=>r.dz i++(if r.isCall=true/\(i:Int)∈ls.map (·.1) then [lv ls i] else [])
 | none=>[]
inductive RH (rs:List Rw) (ls:List (Int×Int)):Int->Int->Prop
 | start:RH rs ls 0 0
 | way {i:Nat} {h h' w:Int} {r:Rw}:RH rs ls (i:Int) h->rs[i]? = some r->r.aE h=some h'->w∈dB rs ls i->RH rs ls w h'
 | call {i:Nat} {h t:Int}:RH rs ls (i:Int) h->rs[i]? = some (.call t)->RH rs ls t 0
def yY (rs:List Rw)(ls:List (Int×Int)):Prop:=∃ (i h:Int),RH rs ls i h/\(i<0∨(rs.length:Int)<=i∨(∃ r,rs[i.toNat]? = some r/\r.aE h=none)∨∃ h2,RH rs ls i h2/\h2≠h)
structure Ej (rs:List Rw)(ls:List (Int×Int))(hs:List (Option Int)):Prop where
 len:hs.length=rs.length
 rh:∀ (i:Nat) (h:Int),hs[i]? = some (some h)->RH rs ls (i:Int) h
 start:hs[0]? = some (some 0)
 cl:∀ (i:Nat) (h:Int) (r:Rw),hs[i]? = some (some h)->rs[i]? = some r->∃ h',r.aE h=some h'/\∀ w∈dB rs ls i,0<=w/\hs[w.toNat]? = some (some h')
 tg:∀ (i:Nat) (h t:Int),hs[i]? = some (some h)->rs[i]? = some (.call t)->0<=t/\hs[t.toNat]? = some (some 0)
def nV (k:Nat):V:=.int (k:Int)
def qL (H:Hp)(ly:Addr)(rs:List Rw)(ls:List (Int×Int)):Prop:=∃ T8:List Addr,H ly=some (.lst (T8.map V.ref))/\T8.length=rs.length/\∀ (i:Nat) (p:Addr),T8[i]? = some p->H p=some (.lst ((dB rs ls i).map V.int))
variable {ls:List (Int×Int)}
theorem qL.same {ly:Addr}(h:qL H ly rs ls)(s:ao H H'):qL H' ly rs ls:=let ⟨T8,h1,h2,h3⟩:=h;⟨T8,s _ _ h1,h2,λi p e=>s _ _ (h3 i p e)⟩
def Ih (K:W.Frag)(a:bG):Sp:=λvs H Q _=>∃ (c d:Addr) (i:Nat) (prs:List Addr) (rs:List Rw) (ls:List (Int×Int)),vs=[.ref c,.ref d,.int (i:Int)]/\H c=some (.lst (prs.map V.ref))/\bL a H prs rs/\(∀ r∈rs,r.ok/\r.here)/\H d=some (.dK (aw ls))/\(ls.map (·.1)).Nodup/\i<rs.length /\
 ∀ p H',ao H H'->H p=none->H' p=some (.lst ((dB rs ls i).map V.int))->Q (.ref p) H'
def CO (a:bG):Sp:=λvs H Q E=>∃ (lh lw:Addr) (n UO:Int) (hs:List (Option Int)) (ws:List Nat),vs=[.ref lh,.ref lw,.int n,.int UO]/\H lh=some (.lst (hs.map bM))/\H lw=some (.lst (ws.map nV))/\hs.length<=2000/\ws.length<=2000/\-10000<=n/\n<=10000/\lh≠lw /\
 ((n<0∨(hs.length:Int)<=n∨∃ h2,hs[n.toNat]? = some (some h2)/\h2≠UO)->E (.ref a.fe) none H)/\(0<=n->hs[n.toNat]? = some (some UO)->Q .aC H) /\
 (0<=n->hs[n.toNat]? = some none->Q .aC (upd (upd H lh (.lst ((hs.set n.toNat (some UO)).map bM))) lw (.lst ((ws++[n.toNat]).map nV))))
def bO (ks:List Nat):List (Key×V):=ks.map λk:Nat=>((Sum.inl (k:Int):Key),V.bl true)
def cA:Option Nat->V
 | none=>.aC
 | some s=>.int (s:Int)
def kj (ks:List Nat)(k:Nat):List Nat:=if k∈ks then ks else ks++[k]
def jb (o:Option Nat)(p:Nat):Nat:=match o with
 | none=>p
 | some s=>s &&& p
def zE:Sp:=λvs H Q _=>∃ (lsx dc:Addr) (n p:Nat) (ss:List (Option Nat)) (ks:List Nat) (o:Option Nat),vs=[.ref lsx,.ref dc,.int (n:Int),.int (p:Int)]/\H lsx=some (.lst (ss.map cA))/\H dc=some (.dK (bO ks))/\ss.length<=2000/\ks.length<=2000/\ks.Nodup/\ss[n]? = some o /\
 (o=some (jb o p)->Q .aC H)/\(o≠some (jb o p)->Q .aC (upd (upd H lsx (.lst ((ss.set n (some (jb o p))).map cA))) dc (.dK (bO (kj ks n)))))
theorem EL {n k:Nat}(h:k<n):og n (k:Int)=some k:=by
 unfold og;rw[if_pos (by lia),if_pos (by lia)];rfl
theorem IZ {ks:List Nat}(n:Nat):putK (bO ks) (.inl (n:Int)) (.bl true)=bO (kj ks n):=by
 unfold putK kj;have e:((bO ks).any λkv=>decide (kv.1=(Sum.inl (n:Int):Key)))=decide (n∈ks):=by
   unfold bO;rw[List.any_map]
   induction ks with
   | nil=>rfl
   | cons k r ih =>
     rw[abA,ih];by_cases h:k=n
     . subst h;simp
     . have h2 : ¬ n = k := λz => h z.symm;have h3 : ¬ ((Sum.inl (k:Int):Key)=Sum.inl (n:Int)):=λz=>h (by have:=ac0 z;lia);simp only[Function.comp_apply,aaP,h2,false_or];rw[decide_eq_false h3,ac5]
 rw[e];by_cases h:n∈ks
 . rw[if_pos (decide_eq_true h),if_pos h];unfold bO;rw[abd];refine congrArg (λf=>ks.map f) (funext λk=>?_);show(if _ then _ else _)=_;split <;> rfl
 . rw[if_neg (by rw[decide_eq_false h]; exact aap), if_neg h];unfold bO;rw[aaE];rfl
theorem L6 {ks:List Nat}(h:ks.Nodup)(n:Nat):(kj ks n).Nodup:=by
 unfold kj;split
 . exact h
 . rename_i hn;exact List.nodup_append.mpr ⟨h,(by simp),λa ha b hb=>by rw[List.mem_singleton.mp hb];exact λz=>hn (z ▸ ha)⟩
theorem Fm (ks:List Nat):(bO ks).map (·.1)=(ks.map λk:Nat=>(k:Int)).map Sum.inl:=by
 unfold bO;rw[abd,abd];rfl
variable {α : Type}
theorem qy (f : α->V)(xs:List α)(n:Nat)(x : α):(xs.map f).set n (f x)=(xs.set n x).map f:=by rw[List.map_set]
theorem m_ (h1 : -10000<=n)(h2:n<=10000):n.natAbs.log2<1900:=by
 by_cases h:n.natAbs=0
 . rw[h];decide
 . exact(Nat.log2_lt h).mpr (aaz (show n.natAbs<2 ^ 14 by omega) (acG (by decide) (by decide)))
def dN (ls:List (Int×Int)):Prop:=(ls.map (·.1)).Nodup/\ls.length<64/\∀ p∈ls,-10000<=p.2/\p.2<=10000
theorem Nm {k:Int}(h:k∈ls.map (·.1)):∃ p∈ls,lv ls k=p.2:=by
 unfold lv;obtain⟨p,hp,e⟩:=List.mem_map.mp h;cases hf:ls.find? λp=>decide (p.1=k) with
 | none =>
   have:=List.find?_eq_none.mp hf p hp
   rw[decide_eq_true e] at this;exact absurd rfl this
 | some q=>exact⟨q,List.mem_of_find?_eq_some hf,rfl⟩
theorem D6 (aA:∀ r∈rs,r.ok/\r.here)(hl:dN ls)(hn:rs.length<=2000){i:Nat}:∀ w∈dB rs ls i,-10000<=w/\w<=10000:=by
 intro w hw;unfold dB at hw;cases h:rs[i]? with
 | none=>rw[h] at hw;cases hw
 | some r =>
   rw[h] at hw;have hi:=(List.getElem?_eq_some_iff.mp h).1;have ho:=(aA r (aak h)).1;rcases List.mem_append.mp hw with hw | hw
   . cases r <;> simp only[Rw.dz,aaP,aaR,or_false] at hw <;> simp only[Rw.ok,aH,isVal,aF,aM] at ho <;> lia
   . split at hw
     . rename_i hc;rw[List.mem_singleton.mp hw];obtain⟨p,hp,e⟩:=Nm hc.2;rw[e];exact hl.2.2 p hp
     . cases hw
def nN (hs:List (Option Int)):Nat:=(hs.filter λo=>o.isNone).length
theorem zl:∀ {hs:List (Option Int)} {n:Nat} {x:Int},hs[n]? = some none->nN (hs.set n (some x))+1=nN hs
 | [],n,x,h=>by simp at h
 | o :: r, 0, x, h => by
   have e:o=none:=by simpa using h
   subst e;rfl
 | o :: r, n + 1, x, h => by
   have ih:=@zl r n x (by simpa using h);unfold nN at ih ⊢;rw[List.set_cons_succ,List.filter_cons,List.filter_cons];split
   . rw[aaG,aaG];lia
   . exact ih
theorem My (n:Nat):nN (aau n none)=n:=by
 unfold nN;rw[List.filter_eq_self.mpr (λa ha=>by rw[List.eq_of_mem_replicate ha];rfl),aaC]
def Ob (rs:List Rw)(ls:List (Int×Int))(hs:List (Option Int))(i:Nat):Prop:=∀ (h:Int) (r:Rw),hs[i]? = some (some h)->rs[i]? = some r ->
 (∃ h',r.aE h=some h'/\∀ w∈dB rs ls i,0<=w/\hs[w.toNat]? = some (some h'))/\∀ t,r=.call t->0<=t/\hs[t.toNat]? = some (some 0)
structure HI (rs:List Rw)(ls:List (Int×Int))(hs:List (Option Int))(ws:List Nat)(ex:Option Nat):Prop where
 len:hs.length=rs.length
 rh:∀ (i:Nat) (h:Int),hs[i]? = some (some h)->RH rs ls (i:Int) h
 Kh:∀ k∈ws,∃ h,hs[k]? = some (some h)
 cl:∀ i,i ∉ ws->some i≠ex->Ob rs ls hs i
 KD:ws.length+nN hs<=hs.length
variable {h:Int} {hs:List (Option Int)}
theorem gK {n i:Nat}{x:Int}(e:hs[n]? = some none)(hi:hs[i]? = some (some h)):(hs.set n (some x))[i]? = some (some h):=by
 have ne:n≠i:=λz=>by rw[z,hi] at e;cases e
 rw[aaO ne];exact hi
theorem HI.new {ws:List Nat}{ex:Option Nat}{n:Nat}{x:Int}(I:HI rs ls hs ws ex)(e:hs[n]? = some none)(r:RH rs ls (n:Int) x):HI rs ls (hs.set n (some x)) (ws++[n]) ex:=by
 have hn:=(List.getElem?_eq_some_iff.mp e).1;refine⟨by rw[aaZ];exact I.len,λi h hi=>?_,λk hk=>?_,λi hi hx h r' hh hr'=>?_,?_⟩
 . by_cases z:n=i
   . subst z;rw[aaN hn] at hi;cases hi;exact r
   . rw[aaO z] at hi;exact I.rh i h hi
 . rcases List.mem_append.mp hk with hk | hk
   . obtain⟨h, hh⟩ := I.Kh k hk;exact⟨h,gK e hh⟩
   . rw[List.mem_singleton.mp hk];exact⟨x,aaN hn⟩
 . have z : n ≠ i := λz => hi (aay _ (List.mem_singleton.mpr z.symm));rw[aaO z] at hh;obtain⟨⟨h',a1,a2⟩,a3⟩:=I.cl i (λhm=>hi (aa5 _ hm)) hx h r' hh hr';exact⟨⟨h',a1,λw hw=>⟨(a2 w hw).1,gK e (a2 w hw).2⟩⟩,λt ht=>⟨(a3 t ht).1,gK e (a3 t ht).2⟩⟩
 . have h1 := zl (x := x) e;have h2:=I.KD;rw[aab,aaZ];show _+1+_<=_;lia
def PY (K:W.Frag)(a:bG):Sp:=λvs H Q E=>∃ (c ly:Addr) (prs:List Addr) (rs:List Rw) (ls:List (Int×Int)),vs=[.ref c,.ref ly]/\H c=some (.lst (prs.map V.ref))/\bL a H prs rs/\(∀ r∈rs,r.ok/\r.here)/\0<rs.length/\rs.length<=2000/\dN ls/\qL H ly rs ls /\
 (yY rs ls->∀ H',ao H H'->E (.ref a.fe) none H')/\∀ l hs H',ao H H'->H l=none->H' l=some (.lst (hs.map bM))->Ej rs ls hs->Q (.ref l) H'
theorem HI.reach {ws:List Nat}{ex:Option Nat}{x:Int}(I:HI rs ls hs ws ex)(r:RH rs ls n x):(n<0∨(hs.length:Int)<=n∨∃ h2,hs[n.toNat]? = some (some h2)/\h2≠x)->yY rs ls:=by
 intro hb;by_cases h0:n<0
 . exact⟨n,x,r,.inl h0⟩
 . rcases hb with hb | hb | ⟨h2,e2,n2⟩
   . exact absurd hb h0
   . exact⟨n,x,r,.inr (.inl (by rw[<- I.len];exact hb))⟩
   . have e3 := I.rh _ _ e2;rw[show((n.toNat:Nat):Int)=n by lia] at e3;exact⟨n,x,r,.inr (.inr (.inr ⟨h2,e3,n2⟩))⟩
theorem HI.close {ws:List Nat}{k:Nat}(I:HI rs ls hs ws (some k))(c:Ob rs ls hs k):HI rs ls hs ws none:=⟨I.len,I.rh,I.Kh,λi hi _=>by
 by_cases z:i=k
 . rw[z];exact c
 . exact I.cl i hi (λe=>z (aax e)),I.KD⟩
theorem vJ:∀ (n:Nat) (ks:List Nat),ks.Nodup->(∀ k∈ks,k<n)->ks.length<=n
 | 0, ks, _, h => by
   cases ks with
   | nil=>exact aag _
   | cons k r=>exact absurd (h k (acd ..)) (acg k)
 | n + 1, ks, UI, h => by
   by_cases hm:n∈ks
   . have := vJ n (ks.erase n) (UI.erase n) λk hk => by
       have h1:=UI.mem_erase_iff.mp hk
       have:=h k h1.2
       have:=h1.1
       lia
     rw[List.length_erase_of_mem hm] at this;lia
   . have := vJ n ks UI λk hk => by
       have h1:=h k hk;have h2:k≠n:=λz=>hm (z ▸ hk)
       lia
     lia
def Sub (x y:Nat):Prop:=x &&& y=x
variable {x y:Nat}
theorem Sub.iff:Sub x y ↔ ∀ i,x.testBit i=true->y.testBit i=true:=by
 unfold Sub
 constructor
 . intro h i hi
   have:=congrArg (λz=>z.testBit i) h
   simp only[aaS,hi,Bool.true_and] at this;exact this
 . intro h;apply abp;intro i;rw[aaS];cases hx:x.testBit i with
   | false=>rfl
   | true=>rw[h i hx];rfl
theorem Sub.refl (x:Nat):Sub x x:=Nat.and_self x
theorem Sub.trans {z:Nat}(h:Sub x y)(k:Sub y z):Sub x z:=Sub.iff.mpr λi hi=>Sub.iff.mp k i (Sub.iff.mp h i hi)
theorem Sub.left (x y:Nat):Sub (x &&& y) x:=Sub.iff.mpr λi hi=>by rw[aaS,aaM] at hi;exact hi.1
theorem Sub.right (x y:Nat):Sub (x &&& y) y:=Sub.iff.mpr λi hi=>by rw[aaS,aaM] at hi;exact hi.2
theorem Sub.both {g:Nat}(h:Sub g x)(k:Sub g y):Sub g (x &&& y):=Sub.iff.mpr λi hi=>by rw[aaS,Sub.iff.mp h i hi,Sub.iff.mp k i hi];rfl
theorem FH {p:Nat}(h:Sub x y):Sub (Bt.wo x p) (Bt.wo y p):=Sub.iff.mpr λi hi=>by
 rw[Bt.jF,aaM] at hi ⊢;exact⟨Sub.iff.mp h i hi.1,hi.2⟩
theorem Gn {p q:Nat}(h:Sub x y):Sub (fz x p q) (fz y p q):=by
 unfold fz;by_cases hx:x &&& q=0
 . rw[if_pos hx];by_cases hy:y &&& q=0
   . rw[if_pos hy];exact FH h
   . rw[if_neg hy];refine Sub.iff.mpr λi hi=>?_;rw[Bt.jF,aaM] at hi;rw[adD,Sub.iff.mp h i hi.1];rfl
 . have hy : ¬ y &&& q = 0 := λz => hx (by
     apply abp;intro i
     have:=congrArg (λz=>z.testBit i) z
     simp only[aaS,acD] at this ⊢;cases hxi:x.testBit i with
     | false=>rfl
     | true=>rw[Sub.iff.mp h i hxi] at this;exact this)
   rw[if_neg hx,if_neg hy];refine Sub.iff.mpr λi hi=>?_;rw[adD,Bool.or_eq_true] at hi ⊢;rcases hi with hi | hi
   . exact .inl (Sub.iff.mp h i hi)
   . exact .inr hi
theorem Jo (r:Rw)(h:Int)(k:Sub x y):Sub (r.keep x h) (r.keep y h):=by
 cases r
 all_goals first | exact k | exact FH k | exact Gn k
theorem Kw (x p:Nat):Bt.wo x p<=x:=by
 have:Sub (Bt.wo x p) x:=Sub.iff.mpr λi hi=>by rw[Bt.jF,aaM] at hi;exact hi.1
 rw[<- this];exact adf
theorem tH {p q n:Nat}(h:x<2 ^ n)(k:p<2 ^ n):fz x p q<2 ^ n:=by
 unfold fz;split
 . exact abk (Kw _ _) h
 . exact Nat.or_lt_two_pow h k
theorem L5 (ho:r.ok)(h0 : 0<=h)(h1:h<=4000)(hx:x<2 ^ 4100):r.keep x h<2 ^ 4100:=by
 have zF:∀ m:Nat,m<4100->2 ^ m<2 ^ 4100:=λm hm=>adB (by decide) hm;cases r
 case copy=>exact tH hx (zF _ (by simp only[Rw.ok,aH] at ho;omega))
 case put=>exact tH hx (zF _ (by simp only[Rw.ok,aH,aF] at ho;omega))
 case get=>exact tH hx (zF _ (by simp only[Rw.ok,aH,aF] at ho;omega))
 all_goals first | exact hx | exact abk (Kw _ _) hx
theorem FC {h':Int}(ho:r.ok)(hb : 0<=h/\h<=4000)(hh:r.aE h=some h') : 0<=h'/\h'<=4000:=by
 cases r
 case grow m =>
   simp only[Rw.aE] at hh;simp only[Rw.ok,aF] at ho;split at hh
   . cases hh
   . have:=aax hh;lia
 case shrink m =>
   simp only[Rw.aE] at hh;simp only[Rw.ok,aF] at ho;split at hh
   . cases hh
   . have:=aax hh;lia
 case put b c =>
   simp only[Rw.aE] at hh;split at hh
   . cases hh
   . have:=aax hh;lia
 case get b c =>
   simp only[Rw.aE] at hh;split at hh
   . cases hh
   . have:=aax hh;lia
 all_goals (have:=aax (show some h=some h' from hh);lia)
theorem QF (aA:∀ r∈rs,r.ok/\r.here)(r:RH rs ls i h) : 0<=h/\h<=4000:=by
 induction r with
 | start=>exact⟨by decide,by decide⟩
 | way _ hr hh _ ih=>exact FC (aA _ (aak hr)).1 ih hh
 | call=>exact⟨by decide,by decide⟩
def Cons (rs:List Rw)(ls:List (Int×Int))(hs:List (Option Int))(first:Nat)(g:Nat->Nat):Prop:=Sub (g 0) first/\∀ (i:Nat) (h:Int) (r:Rw),hs[i]? = some (some h)->rs[i]? = some r->(∀ w∈dB rs ls i,Sub (g w.toNat) (r.keep (g i) h))/\∀ t,r=.call t->Sub (g t.toNat) first
def NF (rs:List Rw)(ls:List (Int×Int))(hs:List (Option Int))(first:Nat)(ss:List (Option Nat))(i:Nat):Prop:=∀ (s:Nat) (h:Int) (r:Rw),ss[i]? = some (some s)->hs[i]? = some (some h)->rs[i]? = some r ->
 (∀ w∈dB rs ls i,∃ s',ss[w.toNat]? = some (some s')/\Sub s' (r.keep s h))/\∀ t,r=.call t->∃ s',ss[t.toNat]? = some (some s')/\Sub s' first
structure PI (rs:List Rw)(ls:List (Int×Int))(hs:List (Option Int))(first:Nat)(ss:List (Option Nat))(Ue:Nat->Prop):Prop where
 len:ss.length=rs.length
 rd:∀ (i s:Nat),ss[i]? = some (some s)->∃ h,hs[i]? = some (some h)
 bd:∀ (i s:Nat),ss[i]? = some (some s)->s<2 ^ 4100
 cl:∀ i,¬ Ue i->NF rs ls hs first ss i
 up:∀ g,Cons rs ls hs first g->∀ (i s:Nat),ss[i]? = some (some s)->Sub (g i) s
def fB (ss ss':List (Option Nat)):Prop:=∀ (i s:Nat),ss[i]? = some (some s)->∃ s',ss'[i]? = some (some s')/\Sub s' s
theorem fB.refl (ss:List (Option Nat)):fB ss ss:=λi s h=>⟨s,h,Sub.refl s⟩
theorem fB.trans {a b c:List (Option Nat)}(h:fB a b)(k:fB b c):fB a c:=λi s e=>by
 obtain⟨s1,e1,q1⟩:=h i s e;obtain⟨s2,e2,q2⟩:=k i s1 e1;exact⟨s2,e2,q2.trans q1⟩
def bZ:List (Option Nat)->Nat
 | []=>0
 | none::r=>2 ^ 4200+bZ r
 | some s::r=>s+bZ r
theorem tN:∀ {ss:List (Option Nat)} {n:Nat} {o:Option Nat} {x:Nat},ss[n]? = some o->(∀ s,o=some s->x<s)->x<2 ^ 4200->bZ (ss.set n (some x))<bZ ss
 | [],n,o,x,h,_,_=>by simp at h
 | none::r,0,o,x,h,_,hx=>by show x+bZ r<2 ^ 4200+bZ r;lia
 | some s :: r, 0, o, x, h, k, _ => by
   have:=k s (by simpa using h.symm)
   show x+bZ r<s+bZ r;lia
 | none :: r, n + 1, o, x, h, k, hx => by
   have:=tN (ss:=r) (n:=n) (o:=o) (x:=x) (by simpa using h) k hx
   show 2 ^ 4200+bZ (r.set n (some x))<2 ^ 4200+bZ r;lia
 | some s :: r, n + 1, o, x, h, k, hx => by
   have:=tN (ss:=r) (n:=n) (o:=o) (x:=x) (by simpa using h) k hx
   show s+bZ (r.set n (some x))<s+bZ r;lia
section
variable {rs:List Rw} {ls:List (Int×Int)} {hs:List (Option Int)} {first:Nat} {ss:List (Option Nat)} {Ue:Nat->Prop} {n p:Nat} {o:Option Nat}
theorem zY (ho:ss[n]? = some o):fB ss (ss.set n (some (jb o p))):=λi s e=>by
 have hn:=(List.getElem?_eq_some_iff.mp ho).1;by_cases z:n=i
 . subst z;rw[ho] at e;cases e
   exact⟨_,aaN hn,Sub.left s p⟩
 . exact⟨s,by rw[aaO z];exact e,Sub.refl s⟩
theorem C8 (ho:ss[n]? = some o)(T9:o≠some (jb o p))(hb:p<2 ^ 4100):bZ (ss.set n (some (jb o p)))<bZ ss:=by
 have zF:(2:Nat) ^ 4100<2 ^ 4200:=adB (by decide) (by decide);refine tN ho (λs e=>?_) ?_
 . subst e;have h1:s &&& p<=s:=acM;have h2:s &&& p≠s:=λz=>T9 (by show some s=some (s &&& p);rw[z]);show s &&& p<s;lia
 . cases o with
   | none=>show p<_;lia
   | some s=>exact abk (show s &&& p<=p from adf) (by lia)
theorem PI.narrow (I:PI rs ls hs first ss Ue)(ho:ss[n]? = some o)(hh:∃ h,hs[n]? = some (some h))(hb:p<2 ^ 4100)(hg:∀ g,Cons rs ls hs first g->Sub (g n) p):PI rs ls hs first (ss.set n (some (jb o p))) (λi=>Ue i∨i=n):=by
 have hn:=(List.getElem?_eq_some_iff.mp ho).1;have hl:=zY (p:=p) ho;have hleft:Sub (jb o p) p:=by cases o with | none=>exact Sub.refl p | some s=>exact Sub.right s p
 refine⟨by rw[aaZ];exact I.len,λi s e=>?_,λi s e=>?_,λi hi s h r e1 e2 e3=>?_,λg cg i s e=>?_⟩
 . by_cases z:n=i
   . subst z;exact hh
   . rw[aaO z] at e;exact I.rd i s e
 . by_cases z:n=i
   . subst z;rw[aaN hn] at e;cases e
     cases o with
     | none=>exact hb
     | some s=>exact abk (show s &&& p<=p from adf) hb
   . rw[aaO z] at e;exact I.bd i s e
 . have z : n ≠ i := λz => hi (.inr z.symm);rw [aaO z] at e1;obtain ⟨a1,a2⟩:=I.cl i (λk=>hi (.inl k)) s h r e1 e2 e3;refine ⟨λw hw=>?_,λt ht=>?_⟩
   . obtain⟨s', b1, b2⟩ := a1 w hw;obtain⟨s2,c1,c2⟩:=hl _ _ b1;exact⟨s2,c1,c2.trans b2⟩
   . obtain⟨s', b1, b2⟩ := a2 t ht;obtain⟨s2,c1,c2⟩:=hl _ _ b1;exact⟨s2,c1,c2.trans b2⟩
 . by_cases z:n=i
   . subst z;rw[aaN hn] at e;cases e
     cases o with
     | none=>exact hg g cg
     | some s0=>exact(I.up g cg n s0 ho).both (hg g cg)
   . rw[aaO z] at e;exact I.up g cg i s e
theorem PI.weak {pend':Nat->Prop}(I:PI rs ls hs first ss Ue)(h:∀ i,Ue i->pend' i):PI rs ls hs first ss pend':=⟨I.len,I.rd,I.bd,λi hi=>I.cl i λk=>hi (h i k),I.up⟩
theorem PI.done {pend':Nat->Prop}(I:PI rs ls hs first ss Ue)(h:∀ i,¬ pend' i->¬ Ue i∨NF rs ls hs first ss i):PI rs ls hs first ss pend':=⟨I.len,I.rd,I.bd,λi hi=>by
 rcases h i hi with k | k
 . exact I.cl i k
 . exact k,I.up⟩
end
structure qk (rs:List Rw)(ls:List (Int×Int))(hs:List (Option Int))(first:Nat)(ss:List (Option Nat)):Prop where
 pi:PI rs ls hs first ss (λ_=>False)
 st:∃ s0,ss[0]? = some (some s0)/\Sub s0 first
def P2 (K:W.Frag)(a:bG):Sp:=λvs H Q _=>∃ (c ly lh:Addr) (prs:List Addr) (rs:List Rw) (ls:List (Int×Int)) (hs:List (Option Int)) (first:Nat),vs=[.ref c,.ref ly,.ref lh,.int (first:Int)]/\H c=some (.lst (prs.map V.ref))/\bL a H prs rs/\(∀ r∈rs,r.ok/\r.here)/\0<rs.length/\rs.length<=2000/\dN ls/\qL H ly rs ls/\H lh=some (.lst (hs.map bM))/\Ej rs ls hs/\first<2 ^ 4100 /\
 ∀ l ss H',ao H H'->H l=none->H' l=some (.lst (ss.map cA))->qk rs ls hs first ss->Q (.ref l) H'
theorem N8 {first:Nat}{ss:List (Option Nat)}(P:qk rs ls hs first ss)(r:RH rs ls i h):∃ s,ss[i.toNat]? = some (some s):=by
 induction r with
 | start=>obtain⟨s0,e,_⟩:=P.st;exact⟨s0,e⟩
 | way _ hr hh hw ih =>
   obtain⟨s,e⟩:=ih;rw[aaD] at e;obtain⟨h0,e0⟩:=P.pi.rd _ _ e;obtain⟨s',e',_⟩:=(P.pi.cl _ (λz=>z) s h0 _ e e0 hr).1 _ hw;exact⟨s',e'⟩
 | call _ hr ih =>
   obtain⟨s,e⟩:=ih;rw[aaD] at e;obtain⟨h0,e0⟩:=P.pi.rd _ _ e;obtain⟨s',e',_⟩:=(P.pi.cl _ (λz=>z) s h0 _ e e0 hr).2 _ rfl;exact⟨s',e'⟩
theorem za {first:Nat}{ss:List (Option Nat)}(O:Ej rs ls hs)(P:qk rs ls hs first ss){i:Nat}(e:hs[i]? = some (some h)):∃ s,ss[i]? = some (some s):=by
 obtain⟨s,e1⟩:=N8 P (O.rh i h e);rw[aaD] at e1;exact⟨s,e1⟩
structure Sr (rs:List Rw)(ls:List (Int×Int))(hs:List (Option Int))(sb s4 s5 s6:List (Option Nat)):Prop where
 ht:Ej rs ls hs
 pb:qk rs ls hs 128 sb
 p4:qk rs ls hs 16 s4
 p5:qk rs ls hs 32 s5
 p6:qk rs ls hs 64 s6
def gN (ss:List (Option Nat))(i:Nat):Int:=(((ss[i]?).join).getD 0:Nat)
def gO (hs:List (Option Int))(sb s4 s5 s6:List (Option Nat))(i:Nat):Option Ent:=((hs[i]?).join).map λh=>⟨h,gN sb i,gN s4 i,gN s5 i,gN s6 i⟩
structure DW (rs:List Rw)(ls:List (Int×Int))(es:List (Option Ent)):Prop where
 len:es.length=rs.length
 of : 0<rs.length->∃ (hs:List (Option Int)) (sb s4 s5 s6:List (Option Nat)),Sr rs ls hs sb s4 s5 s6/\∀ i,i<rs.length->es[i]? = some (gO hs sb s4 s5 s6 i)
def M_ (K:W.Frag)(a:bG):Sp:=λvs H Q E=>∃ (c d:Addr) (prs:List Addr) (rs:List Rw) (ls:List (Int×Int)),vs=[.ref c,.ref d]/\H c=some (.lst (prs.map V.ref))/\bL a H prs rs/\(∀ r∈rs,r.ok/\r.here)/\rs.length<=2000/\dN ls/\H d=some (.dK (aw ls)) /\
 ((0<rs.length/\yY rs ls)->∀ H',ao H H'->E (.ref a.fe) none H')/\∀ l ev es H',ao H H'->H l=none->H' l=some (.lst ev)->bJ K H' ev es->DW rs ls es->Q (.ref l) H'
def RE (K:W.Frag)(a:bG)(H H':Hp)(t:Addr)(ev:List V)(ls:List (Int×Int)):Prop:=∃ dt l d,H l=none/\H d=none/\H' t=some (.ins a.b3 dt (fQ l d))/\H' l=some (.lst ev)/\H' d=some (.dK (aw ls))
def w4 (K:W.Frag)(a:bG):Sp:=λvs H Q E=>∃ (c:Addr) (lvv:V) (prs:List Addr) (rs:List Rw) (ls:List (Int×Int)),vs=[.ref c,lvv]/\H c=some (.lst (prs.map V.ref))/\bL a H prs rs/\(∀ r∈rs,r.ok/\r.here)/\rs.length<=2000/\dN ls/\((lvv=.aC/\ls=[])∨∃ d,lvv=.ref d/\H d=some (.dK (aw ls))) /\
 (((0<rs.length/\yY rs ls)∨∃ es ks,DW rs ls es/\ks.Perm (ls.map (·.1))/\dG rs es ls ks≠[])->∀ H',ao H H'->E (.ref a.fe) none H') /\
 ∀ t ev es ks H',ao H H'->H t=none->RE K a H H' t ev ls->bJ K H' ev es->DW rs ls es->ks.Perm (ls.map (·.1))->dG rs es ls ks=[]->Q (.ref t) H'
theorem DU (G:DW rs ls es):∀ t,some t∈es->t.nn:=by
 intro t ht;obtain⟨i,hi,e⟩:=List.getElem_of_mem ht;have hn:i<rs.length:=by rw[<- G.len];exact hi
 obtain⟨hs,sb,s4,s5,s6,_,he⟩:=G.of (by lia);have e1:=he i hn;rw[aaa hi,e] at e1;have e2:gO hs sb s4 s5 s6 i=some t:=(aax e1).symm;unfold gO at e2;obtain⟨h,_,e3⟩:=Option.map_eq_some_iff.mp e2;rw[<- e3];exact⟨abl _,abl _,abl _,abl _⟩
def Pa (H:Hp)(v:V):Option Ent->Prop
 | none=>v=.aC
 | some e=>∃ p q,v=.ref p/\H p=some (.tup [.int e.h,.int e.b,.ref q])/\H q=some (.tup [.int e.v4,.int e.v5,.int e.v6])
def nH (H:Hp)(vs:List V)(es:List (Option Ent)):Prop:=vs.length=es.length/\∀ (i:Nat) (oe:Option Ent),es[i]? = some oe->∃ v,vs[i]? = some v/\Pa H v oe
theorem nH.to (h:nH H vs es)(k:∀ b xs,H b=some (.tup xs)->H' b=some (.tup xs)):nH H' vs es:=⟨h.1,λi oe e=>by
 obtain⟨v,e1,e2⟩:=h.2 i oe e;refine⟨v,e1,?_⟩;cases oe with
 | none=>exact e2
 | some en=>obtain⟨p,q,a1,a2,a3⟩:=e2;exact⟨p,q,a1,k _ _ a2,k _ _ a3⟩⟩
theorem nH.nil:nH H [] []:=⟨rfl,λi oe e=>by simp at e⟩
theorem nH.snoc {v:V}{o:Option Ent}(h:nH H vs es)(q:Pa H v o):nH H (vs++[v]) (es++[o]):=by
 refine⟨by rw[aab,aab,h.1];rfl,λi oe e=>?_⟩;by_cases hi:i<es.length
 . rw[aas hi] at e;obtain⟨v',e1,e2⟩:=h.2 i oe e;exact⟨v',by rw[aas (by rw[h.1];exact hi)];exact e1,e2⟩
 . rw[aaq (by lia)] at e;cases hj:i - es.length with
   | zero =>
     rw[hj] at e
     have:o=oe:=by simpa using e
     subst this;exact⟨v,by rw[aaq (by rw[h.1];lia),h.1,hj];rfl,q⟩
   | succ j=>rw[hj] at e;simp at e
theorem nH.ents {K:W.Frag}(h:nH H vs es):bJ K H vs es:=⟨h.1,λi oe e=>by
 obtain⟨v,e1,e2⟩:=h.2 i oe e;refine⟨v,e1,?_⟩;cases oe with
 | none=>exact e2
 | some en=>obtain⟨p,q,a1,a2,a3⟩:=e2;exact⟨p,a1,q,aI.of a2,aI.of a3⟩⟩
theorem qo (h:H l=some (.lst ys))(b:Addr)(xs:List V)(e:H b=some (.tup xs)):(upd H l o) b=some (.tup xs):=by
 rw[ak (λz=>by subst z;rw[h] at e;cases e)];exact e
def firstsD:List Nat:=[128,16,32,64]
theorem uZ {K:W.Frag}{C pe x:Addr}{lv:V}{R:VK}{E:XK}(hx:H x=none)(U2:H dx=none)(h1:ar K H pe xs)(h2:(lv=.aC/\kvs=[])∨∃ pd,lv=.ref pd/\H pd=some (.dK kvs))
   (q:∀ l d H',ao H H'->H l=none->H d=none->l≠d->x≠l->x≠d->H' x=some (.ins C dx (au "landings" (.ref d) (au "entries" (.ref l) [])))->H' l=some (.lst xs)->H' d=some (.dK kvs)->R .aC H') :
   yV K C [.ref x,.ref pe,lv] (upd (upd H dx (.own x)) x (.ins C dx [])) R E:=by
 have s1:ao H (upd (upd H dx (.own x)) x (.ins C dx [])):=λb o e=>by rw[ak (ag e hx),ak (ag e U2)];exact e
 refine⟨x,dx,pe,lv,xs,kvs,rfl,aa,ao.seq s1 h1,?_,λl d H' nl nd nld kp WQ hl' W4=>?_⟩
 . rcases h2 with h2 | ⟨pd,e,h2⟩
   . exact .inl h2
   . exact .inr ⟨pd,e,s1 _ _ h2⟩
 . have US := bw nl;have nd1:=bw nd;exact q l d H' (λb o e=>kp b o (s1 b o e) (ag e hx)) (bw US.1).1 (bw nd1.1).1 nld US.2.symm nd1.2.symm WQ hl' W4
def fq (bs pl:List Int)(h p:Int):Int:=if p<8 then gI bs p else gI pl (pl.length - h+p - 8)
variable {j:Int}
theorem tD {xs:List Int}{v:Int}(h0 : 0<=i)(h1 : 0<=j)(h:i≠j):gI (sI xs j v) i=gI xs i:=by
 unfold gI sI;rw[aar,aar,aaO (by lia)]
theorem mZ {xs:List Int}{v:Int}(h0 : 0<=i)(h1:i<xs.length):gI (sI xs i v) i=v:=by
 unfold gI sI;rw[aar,aaN (by lia)];rfl
theorem M2 {xs ys:List Int}(h0 : 0<=i)(h1:i<xs.length):gI (xs++ys) i=gI xs i:=by
 unfold gI;rw[aar,aar,aas (by lia)]
theorem y7 {xs:List Int}{n:Nat}(h0 : 0<=i)(h1:i<n):gI (xs.take n) i=gI xs i:=by
 unfold gI;rw[aar,aar,List.getElem?_take_of_lt (by omega)]
theorem CL (s i:Nat):(s &&& 2 ^ i=0) ↔ s.testBit i=false:=by
 constructor
 . intro h
   have:=congrArg (λx=>x.testBit i) h
   simp only[aaS,abM,acD] at this
   simpa using this
 . intro h;apply abp;intro j;rw[aaS,abM,acD];by_cases e:i=j
   . subst e;rw[h];rfl
   . simp[e]
theorem Hb {s p i:Nat}(h:(Bt.wo s (2 ^ p)).testBit i=true):s.testBit i=true/\i≠p:=by
 rw[Bt.jF,abM] at h;simp only[aaM,ac1,decide_eq_false_iff_not] at h;exact⟨h.1,λe=>h.2 e.symm⟩
theorem sR {s p q i:Nat}(h:(fz s (2 ^ p) (2 ^ q)).testBit i=true):(s.testBit i=true/\i≠p)∨(s.testBit q=true/\i=p):=by
 unfold fz at h;split at h
 . exact .inl (Hb h)
 . rename_i hn;rw [CL] at hn;have hq:s.testBit q=true:=by simpa using hn
   by_cases e:i=p
   . exact .inr ⟨hq,e⟩
   . rw[adD,abM] at h;have : ¬ p=i:=λz=>e z.symm;simp[this] at h;exact .inl ⟨h,e⟩
structure BB (Uw Tx pl:List Int)(h d v:Int)(k:Nat):Prop where
 bits:∀ i:Nat,k.testBit i=true->(i:Int)<8+d/\fq Uw Tx d i=v
 d0 : 0<=d
 dl:d<=Tx.length
 len:(Tx.length:Int) - d=pl.length - h
 below:Tx.take (pl.length - h.toNat)=pl.take (pl.length - h.toNat)
theorem mY {bs pl:List Int}{w:Int}(h0 : 0<=i)(b0 : 0<=b)(hi:i≠b):fq (sI bs b w) pl h i=fq bs pl h i:=by
 unfold fq;split
 . exact tD h0 b0 hi
 . rfl
theorem uM {d n' v:Int}{s:Nat}{bs pl:List Int}(ok:r.ok)(h0 : 0<=h)(hl:h<=pl.length)(h8:bs.length=8)(hd:r.aE h=some d)(hr:r.run n bs pl=some (n',Uw,Tx))
   (hs:∀ i:Nat,s.testBit i=true->(i:Int)<8+h/\fq bs pl h i=v):BB Uw Tx pl h d v (r.keep s h):=by
 have We:∀ (b w:Int),aH b->BB (sI bs b w) pl pl h h v (Bt.wo s (2 ^ b.toNat)):=λb w hb=>by
   refine⟨λi hi=>?_,h0,hl,rfl,rfl⟩;obtain⟨h1,h2⟩:=Hb hi;obtain⟨h3,h4⟩:=hs i h1
   have:=hb.1
   exact⟨h3,by rw[mY (by lia) hb.1 (by lia)];exact h4⟩
 have Wz:BB bs pl pl h h v s:=⟨hs,h0,hl,rfl,rfl⟩
 cases r with
 | set b m=>cases hd;cases hr;exact We b m ok.1
 | add b o t=>cases hd;cases hr;exact We b _ ok.1
 | sub b o t=>cases hd;cases hr;exact We b _ ok.1
 | mul b o t=>cases hd;cases hr;exact We b _ ok.1
 | less b o t=>cases hd;cases hr;exact We b _ ok.1
 | dr t=>cases hd;cases hr;exact Wz
 | branch b t=>cases hd;cases hr;exact Wz
 | back b=>cases hd;cases hr;exact Wz
 | drop b=>cases hr
 | copy b o =>
   cases hd;cases hr
   obtain⟨⟨b0,b1⟩,⟨o0,o1⟩⟩:=ok;refine⟨λi hi=>?_,h0,hl,rfl,rfl⟩;rcases sR hi with ⟨h1,h2⟩ | ⟨h1,h2⟩
   . obtain⟨h3, h4⟩ := hs i h1;exact⟨h3,by rw[mY (by lia) b0 (by lia)];exact h4⟩
   . obtain ⟨h3, h4⟩ := hs _ h1;refine ⟨by lia,?_⟩;unfold fq at h4 ⊢;rw [if_pos (by lia)] at h4 ⊢;rw [show ((i:Nat):Int)=b by lia,mZ b0 (by lia),<- h4]
     congr 1;lia
 | call t =>
   cases hd;cases hr
   refine⟨λi hi=>?_,h0,hl,rfl,rfl⟩;rw[show(Rw.call _).keep s h=Bt.wo s 143 from rfl,Bt.jF,aaM] at hi;obtain⟨h3,h4⟩:=hs i hi.1;have h7:i≠7:=λe=>by subst e;exact absurd hi.2 (by decide)
   exact⟨h3,by rw[mY (by lia) (by decide) (by lia)];exact h4⟩
 | grow m =>
   obtain⟨m0,m1⟩:aF m:=ok;simp only[Rw.aE] at hd;simp only[Rw.run] at hr;split at hd
   . cases hd
   split at hr
   . cases hr
   cases hd;cases hr
   refine⟨λi hi=>?_,by lia,?_,?_,?_⟩
   . obtain ⟨h3, h4⟩ := hs i hi;refine ⟨by lia,?_⟩;unfold fq at h4 ⊢;split
     . rename_i e;rw[if_pos e] at h4;exact h4
     . rename_i e;rw[if_neg e] at h4;rw[aab,aaC,<- h4,show(((pl.length+m.toNat:Nat):Int) - (h+m)+i - 8)=pl.length - h+i - 8 by lia];exact M2 (by lia) (by lia)
   . rw[aab,aaC];lia
   . rw[aab,aaC];lia
   . rw[List.take_append_of_le_length (by lia)]
 | shrink m =>
   obtain⟨m0,m1⟩:aF m:=ok;simp only[Rw.aE] at hd;simp only[Rw.run] at hr;split at hd
   . cases hd
   split at hr
   . cases hr
   cases hd;cases hr
   have ht:(pl.take (pl.length - m.toNat)).length=pl.length - m.toNat:=by rw[aaA];lia
   refine⟨λi hi=>?_,by lia,?_,?_,?_⟩
   . rw[show(Rw.shrink m).keep s h = Bt.wo s ((2 ^ m.toNat - 1) * 2 ^ (8 + h - m).toNat) from rfl, Bt.jF, aaM, Nat.testBit_mul_two_pow, Nat.testBit_two_pow_sub_one] at hi;obtain⟨h3,h4⟩:=hs i hi.1;have h5:(i:Int)<8+h - m:=by
       by_cases z:(i:Int)<8+h - m
       . exact z
       . exfalso
         have z1:i ≥ (8+h - m).toNat:=by lia
         have z2:i - (8+h - m).toNat<m.toNat:=by lia
         have:=hi.2
         simp[z1,z2] at this
     refine⟨by lia,?_⟩;unfold fq at h4 ⊢;split
     . rename_i e;rw[if_pos e] at h4;exact h4
     . rename_i e;rw[if_neg e] at h4;rw[ht,<- h4,show(((pl.length - m.toNat:Nat):Int) - (h - m)+i - 8)=pl.length - h+i - 8 by lia];exact y7 (by lia) (by lia)
   . rw[ht];lia
   . rw[ht];lia
   . rw[List.take_take,ads (by lia)]
 | put b c =>
   obtain⟨⟨b0,b1⟩,⟨c0,c1⟩⟩:aH b/\aF c:=ok;simp only[Rw.aE] at hd;simp only[Rw.run] at hr;split at hd
   . cases hd
   split at hr
   . cases hr
   cases hd;cases hr
   refine⟨λi hi=>?_,h0,by rw[dw];exact hl,by rw[dw],?_⟩
   . rcases sR hi with ⟨h1,h2⟩ | ⟨h1,h2⟩
     . obtain⟨h3, h4⟩ := hs i h1;refine⟨h3,?_⟩;unfold fq at h4 ⊢;split
       . rename_i e;rw[if_pos e] at h4;exact h4
       . rename_i e;rw[if_neg e] at h4;rw[dw,tD (by lia) (by lia) (by lia)];exact h4
     . obtain ⟨h3, h4⟩ := hs _ h1;refine ⟨by lia,?_⟩;unfold fq at h4 ⊢;rw [if_pos (by lia)] at h4;rw [if_neg (by lia),dw,show ((pl.length:Int) - h+i - 8)=pl.length - 1 - c by lia,mZ (by lia) (by lia),<- h4]
       congr 1;lia
   . unfold sI;rw[List.take_set_of_le (by lia)]
 | get b c =>
   obtain⟨⟨b0,b1⟩,⟨c0,c1⟩⟩:aH b/\aF c:=ok;simp only[Rw.aE] at hd;simp only[Rw.run] at hr;split at hd
   . cases hd
   split at hr
   . cases hr
   cases hd;cases hr
   refine⟨λi hi=>?_,h0,hl,rfl,rfl⟩;rcases sR hi with ⟨h1,h2⟩ | ⟨h1,h2⟩
   . obtain⟨h3, h4⟩ := hs i h1;exact⟨h3,by rw[mY (by lia) b0 (by lia)];exact h4⟩
   . obtain ⟨h3, h4⟩ := hs _ h1;refine ⟨by lia,?_⟩;unfold fq at h4 ⊢;rw [if_neg (by lia)] at h4;rw [if_pos (by lia),show ((i:Nat):Int)=b by lia,mZ b0 (by lia),<- h4]
     congr 1;lia
variable {ns:List Int}
theorem Jd {c:Int}(h:c∈ns):c∈once ns:=by
 have gen:∀ (ns t:List Int),(c∈ns∨c∈t)->c∈ns.foldl (λt n=>if n∈t then t else t++[n]) t:=by
   intro ns
   induction ns with
   | nil=>intro t h;rcases h with h | h;cases h;exact h
   | cons n r ih =>
     intro t h;rw[List.foldl_cons];refine ih _ ?_;by_cases hn:n∈t
     . rw[if_pos hn];rcases h with h | h
       . rcases List.mem_cons.mp h with rfl | h
         . exact .inr hn
         . exact .inl h
       . exact .inr h
     . rw[if_neg hn];rcases h with h | h
       . rcases List.mem_cons.mp h with rfl | h
         . exact .inr (aay _ (List.mem_singleton.mpr rfl))
         . exact .inl h
       . exact .inr (aa5 _ h)
 exact gen ns [] (.inl h)
structure Lb (rs:List Rw)(es:List (Option Ent))(ls:List (Int×Int)):Prop where
 len:es.length=rs.length
 start : 0<rs.length->es[0]?.join=mC
 own:∀ (i:Nat) (r:Rw) (e:Ent),rs[i]? = some r->es[i]?.join=some e->ek r e=none
 way:∀ (i:Nat) (r:Rw) (e:Ent) (c:Int),rs[i]? = some r->es[i]?.join=some e->c∈r.dz i->fE r e c es=none
 Sk:∀ (i:Nat) (t:Int) (e:Ent),rs[i]? = some (.call t)->es[i]?.join=some e->eC t es=none
 land:∀ k∈ls.map (·.1),mS rs es k (lv ls k)=none
theorem toL_none {β : Type}{o:Option α}{f : α->β}(h:(o.map f).toList=[]):o=none:=by cases o with | none=>rfl | some x=>cases h
theorem Kn {ks:List Int}(hz:dG rs es ls ks=[])(hp:ks.Perm (ls.map (·.1))):Lb rs es ls:=by
 have hl:es.length=rs.length:=by
   by_cases h:es.length=rs.length
   . exact h
   . unfold dG at hz;rw[if_neg h] at hz;cases hz
 unfold dG at hz;rw[if_pos hl] at hz;obtain⟨h12,h3⟩:=List.append_eq_nil_iff.mp hz;obtain⟨h1,h2⟩:=List.append_eq_nil_iff.mp h12;have Te:∀ (i:Nat) (r:Rw) (e:Ent),rs[i]? = some r->es[i]?.join=some e->pU r e i es=[]:=λi r e hr he=>by
   have z:=List.flatMap_eq_nil_iff.mp h2 i (List.mem_range.mpr (List.getElem?_eq_some_iff.mp hr).1);unfold m6 at z;rw[hr,he] at z;exact z
 have Th:∀ (i:Nat) (r:Rw) (e:Ent),rs[i]? = some r->es[i]?.join=some e->ek r e=none:=λi r e hr he=>by
   have z:=Te i r e hr he;unfold pU at z;cases ho:ek r e with
   | none=>rfl
   | some w=>rw[ho] at z;cases z
 have UH:∀ (i:Nat) (r:Rw) (e:Ent),rs[i]? = some r->es[i]?.join=some e->((once (r.dz i)).filterMap λc=>(fE r e c es).map λw=>Cm.mk i c w)=[]/\tR r i es=[]:=λi r e hr he=>by
   have z:=Te i r e hr he;unfold pU at z;rw[Th i r e hr he] at z;exact List.append_eq_nil_iff.mp z
 refine⟨hl,λh0=>?_,Th,λi r e c hr he hc=>?_,λi t e hr he=>?_,λk hk=>?_⟩
 . unfold dF at h1;rw[if_pos h0] at h1;by_cases h:kM (es[0]?.join) mC=true
   . exact E4 h
   . rw[if_neg h] at h1;cases h1
 . have z := (UH i r e hr he).1;rw[List.filterMap_eq_nil_iff] at z
   have:=z c (Jd hc)
   cases hw:fE r e c es with
   | none=>rfl
   | some w=>rw[hw] at this;cases this
 . exact toL_none (UH i _ e hr he).2
 . exact toL_none (List.flatMap_eq_nil_iff.mp h3 k (hp.mem_iff.mpr hk))
theorem N9 {c:Int}(h:fE r e c es=none) : 0<=c/\c<es.length/\∃ t,es[c.toNat]?.join=some t/\r.aE e.h=some t.h/\nh r e t=none:=by
 unfold fE at h;by_cases hb : 0<=c/\c<es.length
 . rw[if_pos hb] at h;refine⟨hb.1,hb.2,?_⟩;cases ht:es[c.toNat]?.join with
   | none=>rw[ht] at h;cases h
   | some t =>
     rw[ht] at h;have h:(if r.aE e.h=some t.h then nh r e t else some Wt.aE)=none:=h;by_cases hh:r.aE e.h=some t.h
     . rw[if_pos hh] at h;exact⟨t,rfl,hh,h⟩
     . rw[if_neg hh] at h;cases h
 . rw[if_neg hb] at h;cases h
theorem qV:Bt.wo x y=0 ↔ Sub x y:=by
 have h1:x &&& y<=x:=acM;show x - (x &&& y)=0 ↔ x &&& y=x
 lia
theorem LW {t:Ent}(h:nh r e t=none):Sub t.b.toNat (r.keep e.b.toNat e.h)/\Sub t.v4.toNat (r.keep e.v4.toNat e.h)/\Sub t.v5.toNat (r.keep e.v5.toNat e.h)/\Sub t.v6.toNat (r.keep e.v6.toNat e.h):=by
 unfold nh at h;split at h;cases h
 split at h;cases h
 split at h;cases h
 split at h;cases h
 rename_i a b c d;exact⟨qV.mp (acp a),qV.mp (acp b),qV.mp (acp c),qV.mp (acp d)⟩
theorem Ma {t:Int}(h:eC t es=none) : 0<=t/\t<es.length/\es[t.toNat]?.join=mC:=by
 unfold eC at h;by_cases hb : 0<=t/\t<es.length
 . rw[if_pos hb] at h;by_cases he:kM (es[t.toNat]?.join) mC=true
   . exact⟨hb.1,hb.2,E4 he⟩
   . rw[if_neg he] at h;cases h
 . rw[if_neg hb] at h;cases h
def h_ (H:Hp)(v:V)(r:Rw):Prop:=∃ p,v=.ref p/\H p=some (.tup (.str r.eU.1::r.eU.2.map V.int))
theorem h_.same {v:V}(h:h_ H v r)(s:ao H H'):h_ H' v r:=let ⟨p,e,k⟩:=h;⟨p,e,s _ _ k⟩
def bN:Rw->Int
 | .grow m=>m
 | _=>0
def iK (r:Rw):Prop:=(r.ok/\r.here)/\bN r<=5
def fH (r:Rw):Prop:=iK r∨(∃ t,r=.call t)∨∃ t,r=.dr t
def aN (ok:Rw->Prop)(H:Hp)(us:List V):Prop:=∀ u∈us,∃ r,h_ H u r/\ok r
theorem aN.same {ok:Rw->Prop}(h:aN ok H us)(s:ao H H'):aN ok H' us:=λu hu=>let ⟨r,h1,h2⟩:=h u hu;⟨r,h1.same s,h2⟩
theorem aN.app {ok:Rw->Prop}{ws:List V}(h:aN ok H us)(k:aN ok H ws):aN ok H (us++ws):=λu hu=>by
 rcases List.mem_append.mp hu with z | z
 . exact h u z
 . exact k u z
theorem aN.one {ok:Rw->Prop}{u:V}(h:h_ H u r)(k:ok r):aN ok H [u]:=λv hv=>by rw[List.mem_singleton.mp hv];exact⟨r,h,k⟩
theorem aN.nil {ok:Rw->Prop}:aN ok H []:=λu hu=>by cases hu
def G2 (a:bG):Sp:=λvs H Q _=>∃ (u:V) (r:Rw),vs=[u]/\h_ H u r/\iK r/\∀ x H',ao H H'->H x=none->bC a H' x r->Q (.ref x) H'
def FA:Sp:=λvs H Q _=>∃ c m:Int,vs=[.int c,.int m]/\1<=m/\m<=450/\∀ u r H',ao H H'->h_ H' u r->iK r->Q u H'
def Ph (K:W.Frag):Sp:=λvs H Q _=>∃ (lc ls:Addr) (cs ss:List Int) (sp at_:Int),vs=[.ref lc,.ref ls,.int sp,.int at_]/\ar K H lc (cs.map V.int)/\cs.length<=63/\ar K H ls (ss.map V.int)/\ss.length<=4/\(∀ s∈ss,0<=s/\s<=7)/\-1<=sp/\sp<=5/\0<=at_/\at_<=1000 /\
 ∀ l us H',ao H H'->H' l=some (.lst us)->us.length<=2*cs.length->aN fH H' us->Q (.ref l) H'
def Fp (K:W.Frag)(N:Nat):Sp:=λvs H Q _=>∃ (a0:Addr) (ns:List Int),vs=[.ref a0]/\ar K H a0 (ns.map V.int)/\ns.length<=63 /\
 ∀ t l d us ls H',ao H H'->H' t=some (.tup [.ref l,.ref d])->H l=none->H d=none->l≠d->H' l=some (.lst us)->1<=us.length->us.length<=N->aN iK H' us->H' d=some (.dK (aw ls))->dN ls->Q (.ref t) H'
def KJ (oe:Option Ent):Prop:=∀ e,oe=some e->e.nn/\0<=e.h/\e.h<=4000
theorem aN.cons {ok:Rw->Prop}{u:V}(h:h_ H u r)(k:ok r)(t:aN ok H us):aN ok H (u::us):=λv hv=>by
 rcases List.mem_cons.mp hv with rfl | z
 . exact⟨r,h,k⟩
 . exact t v z
theorem qE {K:W.Frag}{ok:Rw->Prop}(hl:H l=some (.lst us))(t:aN ok H us)(h0 : 0<=i)(h1:i<(us.length:Nat))(q:∀ u r,h_ H u r->ok r->Q u H):bI K (.ref l) (.int i) H Q:=by
 obtain⟨j,rfl⟩:=abc h0;have hj:j<us.length:=by omega
 obtain⟨r,h2,h3⟩:=t us[j] (aaX hj);exact b9 (ar.of hl) (bF (aaa hj)) (q _ r h2 h3)
theorem bS {K:W.Frag}{x:V}{b:Bool}(h:H p=some (.lst xs))(f1:dQ x=true)(f2:xs.all dQ=true)(e:eV x xs=b)(q:∀ Hx,ao H Hx->Q (.bl b) Hx):x9 K false x (.ref p) H Q:=eI (ar.of h) f1 f2 (by rw[e];exact q H (ao.refl _))
def Mq (K:W.Frag):Sp:=λvs H Q _=>∃ c:Int,vs=[.int c]/\∀ u oe H',ao H H'->iS K H' u oe->KJ oe->Q u H'
theorem A7 (xs:List Int){k:Int}(hj : 0<=j)(h0 : 0<=k):(cV xs (some j) (some (j+k))).length<=k.toNat:=by
 unfold cV;obtain⟨n,rfl⟩:=abc hj;rw[show HT.bg xs.length 0 (some ((n:Nat):Int))=min n xs.length from HT.jg _ _ n,show((n:Nat):Int)+k=((n+k.toNat:Nat):Int) from by omega,HT.jg,aaA,abz];refine aaK (Nat.min_le_left _ _) ?_;rcases Nat.le_total n xs.length with h | h
 . rw[ads h];exact Nat.sub_le_of_le_add (aaK (Nat.min_le_left _ _) (acx (Nat.add_comm _ _)))
 . rw[Nat.min_eq_right h];exact aaK (Nat.sub_le_sub_right (Nat.min_le_right _ _) _) (by rw[Nat.sub_self];exact aaT _)
theorem LR {sp:Sp}{j:Nat}{t:TA}{th:TS}{D:Ends}(h:t Z H λvs H1=>sp vs H1 (λv H2=>D.nx (Z.set j (some v)) H2) λc _ H2=>c=.ref C/\th { nx:=λZ' H'=>D.nx Z' H',rt:=λ_ _=>False } Z H2):JF (Kb sp j t) C th D Z H:=h
theorem Lu {c r:Int}(h:dN ls)(hl:ls.length<60)(r1 : -10000<=r)(r2:r<=10000):∃ V9,putK (aw ls) (.inl c) (.int r)=aw V9/\dN V9/\V9.length<=ls.length+1:=by
 obtain⟨h1,h2,h3⟩:=h;by_cases hm:c∈ls.map (·.1)
 . refine ⟨ls.map λp => if p.1 = c then (p.1, r) else p, ?_, ⟨?_, by rw [aac]; omega, λp hp => ?_⟩, by rw [aac]; omega⟩
   . unfold putK;rw [j8];obtain ⟨p,hp,rfl⟩:=List.mem_map.mp hm;rw [(g6 h1 p hp).1,if_pos (show (some (V.int p.2)).isSome=true from rfl)];unfold aw;rw [abd,abd];refine List.map_congr_left λq _=>?_;show (if (Sum.inl q.1:Key)=Sum.inl p.1 then ((Sum.inl q.1:Key),V.int r) else (Sum.inl q.1,V.int q.2))=(Sum.inl (if q.1=p.1 then (q.1,r) else q).1,V.int (if q.1=p.1 then (q.1,r) else q).2)
     by_cases e:q.1=p.1
     . rw[if_pos (by rw[e]),if_pos e]
     . rw[if_neg (λz=>e (ac0 z)),if_neg e]
   . rw[abd, show((λx : Int × Int => x.1) ∘ λp : Int × Int => if p.1 = c then (p.1, r) else p) = λp => p.1 from funext λp => by
       show(if p.1=c then (p.1,r) else p).1=p.1;split <;> rfl]
     exact h1
   . obtain⟨p', hp', rfl⟩ := List.mem_map.mp hp;split
     . exact⟨r1,r2⟩
     . exact h3 p' hp'
 . refine ⟨ls ++ [(c, r)], AM (iG hm), ⟨?_, by rw [aab, aaF]; omega, λp hp => ?_⟩, by rw [aab, aaF]; omega⟩
   . rw [aaE,List.nodup_append];refine ⟨h1,by simp,λx hx y hy z=>?_⟩
     have:y=c:=by simpa using hy
     rw[z,this] at hx;exact hm hx
   . rcases List.mem_append.mp hp with hp | hp
     . exact h3 p hp
     . rw[List.mem_singleton.mp hp];exact⟨r1,r2⟩
theorem aO {K:W.Frag}{a:Addr}(e:ao H H')(h:ar K H a xs):ar K H' a xs:=by
 rcases h with (h | ⟨o,h⟩) | h
 . exact .inl (.inl (e _ _ h))
 . exact .inl (.inr ⟨o,e _ _ h⟩)
 . exact .inr h
theorem Dm {K:W.Frag}{l2:Addr}(h:H l=some (.lst []))(h2:H l2=some (.lst []))(q:Q (.bl false) H):gG K (.ref l) (.ref l2) H Q∨mB K (.ref l) (.ref l2) H Q:=.inl (Qa (.list []) (ju (ar.of h) cK) (ju (ar.of h2) cK) rfl q)
theorem CY {K:W.Frag}{l2:Addr}(h:H l=some (.lst us))(h2:H l2=some (.lst []))(hu:us.length≠0)(q:Q (.bl true) H):gG K (.ref l) (.ref l2) H Q∨mB K (.ref l) (.ref l2) H Q:=.inr ⟨l,l2,_,_,rfl,rfl,ar.of h,ar.of h2,hu,q⟩
theorem aN.off {ok:Rw->Prop}(h:aN ok H us)(hl:H l=some (.lst xs)):aN ok (upd H l o) us:=λu hu=>by
 obtain⟨r,⟨p,e,k⟩,h2⟩:=h u hu;exact⟨r,⟨p,e,by rw[ak (λz=>by rw[z,hl] at k;cases k)];exact k⟩,h2⟩
theorem eF (h0 : 0<=i)(h1:i<(ns.length:Nat)):∃ t∈ns,cZ (ns.map V.int) i=some (.int t):=by
 obtain⟨j,rfl⟩:=abc h0;have Tb:j<ns.length:=by lia
 exact⟨ns[j],aaX Tb,bF (by rw[aah,aaa Tb];rfl)⟩
theorem E9 {K:W.Frag}{a b:Addr}{g:TG}{tc:TT}{te:TE}{Td:List V->Hp->Prop}(hy:ys.length=xs.length)(Pv:Nat->List V->L2.St->Hp->Prop)(h0:Pv 0 [] Z H)(hl:∀ i zs Z H,i<=xs.length->Pv i zs Z H->(ar K H a xs/\ar K H b ys)/\zs.length<=aal)
   (hs:∀ i x y T zs Z H,xs[i]? = some x->ys[i]? = some y->Pv i zs Z H->H T=none->g (.ref T) Z (upd H T (.tup [x,y])) λZ3 H3=>tc Z3 H3 λb H4=>if b=true then te Z3 H4 λy H5=>Pv (i+1) (zs++[y]) Z3 H5 else Pv (i+1) zs Z3 H4) (hd:∀ zs Z H,Pv xs.length zs Z H->Td zs H):iz (Ef K a b) g tc te Td Z H:=by
 refine⟨λi m zs Z H=>m=xs.length - i/\i<=xs.length/\Pv i zs Z H,⟨xs.length,by simp,aaT _,h0⟩,?_⟩;rintro i m zs Z H ⟨rfl,hi,p⟩;obtain⟨⟨q1,q2⟩,hz⟩:=hl i zs Z H hi p;by_cases Tb:i<xs.length
 . refine .inr ⟨⟨xs, ys, xs[i], ys[i]'(by lia), q1, q2, by simp[Tb], by simp[show i < ys.length by lia]⟩, Pv (i + 1), λzs2 Z' H' p' => ⟨(hl (i + 1) zs2 Z' H' Tb p').2, xs.length - (i + 1), by lia, rfl, Tb, p'⟩, λx H' y => ?_⟩;obtain⟨T,x',y',rfl,hT,rfl,hxy⟩:=y;obtain⟨z1,z2⟩:=hxy _ _ q1 q2;exact hs i x' y' T zs Z H z1 z2 p hT
 . have e : i = xs.length := by lia
   subst e;exact .inl ⟨⟨xs,ys,q1,q2,.inl (aag _)⟩,hz,hd zs Z H p⟩
theorem LJ {c r:Int}(h:dN ls)(hl:ls.length<63)(r1 : -10000<=r)(r2:r<=10000):∃ V9,putK (aw ls) (.inl c) (.int r)=aw V9/\dN V9/\V9.length<=ls.length+1:=by
 obtain⟨h1,h2,h3⟩:=h;by_cases hm:c∈ls.map (·.1)
 . refine ⟨ls.map λp => if p.1 = c then (p.1, r) else p, ?_, ⟨?_, by rw [aac]; omega, λp hp => ?_⟩, by rw [aac]; omega⟩
   . unfold putK;rw [j8];obtain ⟨p,hp,rfl⟩:=List.mem_map.mp hm;rw [(g6 h1 p hp).1,if_pos (show (some (V.int p.2)).isSome=true from rfl)];unfold aw;rw [abd,abd];refine List.map_congr_left λq _=>?_;show (if (Sum.inl q.1:Key)=Sum.inl p.1 then ((Sum.inl q.1:Key),V.int r) else (Sum.inl q.1,V.int q.2))=(Sum.inl (if q.1=p.1 then (q.1,r) else q).1,V.int (if q.1=p.1 then (q.1,r) else q).2)
     by_cases e:q.1=p.1
     . rw[if_pos (by rw[e]),if_pos e]
     . rw[if_neg (λz=>e (ac0 z)),if_neg e]
   . rw[abd, show((λx : Int × Int => x.1) ∘ λp : Int × Int => if p.1 = c then (p.1, r) else p) = λp => p.1 from funext λp => by
       show(if p.1=c then (p.1,r) else p).1=p.1;split <;> rfl]
     exact h1
   . obtain⟨p', hp', rfl⟩ := List.mem_map.mp hp;split
     . exact⟨r1,r2⟩
     . exact h3 p' hp'
 . refine ⟨ls ++ [(c, r)], AM (iG hm), ⟨?_, by rw [aab, aaF]; omega, λp hp => ?_⟩, by rw [aab, aaF]; omega⟩
   . rw [aaE,List.nodup_append];refine ⟨h1,by simp,λx hx y hy z=>?_⟩
     have:y=c:=by simpa using hy
     rw[z,this] at hx;exact hm hx
   . rcases List.mem_append.mp hp with hp | hp
     . exact h3 p hp
     . rw[List.mem_singleton.mp hp];exact⟨r1,r2⟩
def QK (K:W.Frag):Sp:=λvs H Q _=>∃ (lc:Addr) (cs:List Int) (c at_:Int),vs=[.int c,.ref lc,.int at_]/\ar K H lc (cs.map V.int)/\cs.length<=63/\0<=at_/\at_<=400 /\
 ∀ t l us e H',ao H H'->H' t=some (.tup [.ref l,.int e])->H' l=some (.lst us)->1<=us.length->us.length<=2*cs.length+11->aN fH H' us->0<=e->e<=1000->Q (.ref t) H'
theorem L7 (xs:List Int):(cV xs none (some 1)).length+(cV xs (some 1) none).length=xs.length:=by
 rw[fT _ (by decide)];unfold cV;rw[show HT.bg xs.length 0 (some (1:Int))=min 1 xs.length from HT.jg _ _ 1,show HT.bg xs.length xs.length none=xs.length from rfl,aaA,aaA,abz];show min 1 xs.length+_=_
 lia
theorem aN.OO {ok:Rw->Prop}{kv:List (Key×V)}(h:aN ok H us)(hl:H l=some (.dK kv)):aN ok (upd H l o) us:=λu hu=>by
 obtain⟨r,⟨p,e,k⟩,h2⟩:=h u hu;exact⟨r,⟨p,e,by rw[ak (λz=>by rw[z,hl] at k;cases k)];exact k⟩,h2⟩
theorem ql {kv:List (Key×V)}(h:H p=some (.lst us))(hl:H l=some (.dK kv)):upd H l o p=some (.lst us):=by
 rw[ak (λz=>by rw[z,hl] at h;cases h)];exact h
theorem aI.off {K:W.Frag}{o':HO}(h:H l=some o)(ho:(∃ xs,o=.lst xs)∨∃ kvs,o=.dK kvs)(q:aI K H p ys):aI K (upd H l o') p ys:=by
 rcases q with (q | ⟨u,q⟩) | q
 . exact .inl (.inl (by rw[ak (λz=>by rw[z,h] at q;cases q;rcases ho with ⟨_,e⟩ | ⟨_,e⟩ <;> cases e)];exact q))
 . exact .inl (.inr ⟨u,by rw[ak (λz=>by rw[z,h] at q;cases q;rcases ho with ⟨_,e⟩ | ⟨_,e⟩ <;> cases e)];exact q⟩)
 . exact .inr q
theorem bJ.off {K:W.Frag}{o':HO}(q:bJ K H vs es)(h:H l=some o)(ho:(∃ xs,o=.lst xs)∨∃ kvs,o=.dK kvs):bJ K (upd H l o') vs es:=by
 refine⟨q.1,λi oe e=>?_⟩;obtain⟨v,e1,e2⟩:=q.2 i oe e;refine⟨v,e1,?_⟩;cases oe with
 | none=>exact e2
 | some en =>
   obtain⟨p,rfl,qq,h1,h2⟩:=e2;exact⟨p,rfl,qq,aI.off h ho h1,aI.off h ho h2⟩
theorem bJ.set {K:W.Frag}{v:V}{j:Nat}(h:bJ K H vs es)(hv:iS K H v oe):bJ K H (vs.set j v) (es.set j oe):=by
 refine⟨by rw[aaZ,aaZ];exact h.1,λi o ho=>?_⟩;rw[List.getElem?_set] at ho ⊢;rw[h.1];by_cases e:j=i
 . rw[if_pos e] at ho ⊢;by_cases k:j<es.length
   . rw[if_pos k] at ho ⊢;cases ho
     exact⟨v,rfl,hv⟩
   . rw[if_neg k] at ho;cases ho
 . rw[if_neg e] at ho ⊢;exact h.2 i o ho
theorem Oz:∀ n:Nat,0<n->∃ i,n.testBit i=true/\Bt.wo n (n - 1)=2 ^ i:=by
 intro n
 induction n using Nat.strongRecOn with
 | _ n ih =>
   intro hn;rcases Nat.mod_two_eq_zero_or_one n with hm | hm
   . obtain⟨i, h1, h2⟩ := ih (n / 2) (by omega) (by omega);refine⟨i+1,by rw[ab7];exact h1,?_⟩;have hand:n &&& (n - 1)=2*((n/2) &&& (n/2 - 1)):=by
       apply abp;intro k;cases k with
       | zero=>rw[aaS,ab6,ab6,ab6];simp[hm]
       | succ k =>
         rw[aaS,ab7,ab7,ab7,show 2*((n/2) &&& (n/2 - 1))/2=(n/2) &&& (n/2 - 1) from by omega,aaS,show(n - 1)/2=n/2 - 1 from by omega]
     unfold Bt.wo at h2 ⊢;rw[hand,Nat.pow_succ];have V1:(n/2) &&& (n/2 - 1)<=n/2:=acM;omega
   . refine⟨0, by rw[ab6]; simp[hm], ?_⟩;have hand:n &&& (n - 1)=n - 1:=by
       apply abp;intro k;cases k with
       | zero=>rw[aaS,ab6,ab6];simp;omega
       | succ k =>
         rw[aaS,ab7,ab7,show(n - 1)/2=n/2 from by omega,Bool.and_self]
     unfold Bt.wo;rw[hand];omega
theorem Mi (h : 0<s):∃ i:Nat,lowP s=i/\s.toNat.testBit i=true:=by
 obtain⟨n,rfl⟩:∃ n:Nat,s=(n:Int):=⟨s.toNat,by lia⟩
 obtain⟨i,h1,h2⟩:=Oz n (by lia);exact⟨i,MB (by lia) h2,h1⟩
def Hd (s h:Int)(bx:Nat->Option Int)(pl:List Int)(n v:Int):Prop:=0<s/\∀ i:Nat,s.toNat.testBit i=true->(i:Int)<8+h/\(i<8->bx i=some v)/\(8<=i->gI pl (n+i - 8)=v)
structure Ki (e:Ent)(bx:Nat->Option Int)(pl:List Int)(c:bK):Prop where
 b:Hd e.b e.h bx pl c.n c.r
 v4:Hd e.v4 e.h bx pl c.n c.a
 v5:Hd e.v5 e.h bx pl c.n c.b
 v6:Hd e.v6 e.h bx pl c.n c.c
def gc (bs:List Int)(i:Nat):Option Int:=some (gI bs (i:Int))
def oP (c:bK)(i:Nat):Option Int:=if i=4 then some c.a else if i=5 then some c.b else if i=6 then some c.c else none
def J5 (es:List (Option Ent))(pl:List Int):Int->(Nat->Option Int)->Int->List bK->Prop
 | at',_,_,[]=>at'=es.length
 | at',bx,n,c::cs=>∃ e,(0<=at'/\at'<es.length)/\es[at'.toNat]?.join=some e/\0<=e.h/\0<=c.n/\c.n=n - e.h/\Ki e bx pl c/\J5 es pl c.r (oP c) c.n cs
variable {bx:Nat->Option Int}
theorem LZ {v:Int}{pl:List Int}{kn:List V}(H:Hd s h bx pl n v)(h0 : 0<=h)(n0 : 0<=n)(hl:n+h<=pl.length)(hk:∀ i,i<8->∀ v,bx i=some v->kn[i]? = some (.int v)) :
   br s kn ((pl.take (n+h).toNat).drop ((((pl.take (n+h).toNat).length:Int) - h).toNat))=.int v:=by
 obtain⟨hs,hb⟩:=H;obtain⟨i,e,t⟩:=Mi hs;obtain⟨h1,h2,h3⟩:=hb i t;have S7:(pl.take (n+h).toNat).length=(n+h).toNat:=by rw[aaA];lia
 unfold br;rw[if_neg (by lia),e];by_cases h8:i<8
 . rw[if_pos (by lia), show((i : Int)).toNat = i from by lia, aar, hk i h8 v (h2 h8)];rfl
 . have e1 : (((n + h).toNat : Int) - h).toNat = n.toNat := by rw [aa1 (Int.add_nonneg n0 h0), Int.add_sub_cancel]
   have i8:(0:Int)<=(i:Int) - 8:=by lia
   have e2:n.toNat+((i:Int) - 8).toNat=(n+(i:Int) - 8).toNat:=by rw[<- Int.toNat_add n0 i8,Int.add_sub_assoc]
   have e3:n.toNat+((i:Int) - 8).toNat<(n+h).toNat:=by rw[Int.toNat_add n0 h0];exact Nat.add_lt_add_left ((Int.toNat_lt' (by lia)).mpr (by rw[aa1 h0];lia)) _
   rw[if_neg (by lia),S7,if_pos (by rw[abz,S7];lia)];have h4:=h3 (by lia);unfold gI at h4 ⊢;rw[aar] at h4 ⊢;rw[List.getElem?_drop,List.getElem?_take,e1,if_pos e3,e2,h4]
theorem AX {pl:List Int}:∀ (cs:List bK) (f:Nat) (at':Int) (bx:Nat->Option Int) (kn:List V) (n:Int),J5 es pl at' bx n cs->cs.length<=f->n<=pl.length->(∀ i,i<8->∀ v,bx i=some v->kn[i]? = some (.int v))->bp es f at' kn (pl.take n.toNat)=(cs,none)
 | [],f,at',bx,kn,n,h,_,_,_=>xE h
 | c::cs,0,_,_,_,_,_,hf,_,_=>by cases hf
 | c :: cs, f + 1, at', bx, kn, n, h, hf, hn, hk => by
   obtain⟨e,⟨a0,a1⟩,he,eh,cn,en,F,rest⟩:=h;have n1:n=c.n+e.h:=by lia
   have S7:((pl.take n.toNat).length:Int)=n:=by rw[aaA];lia
   have lk:∀ {s v:Int},Hd s e.h bx pl c.n v->br s kn ((pl.take n.toNat).drop ((((pl.take n.toNat).length:Int) - e.h).toNat))=.int v:=λ{s v} q=>by
     have z:=LZ q eh cn (by lia) hk;rw[<- n1] at z;exact z
   have hs:dX es at' kn (pl.take n.toNat)=some c:=by
     unfold dX;rw[if_pos ⟨a0,a1⟩];have hg:es.getD at'.toNat none=some e:=by
       rw[aar];cases hx:es[at'.toNat]? with
       | none=>rw[hx] at he;cases he
       | some o=>rw[hx] at he;exact he
     rw[hg];show(if 0<=e.h/\e.h<=((pl.take n.toNat).length:Int) then gJ e kn (pl.take n.toNat) else none)=some c;rw[if_pos ⟨eh,by lia⟩];unfold gJ;rw[lk F.b,lk F.v4,lk F.v5,lk F.v6];show some (bK.mk c.r c.a c.b c.c (((pl.take n.toNat).length:Int) - e.h))=some c;rw[S7,<- en]
   have ih:=AX cs f c.r (oP c) (ib c) c.n rest (Nat.le_of_succ_le_succ hf) (by lia) (λi hi v hv=>by
     unfold oP at hv;split at hv
     . rename_i z;subst z;cases hv;rfl
     split at hv
     . rename_i z;subst z;cases hv;rfl
     split at hv
     . rename_i z;subst z;cases hv;rfl
     cases hv)
   rw[yf (by lia) hs,List.take_take,show min c.n.toNat n.toNat=c.n.toNat from by lia,ih]
theorem MP (L:Lb rs es ls)(hn:∀ t,some t∈es->t.nn):∀ oe∈es,KJ oe:=by
 intro oe ho e he;subst he;obtain⟨i,hi,e2⟩:=List.getElem_of_mem ho;have hir:i<rs.length:=by rw[<- L.len];exact hi
 have h:=L.own i rs[i] e (aaa hir) (by rw[aaa hi,e2];rfl);unfold ek at h;by_cases hw:du e=true
 . rw[if_pos hw] at h;cases h
 . refine⟨hn e ho,?_⟩;unfold du at hw;simp only[Bool.or_eq_true,decide_eq_true_eq,not_or] at hw
   lia
structure Fg (H H':Hp):Prop where
 s:ao H H'
theorem aN.set {ok:Rw->Prop}{u:V}{j:Nat}(h:aN ok H us)(k:h_ H u r)(o:ok r):aN ok H (us.set j u):=λv hv=>by
 rcases acU hv with z | z
 . exact h v z
 . rw[z];exact⟨r,k,o⟩
def gT (s:Nat)(h:Int)(bx:Nat->Option Int)(pl:List Int)(n v:Int):Prop:=∀ i:Nat,s.testBit i=true->(i:Int)<8+h/\(i<8->bx i=some v)/\(8<=i->gI pl (n+i - 8)=v)
structure Ri (k:Nat->Nat)(e:Ent)(bx:Nat->Option Int)(pl:List Int)(c:bK):Prop where
 b:gT (k e.b.toNat) e.h bx pl c.n c.r
 v4:gT (k e.v4.toNat) e.h bx pl c.n c.a
 v5:gT (k e.v5.toNat) e.h bx pl c.n c.b
 v6:gT (k e.v6.toNat) e.h bx pl c.n c.c
def rW (rs:List Rw)(es:List (Option Ent))(pl:List Int):bK->List bK->Prop
 | c,[]=>c.r=es.length
 | c,c2::cs=>∃ (t:Int) (e:Ent),(1<=c.r/\c.r<=es.length)/\rs[(c.r - 1).toNat]? = some (.call t)/\es[(c.r - 1).toNat]?.join=some e/\0<=e.h/\0<=c2.n/\c2.n=c.n - e.h/\Ri (λs=>Bt.wo s 143) e (oP c) pl c2/\rW rs es pl c2 cs
def Act (rs:List Rw)(es:List (Option Ent))(pl:List Int)(at':Int)(bs:List Int):List bK->Prop
 | []=>at'=es.length
 | c::cs=>∃ e,(0<=at'/\at'<es.length)/\es[at'.toNat]?.join=some e/\0<=e.h/\0<=c.n/\c.n=pl.length - e.h/\Ki e (gc bs) pl c/\rW rs es pl c cs
theorem gT.sub {s t:Nat}{bx':Nat->Option Int}{pl:List Int}{v:Int}(H:gT s h bx pl n v)(k:Sub t s)(m:∀ i v,bx i=some v->bx' i=some v):gT t h bx' pl n v:=λi hi=>by
 obtain⟨h1,h2,h3⟩:=H i (Sub.iff.mp k i hi);exact⟨h1,λz=>m i v (h2 z),h3⟩
theorem gT.hd {v:Int}{pl:List Int}(H:gT s.toNat h bx pl n v)(p : 0<s):Hd s h bx pl n v:=⟨p,H⟩
theorem FY (L:Lb rs es ls){i:Nat}(he:es[i]?.join=some e):(0<=e.h/\e.h<=4000)/\0<e.b/\0<e.v4/\0<e.v5/\0<e.v6:=by
 have hi:i<es.length:=by
   by_cases h:i<es.length
   . exact h
   . rw[abS (by omega)] at he;cases he
 have hir:i<rs.length:=by rw[<- L.len];exact hi
 have h:=L.own i rs[i] e (aaa hir) he;unfold ek at h;by_cases hw:du e=true
 . rw[if_pos hw] at h;cases h
 . unfold du at hw;simp only[Ent.dI,abA,List.any_nil,jK,Bool.or_eq_true,decide_eq_true_eq,not_or,adO] at hw;exact⟨⟨Int.not_lt.mp hw.1,Int.not_lt.mp hw.2.1⟩,Int.not_le.mp hw.2.2.1.1,Int.not_le.mp hw.2.2.2.1.1,Int.not_le.mp hw.2.2.2.2.1.1,Int.not_le.mp hw.2.2.2.2.2.1⟩
theorem wR (L:Lb rs es ls){x:Int}{bx bx':Nat->Option Int}{pl:List Int}(w:fE r e x es=none)(hh:r.aE e.h=some h)(F:∀ t:Ent,t.h=h->gT (r.keep e.b.toNat e.h) t.h bx' pl c.n c.r/\gT (r.keep e.v4.toNat e.h) t.h bx' pl c.n c.a/\gT (r.keep e.v5.toNat e.h) t.h bx' pl c.n c.b/\gT (r.keep e.v6.toNat e.h) t.h bx' pl c.n c.c) :
   (0<=x/\x<es.length)/\∃ t,es[x.toNat]?.join=some t/\t.h=h/\0<=t.h/\Ki t bx' pl c:=by
 obtain⟨x0,x1,t,ht,hth,hl⟩:=N9 w;have e1:t.h=h:=by rw[hh] at hth;cases hth;rfl
 obtain⟨s1,s2,s3,s4⟩:=LW hl;obtain⟨⟨t0,_⟩,p1,p2,p3,p4⟩:=FY L ht;obtain⟨k1,k2,k3,k4⟩:=F t e1;exact⟨⟨x0,x1⟩,t,ht,e1,t0,(k1.sub s1 λ_ _ z=>z).hd p1,(k2.sub s2 λ_ _ z=>z).hd p2,(k3.sub s3 λ_ _ z=>z).hd p3,(k4.sub s4 λ_ _ z=>z).hd p4⟩
theorem CT {pl:List Int}(L:Lb rs es ls):∀ (cs:List bK) (c:bK),rW rs es pl c cs->J5 es pl c.r (oP c) c.n cs
 | [],c,h=>h
 | c2 :: cs, c, h => by
   obtain⟨t,e,⟨r1,r2⟩,hr,he,e0,n0,hn,F,rest⟩:=h;have w:=L.way _ _ e c.r hr he (by
     show c.r∈[((c.r - 1).toNat:Int)+1];rw[List.mem_singleton];lia)
   obtain⟨b1,t2,UW,hh,h0,F2⟩:=wR L w (h:=e.h) (bx:=oP c) (bx':=oP c) (pl:=pl) (c:=c2) rfl (λt2 h2=>by rw[h2];exact⟨F.b,F.v4,F.v5,F.v6⟩);exact⟨t2,b1,UW,h0,n0,by lia,F2,CT L cs c2 rest⟩
theorem Li {pl bs:List Int}(L:Lb rs es ls):∀ {cs:List bK},Act rs es pl at' bs cs->J5 es pl at' (gc bs) pl.length cs
 | [],h=>h
 | c :: cs, h => by
   obtain⟨e,b1,he,e0,n0,hn,F,S⟩:=h;exact⟨e,b1,he,e0,n0,hn,F,CT L cs c S⟩
theorem gT.below {s:Nat}{v m:Int}{pl:List Int}(H:gT s h bx pl n v)(n0 : 0<=n)(hm:n+h<=m)(k:∀ j:Int,0<=j->j<m->gI Tx j=gI pl j):gT s h bx Tx n v:=λi hi=>by
 obtain⟨h1,h2,h3⟩:=H i hi;exact⟨h1,h2,λz=>by rw[k _ (by lia) (by lia)];exact h3 z⟩
theorem qi {pl:List Int}:∀ (cs:List bK) (c:bK),(∀ j:Int,0<=j->j<c.n->gI Tx j=gI pl j)->rW rs es pl c cs->rW rs es Tx c cs
 | [],_,_,h=>h
 | c2 :: cs, c, k, h => by
   obtain⟨t,e,r1,hr,he,e0,n0,hn,F,rest⟩:=h;exact⟨t,e,r1,hr,he,e0,n0,hn,⟨F.b.below n0 (by lia) k,F.v4.below n0 (by lia) k,F.v5.below n0 (by lia) k,F.v6.below n0 (by lia) k⟩,qi cs c2 (λj j0 j1=>k j j0 (by lia)) rest⟩
theorem KO {d n' v q:Int}{bs pl:List Int}(ok:r.ok)(h0 : 0<=h)(hl:h<=pl.length)(h8:bs.length=8)(hd:r.aE h=some d)(hr:r.run n bs pl=some (n',Uw,Tx))(hq:q=pl.length - h)(H:Hd s h (gc bs) pl q v) :
   gT (r.keep s.toNat h) d (gc Uw) Tx q v:=by
 have K:=uM (s:=s.toNat) (v:=v) ok h0 hl h8 hd hr (λi hi=>by
   obtain⟨h1,h2,h3⟩:=H.2 i hi;refine⟨h1,?_⟩;unfold fq;split
   . have z := h2 (by lia);unfold gc at z;injection z
   . rw[<- hq];exact h3 (by lia))
 intro i hi;obtain⟨b1,b2⟩:=K.bits i hi;have S7:=K.len;unfold fq at b2;refine⟨b1,λz=>?_,λz=>?_⟩
 . rw[if_pos (by lia)] at b2;unfold gc;rw[b2]
 . rw[if_neg (by lia), S7, <- hq] at b2;exact b2
theorem Mh {pl:List Int}{k:Nat}(h:Tx.take k=pl.take k)(h0 : 0<=j)(h1:j<k):gI Tx j=gI pl j:=by
 rw[<- y7 (xs:=Tx) h0 h1,h,y7 h0 h1]
variable {cs:List bK}
theorem Hi {pl bs:List Int}{nx:Int}(L:Lb rs es ls)(A:Act rs es pl at' bs cs)(hr:rs[at'.toNat]? = some r)(a0 : 0<=at')(ok:r.ok)(h8:bs.length=8)(c1:r.isCall=false)(c2:r.d7=false)(c3:r.dR=false)(run:r.run at' bs pl=some (nx,Uw,Tx)):Act rs es Tx nx Uw cs/\(0<=nx/\nx<es.length):=by
 cases cs with
 | nil =>
   have e:at'=es.length:=A
   have:at'.toNat<rs.length:=(List.getElem?_eq_some_iff.mp hr).1
   have:=L.len
   lia
 | cons c cs =>
   obtain⟨e,b1,he,e0,n0,hn,F,S⟩:=A;have Th:=L.own _ r e hr he;have hd:∃ d,r.aE e.h=some d:=by
     unfold ek at Th;cases hx:r.aE e.h with
     | some d=>exact⟨d,rfl⟩
     | none =>
       rw[hx] at Th;split at Th
       . cases Th
       . rw[if_pos rfl] at Th;cases Th
   obtain⟨d,hd⟩:=hd;have hgo:nx∈r.dz ((at'.toNat:Nat):Int):=by
     rw[show((at'.toNat:Nat):Int)=at' from by lia]
     cases r <;> simp only[Rw.run,Rw.dz,Rw.isCall,Rw.d7,Rw.dR] at run c1 c2 c3 ⊢ <;> first
       | (cases run;simp;done) | (cases run;split <;> simp;done) | (split at run <;> cases run <;> simp;done) | (cases c1;done) | (cases c2;done) | (cases c3;done)
   have w:=L.way _ r e nx hr he hgo;have K:=uM (s:=0) (v:=0) ok e0 (by lia) h8 hd run (λi hi=>by rw[acD] at hi;cases hi);have hk:=λ{s v:Int} (H:Hd s e.h (gc bs) pl c.n v)=>KO ok e0 (by lia) h8 hd run hn H;obtain⟨x1,t,ht,hth,t0,F2⟩:=wR L w hd (bx:=gc bs) (bx':=gc Uw) (pl:=Tx) (c:=c) (λt h2=>by rw[h2];exact⟨hk F.b,hk F.v4,hk F.v5,hk F.v6⟩);have S7:=K.len;have hbel:=K.below;refine⟨⟨t,x1,ht,t0,n0,by lia,F2,qi cs c (λj j0 j1=>Mh hbel j0 (by lia)) S⟩,x1⟩
theorem BL {s i:Nat}(h:(Bt.wo s 143).testBit i=true):s.testBit i=true/\(i=4∨i=5∨i=6∨8<=i):=by
 rw[Bt.jF,aaM,ac1] at h;refine⟨h.1,?_⟩;by_cases h8 : 8<=i
 . exact .inr (.inr (.inr h8))
 . have h2 := h.2;rcases(show i=0∨i=1∨i=2∨i=3∨i=4∨i=5∨i=6∨i=7 by lia) with z | z | z | z | z | z | z | z <;> subst z <;> first | (exact absurd h2 (by decide)) | lia
theorem uJ {k:Nat}{v:Int}{pl:List Int}(h0 : 0<=h)(k8:k<8)(e:bx k=some v):Hd (((2 ^ k:Nat):Int)) h bx pl n v:=by
 refine⟨by have:=Nat.two_pow_pos k;omega,λi hi=>?_⟩;rw[aaD,abM] at hi;have hi:k=i:=of_decide_eq_true hi;subst hi;exact⟨by omega,λ_=>e,λz=>by omega⟩
theorem HM {pl bs:List Int}{t:Int}(L:Lb rs es ls)(A:Act rs es pl at' bs cs)(hr:rs[at'.toNat]? = some (.call t))(a0 : 0<=at')(h8:bs.length=8) :
   Act rs es pl t (sI bs 7 (at'+1)) (⟨at'+1,gI bs 4,gI bs 5,gI bs 6,pl.length⟩::cs)/\(0<=t/\t<es.length):=by
 cases cs with
 | nil =>
   have e:at'=es.length:=A
   have:at'.toNat<rs.length:=(List.getElem?_eq_some_iff.mp hr).1
   have:=L.len
   omega
 | cons c cs =>
   obtain⟨e,⟨b0,b1⟩,he,e0,n0,hn,F,S⟩:=A;obtain⟨t0,t1,ht⟩:=Ma (L.Sk _ t e hr he);have ne:∀ i:Int,0<=i->i≠7->gI (sI bs 7 (at'+1)) i=gI bs i:=λi i0 i7=>tD i0 (by decide) i7;have F0:Ki ⟨0,128,16,32,64⟩ (gc (sI bs 7 (at'+1))) pl ⟨at'+1,gI bs 4,gI bs 5,gI bs 6,pl.length⟩ :=
     ⟨uJ (k := 7) (by decide) (by decide) (by show some _ = some _; rw [show ((7 : Nat) : Int) = 7 from rfl, mZ (by decide) (by rw [h8]; decide)]),
      uJ (k:=4) (by decide) (by decide) (by show some _=some _;rw[show((4:Nat):Int)=4 from rfl,ne 4 (by decide) (by decide)]),
      uJ (k:=5) (by decide) (by decide) (by show some _=some _;rw[show((5:Nat):Int)=5 from rfl,ne 5 (by decide) (by decide)]),
      uJ (k:=6) (by decide) (by decide) (by show some _=some _;rw[show((6:Nat):Int)=6 from rfl,ne 6 (by decide) (by decide)])⟩
   have hk:∀ {s v:Int},Hd s e.h (gc bs) pl c.n v->gT (Bt.wo s.toNat 143) e.h (oP ⟨at'+1,gI bs 4,gI bs 5,gI bs 6,pl.length⟩) pl c.n v:=λ{s v} H i hi=>by
     obtain⟨k1,k2⟩:=BL hi;obtain⟨h1,h2,h3⟩:=H.2 i k1;refine⟨h1,λz=>?_,h3⟩;have z2:=h2 z;rcases k2 with rfl | rfl | rfl | k2
     . exact z2
     . exact z2
     . exact z2
     . omega
   refine⟨⟨⟨0,128,16,32,64⟩,⟨t0,t1⟩,ht,by decide,by show(0:Int)<=pl.length;omega,by show(pl.length:Int)=pl.length - 0;omega,F0,?_⟩,t0,t1⟩;refine⟨t,e,⟨by show 1<=at'+1;omega,by show at'+1<=(es.length:Int);omega⟩,?_,?_,e0,n0,hn,⟨hk F.b,hk F.v4,hk F.v5,hk F.v6⟩,S⟩
   . show rs[(at' + 1 - 1).toNat]? = _;rw[show at'+1 - 1=at' from by omega];exact hr
   . show es[(at' + 1 - 1).toNat]?.join = _;rw[show at'+1 - 1=at' from by omega];exact he
theorem zS {pl bs:List Int}{x:Int}(L:Lb rs es ls)(S:rW rs es pl c cs)(hx:x=c.r∨(c.r - 1∈ls.map (·.1)/\x=lv ls (c.r - 1)/\c.r≠es.length))(hn:(pl.length:Int)=c.n)(h4:gI bs 4=c.a)(h5:gI bs 5=c.b)(h6:gI bs 6=c.c):Act rs es pl x bs cs:=by
 have mono:∀ i v,oP c i=some v->gc bs i=some v:=λi v hv=>by
   unfold oP at hv;unfold gc;split at hv
   . rename_i z;subst z;rw[<- hv,<- h4];rfl
   split at hv
   . rename_i z;subst z;rw[<- hv,<- h5];rfl
   split at hv
   . rename_i z;subst z;rw[<- hv,<- h6];rfl
   cases hv
 cases cs with
 | nil =>
   rcases hx with rfl | ⟨_,_,hx⟩
   . exact S
   . exact absurd S hx
 | cons c2 cs =>
   obtain⟨t,e,⟨r1,r2⟩,hr,he,e0,n0,hn2,F,rest⟩:=S;have w:fE (.call t) e x es=none:=by
     rcases hx with rfl | ⟨hk,rfl,_⟩
     . exact L.way _ _ e c.r hr he (by
         show c.r∈[((c.r - 1).toNat:Int)+1];rw[List.mem_singleton];lia)
     . have hl := L.land _ hk;unfold mS at hl;rw[if_pos ⟨by lia,by lia⟩,hr,he] at hl;have hl:y4 (.call t) (some e) (lv ls (c.r - 1)) es=none:=hl;have hl:(if (ek (.call t) e).isSome=true then none else fE (.call t) e (lv ls (c.r - 1)) es)=none:=hl;rw[L.own _ _ e hr he] at hl;exact hl
   obtain⟨b1,t2,UW,hh,h0,F2⟩:=wR L w (h:=e.h) (bx:=oP c) (bx':=gc bs) (pl:=pl) (c:=c2) rfl (λt2 h2=>by rw[h2];exact⟨F.b.sub (Sub.iff.mpr λ_ z=>z) mono,F.v4.sub (Sub.iff.mpr λ_ z=>z) mono,F.v5.sub (Sub.iff.mpr λ_ z=>z) mono,F.v6.sub (Sub.iff.mpr λ_ z=>z) mono⟩);exact⟨t2,b1,UW,h0,n0,by lia,F2,rest⟩
def toC (c:Cl):bK:=⟨c.1,c.2.1,c.2.2.1,c.2.2.2.1,c.2.2.2.2⟩
def MS.bk (S:MS):List bK:=(S.calls.map toC).reverse
def iR (S:MS)(ls:List (Int×Int)):Rw->List bK
 | .call _=>⟨S.av+1,gI S.held 4,gI S.held 5,gI S.held 6,S.cells.length⟩::S.bk
 | .back _=>S.bk.drop 1
 | .drop _=>match S.bk.findIdx? (landAt S.rows.length (aw ls)) with | none=>S.bk | some i=>S.bk.drop (i+1)
 | _=>S.bk
structure Run (S:MS)(es:List (Option Ent))(ls:List (Int×Int)):Prop where
 lb:Lb S.rows es ls
 act:Act S.rows es S.cells S.av S.held S.bk
 nf:S.state ≠ "fault"
theorem F4 {pl:List Int}:∀ (cs:List bK) (c0:bK) (k:Nat) (c:bK),rW rs es pl c0 cs->cs[k]? = some c->rW rs es pl c (cs.drop (k+1))/\0<=c.n/\c.n<=c0.n
 | [],_,_,_,_,h=>by cases h
 | c2 :: cs, c0, 0, c, S, h => by
   obtain⟨t,e,r1,hr,he,e0,n0,hn,F,rest⟩:=S;cases h
   exact⟨rest,n0,by lia⟩
 | c2 :: cs, c0, k + 1, c, S, h => by
   obtain⟨t,e,r1,hr,he,e0,n0,hn,F,rest⟩:=S;obtain⟨h1,h2,h3⟩:=F4 cs c2 k c rest h;exact⟨h1,h2,by lia⟩
theorem OH {pl bs:List Int}:∀ (cs:List bK) (k:Nat) (c:bK),Act rs es pl at' bs cs->cs[k]? = some c->rW rs es pl c (cs.drop (k+1))/\0<=c.n/\c.n<=pl.length
 | [],_,_,_,h=>by cases h
 | c0 :: cs, k, c, A, h => by
   obtain⟨e,b1,he,e0,n0,hn,F,S⟩:=A;cases k with
   | zero=>cases h;exact⟨S,n0,by lia⟩
   | succ k =>
     obtain⟨h1,h2,h3⟩:=F4 cs c0 k c S h;exact⟨h1,h2,by lia⟩
theorem uO (h:n=aS∨(0<=n/\n<aS)):aK aS n ≠ "fault":=by
 unfold aK;rcases h with h | h
 . rw[if_pos h];nofun
 . by_cases e:n=aS
   . rw[if_pos e];nofun
   . rw[if_neg e,if_pos h];nofun
theorem zP {pl bs:List Int}(A:Act rs es pl at' bs cs):at'=es.length∨(0<=at'/\at'<es.length):=by
 cases cs with
 | nil=>exact .inl A
 | cons c cs=>obtain⟨e,b1,_⟩:=A;exact .inr b1
theorem w_ (R:Run S es ls)(O:c5 S)(hc:S.calls.length<=5000):bp es 5000 S.av (S.held.map V.int) S.cells=(S.bk,none):=by
 have h:=AX S.bk 5000 S.av (gc S.held) (S.held.map V.int) S.cells.length (Li R.lb R.act) (by unfold MS.bk;rw[aa7,aac];exact hc) (acJ _) (λi hi v hv=>by
   unfold gc at hv;cases hv
   rw[aah];have h8:=O.h8;rw[aaa (by lia)];show some (V.int _)=some (V.int _);unfold gI;rw[aar,aaD,aaa (by lia)];rfl)
 rwa [aaD,aa0] at h
theorem CP (k:Nat):((S.calls.take (S.calls.length - k)).map toC).reverse=S.bk.drop k:=by
 unfold MS.bk;rw[List.map_take,<- aac (f:=toC) (as:=S.calls),List.reverse_take];by_cases h:k<=(S.calls.map toC).length
 . rw[show(S.calls.map toC).length - ((S.calls.map toC).length - k)=k from by lia]
 . rw[show(S.calls.map toC).length - ((S.calls.map toC).length - k)=(S.calls.map toC).length from by lia,List.drop_eq_nil_of_le (by rw[aa7];lia),List.drop_eq_nil_of_le (by rw[aa7];lia)]
theorem Il (R:Run S es ls)(O:c5 S)(hs:S.state = "runs")(hr:S.rows[S.av.toNat]? = some r)(c1:r.isCall=false)(c2:r.d7=false)(c3:r.dR=false)(hg:∀ m,r=.grow m->(S.cells.length:Int)+m<=4000) :
   ∃ nx Uw Tx,r.run S.av S.held S.cells=some (nx,Uw,Tx)/\S.bU r={ S with av:=nx,held:=Uw,cells:=Tx,state:=aK S.rows.length nx }/\Run (S.bU r) es ls:=by
 have aA:=(O.ok r (aak hr)).1;have A:=R.act;obtain⟨c,cs,hb⟩:∃ c cs,S.bk=c::cs:=by
   cases hb:S.bk with
   | nil =>
     rw[hb] at A;have e:S.av=es.length:=A
     have:=O.q_ hs
     have:=R.lb.len
     lia
   | cons c cs=>exact⟨c,cs,rfl⟩
 have Tn:∃ nx Uw Tx,r.run S.av S.held S.cells=some (nx,Uw,Tx):=by
   rw[hb] at A;obtain⟨e,b1,he,e0,n0,hn,F,Ss⟩:=A;have Th:=R.lb.own _ r e hr he;have hd:r.aE e.h≠none:=λhx=>by
     unfold ek at Th;rw[hx] at Th;split at Th
     . cases Th
     . rw[if_pos rfl] at Th;cases Th
   cases r with
   | grow m=>exact⟨_,_,_,by simp only[Rw.run];rw[if_neg (by have:=hg m rfl;lia)]⟩
   | shrink m =>
     simp only[Rw.aE] at hd;have hm : ¬ e.h<m:=λz=>hd (if_pos z);exact⟨_,_,_,by simp only[Rw.run];rw[if_neg (by lia)]⟩
   | put b k =>
     simp only[Rw.aE] at hd;have hm : ¬ e.h<=k:=λz=>hd (if_pos z);exact⟨_,_,_,by simp only[Rw.run];rw[if_neg (by lia)]⟩
   | get b k =>
     simp only[Rw.aE] at hd;have hm : ¬ e.h<=k:=λz=>hd (if_pos z);exact⟨_,_,_,by simp only[Rw.run];rw[if_neg (by lia)]⟩
   | drop b=>cases c3
   | _=>exact⟨_,_,_,rfl⟩
 obtain⟨nx,Uw,Tx,Tn⟩:=Tn;obtain⟨A2,b2⟩:=Hi R.lb A hr O.fJ aA O.h8 c1 c2 c3 Tn;have VL:aK S.rows.length nx ≠ "fault":=uO (by rw[<- R.lb.len];exact .inr b2);have hbo:S.l6 r=S.calls:=by
   unfold MS.l6;rw[c1,c2];rfl
 have Wd:S.bU r={ S with av:=nx,held:=Uw,cells:=Tx,state:=aK S.rows.length nx }:=by
   unfold MS.bU;rw[Tn];show(if aK S.rows.length nx = "fault" then _ else _)=_;rw[if_neg VL,hbo]
 refine⟨nx,Uw,Tx,Tn,Wd,?_⟩;rw[Wd];exact⟨R.lb,A2,VL⟩
theorem Lm {t:Int}(R:Run S es ls)(O:c5 S)(hr:S.rows[S.av.toNat]? = some (.call t)):Run (S.bU (.call t)) es ls/\(S.bU (.call t)).bk=iR S ls (.call t)/\(S.bU (.call t)).cells=S.cells:=by
 obtain⟨A2,b2⟩:=HM R.lb R.act hr O.fJ O.h8;have VL:aK S.rows.length t ≠ "fault":=uO (by rw[<- R.lb.len];exact .inr b2);have Wd:S.bU (.call t)={ S with av:=t,held:=sI S.held 7 (S.av+1),calls:=S.calls++[(S.av+1,gI S.held 4,gI S.held 5,gI S.held 6,(S.cells.length:Int))],state:=aK S.rows.length t }:=by
   unfold MS.bU;show(if aK S.rows.length t = "fault" then _ else _)=_;rw[if_neg VL];rfl
 rw[Wd];have hb:MS.bk { S with av:=t,held:=sI S.held 7 (S.av+1),calls:=S.calls++[(S.av+1,gI S.held 4,gI S.held 5,gI S.held 6,(S.cells.length:Int))],state:=aK S.rows.length t }=iR S ls (.call t):=by
   unfold MS.bk iR;rw[aaE,List.reverse_append];rfl
 exact⟨⟨R.lb,by rw[hb];exact A2,VL⟩,hb,rfl⟩
theorem qO {k:Nat}(p : 0<=s)(h:(aaJ s ((2 ^ k:Nat):Int) != 0)=true):s.toNat.testBit k=true:=by
 obtain⟨n,rfl⟩:=abc p;rw[gu] at h;rw[aaD];cases hb:n.testBit k with
 | true=>rfl
 | false =>
   rw[(CL n k).mpr hb] at h;cases h
theorem LD (R:Run S es ls)(O:c5 S)(hr:S.rows[S.av.toNat]? = some (.back b))(hb:S.bk=c::cs):gI S.held b=c.r/\gI S.held 4=c.a/\gI S.held 5=c.b/\gI S.held 6=c.c/\(S.cells.length:Int)=c.n/\S.bU (.back b)={ S with av:=c.r,calls:=S.calls.take (S.calls.length - 1),state:=aK S.rows.length c.r }/\(MS.bk { S with av:=c.r,calls:=S.calls.take (S.calls.length - 1),state:=aK S.rows.length c.r }=S.bk.drop 1)/\Act S.rows es S.cells c.r S.held cs/\aK S.rows.length c.r ≠ "fault":=by
 have A:=R.act;have aA:=(O.ok _ (aak hr)).1;rw[hb] at A;obtain⟨e,b1,he,e0,n0,hn,F,Ss⟩:=A;have Th:=R.lb.own _ _ e hr he;have hm:jt b e=true:=by
   unfold ek at Th;by_cases hw:du e=true
   . rw[if_pos hw] at Th;cases Th
   . rw [if_neg hw, if_neg (by simp [Rw.aE])] at Th;by_cases hm:jt b e=true
     . exact hm
     . have Th : (if jt b e = true then none else some Wt.back) = none := Th;rw[if_neg hm] at Th;cases Th
 unfold jt at hm;simp only[aaM,decide_eq_true_eq] at hm;obtain⟨h0,m1,m2,m3,m4⟩:=hm;obtain⟨_,p1,p2,p3,p4⟩:=FY R.lb he;have bx:∀ {s v:Int} {k:Nat},Hd s e.h (gc S.held) S.cells c.n v->s.toNat.testBit k=true->k<8->gI S.held (k:Int)=v:=λ{s v k} H t k8=>by
   have z:=(H.2 k t).2.1 k8;unfold gc at z;injection z
 have hbx : 0<=b/\b<=7:=aA;have e1:gI S.held b=c.r:=by
   have z:=bx F.b (qO (k:=b.toNat) (by lia) m1) (by lia)
   rwa [show((b.toNat:Nat):Int)=b from by lia] at z
 have e4:gI S.held 4=c.a:=bx F.v4 (qO (k:=4) (by lia) m2) (by decide);have e5:gI S.held 5=c.b:=bx F.v5 (qO (k:=5) (by lia) m3) (by decide);have e6:gI S.held 6=c.c:=bx F.v6 (qO (k:=6) (by lia) m4) (by decide);have A2:=zS (x:=c.r) (bs:=S.held) R.lb Ss (.inl rfl) (by lia) e4 e5 e6;have VL:aK S.rows.length c.r ≠ "fault":=uO (by rw[<- R.lb.len];exact zP A2);have Wd:S.bU (.back b)={ S with av:=c.r,calls:=S.calls.take (S.calls.length - 1),state:=aK S.rows.length c.r }:=by
   unfold MS.bU;show(if aK S.rows.length (gI S.held b) = "fault" then _ else _)=_;rw[e1,if_neg VL];rfl
 exact⟨e1,e4,e5,e6,by lia,Wd,CP (S:=S) 1,A2,VL⟩
theorem K8 (R:Run S es ls)(O:c5 S)(hs:S.state = "runs")(hr:S.rows[S.av.toNat]? = some (.back b)):Run (S.bU (.back b)) es ls/\(S.bU (.back b)).bk=iR S ls (.back b)/\(S.bU (.back b)).cells=S.cells:=by
 have A:=R.act;obtain⟨c,cs,hb⟩:∃ c cs,S.bk=c::cs:=by
   cases hb:S.bk with
   | nil =>
     rw[hb] at A;have e:S.av=es.length:=A
     have:=O.q_ hs
     have:=R.lb.len
     omega
   | cons c cs=>exact⟨c,cs,rfl⟩
 obtain⟨_,_,_,_,_,Wd,VQ,A2,VL⟩:=LD R O hr hb;rw[Wd];exact⟨⟨R.lb,by rw[VQ,hb];exact A2,VL⟩,VQ,rfl⟩
theorem IP (h:dN ls){k:Int}(e:(cP (aw ls) (.inl k)).isSome=true):k∈ls.map (·.1)/\cP (aw ls) (.inl k)=some (.int (lv ls k)):=by
 by_cases hm:k∈ls.map (·.1)
 . refine⟨hm,?_⟩;obtain⟨p,hp,rfl⟩:=List.mem_map.mp hm;obtain⟨h1,h2⟩:=g6 h.1 p hp;rw[h1,h2]
 . rw[iG hm] at e;cases e
theorem Fs (R:Run S es ls)(O:c5 S)(hc:S.calls.length<=5000)(hf:S.bk.findIdx? (landAt S.rows.length (aw ls))=none):S.ei es (aw ls) (.drop b)={ S with state:="dropped",dj:=.int (gI S.held b) }:=by
 have W:=w_ R O hc;exact zk (S:=S) (kvs:=aw ls) (v:=gI S.held b) (by rw[W]) (by rw[W];exact hf)
theorem Fe {b:Int}{i:Nat}(R:Run S es ls)(O:c5 S)(Tf:dN ls)(hc:S.calls.length<=5000)(hf:S.bk.findIdx? (landAt S.rows.length (aw ls))=some i) :
   ∃ c,S.bk[i]? = some c/\cP (aw ls) (.inl (c.r - 1))=some (.int (lv ls (c.r - 1)))/\(0<=c.n/\c.n<=S.cells.length)/\S.ei es (aw ls) (.drop b)=⟨S.rows,lv ls (c.r - 1),[gI S.held b,gI S.held 1,gI S.held 2,gI S.held 3,c.a,c.b,c.c,gI S.held 7],S.cells.take c.n.toNat,S.calls.take (S.calls.length - (i+1)),S.dj,aK S.rows.length (lv ls (c.r - 1))⟩ /\
     (S.ei es (aw ls) (.drop b)).bk=S.bk.drop (i+1)/\Run (S.ei es (aw ls) (.drop b)) es ls:=by
 have W:=w_ R O hc;have W2:(bp es 5000 S.av (S.held.map V.int) S.cells).2=none:=by rw[W]
 have W1:(bp es 5000 S.av (S.held.map V.int) S.cells).1=S.bk:=by rw[W]
 obtain⟨hi,hp,_⟩:=List.findIdx?_eq_some_iff_getElem.mp hf;have hci:S.bk[i]? = some S.bk[i]:=aaa hi;generalize S.bk[i]=c at hp hci;unfold landAt at hp;rw[aaM,decide_eq_true_eq] at hp;obtain⟨T9,hk⟩:=hp;obtain⟨hk1,UD⟩:=IP Tf hk;have e:=AN (S:=S) (kvs:=aw ls) (v:=gI S.held b) (i:=i) (c:=c) W2 (by rw[W1];exact hf) (by rw[W1];exact hci) UD;obtain⟨Ss,n0,n1⟩:=OH S.bk i c R.act hci;have S7:(S.cells.take c.n.toNat).length=c.n.toNat:=by rw[aaA];lia
 have Ss2:rW S.rows es (S.cells.take c.n.toNat) c (S.bk.drop (i+1)):=qi _ c (λj j0 j1=>y7 j0 (by lia)) Ss;have A2:=zS (x:=lv ls (c.r - 1)) (bs:=[gI S.held b,gI S.held 1,gI S.held 2,gI S.held 3,c.a,c.b,c.c,gI S.held 7]) R.lb Ss2 (.inr ⟨hk1,rfl,by rw[R.lb.len];exact T9⟩) (by rw[S7];lia) rfl rfl rfl;have VL:aK S.rows.length (lv ls (c.r - 1)) ≠ "fault":=uO (by rw[<- R.lb.len];exact zP A2);have e3:S.ei es (aw ls) (.drop b)=⟨S.rows,lv ls (c.r - 1),[gI S.held b,gI S.held 1,gI S.held 2,gI S.held 3,c.a,c.b,c.c,gI S.held 7],S.cells.take c.n.toNat,S.calls.take (S.calls.length - (i+1)),S.dj,aK S.rows.length (lv ls (c.r - 1))⟩:=by
   show S.dropped es (aw ls) (gI S.held b)=_;rw[e];unfold MS.landed;rw[if_neg VL]
 have VQ:(S.ei es (aw ls) (.drop b)).bk=S.bk.drop (i+1):=by rw[e3];exact CP (S:=S) (i+1)
 exact⟨c,hci,UD,⟨n0,n1⟩,e3,VQ,by rw[e3] at VQ ⊢;exact⟨R.lb,by rw[VQ];exact A2,VL⟩⟩
theorem Ll (R:Run S es ls)(O:c5 S)(Tf:dN ls)(hc:S.calls.length<=5000):Run (S.ei es (aw ls) (.drop b)) es ls/\(S.ei es (aw ls) (.drop b)).bk=iR S ls (.drop b)/\(S.ei es (aw ls) (.drop b)).cells.length<=S.cells.length:=by
 have hlb:iR S ls (.drop b)=match S.bk.findIdx? (landAt S.rows.length (aw ls)) with | none=>S.bk | some i=>S.bk.drop (i+1):=rfl
 cases hf:S.bk.findIdx? (landAt S.rows.length (aw ls)) with
 | none =>
   rw[Fs R O hc hf,hlb,hf];exact⟨⟨R.lb,R.act,by show("dropped" : Str) ≠ "fault";nofun⟩,rfl,aag _⟩
 | some i =>
   obtain⟨c,_,_,⟨n0,n1⟩,e3,VQ,R2⟩:=Fe (b:=b) R O Tf hc hf;refine⟨R2,by rw[VQ,hlb,hf],?_⟩;rw[e3];show(S.cells.take c.n.toNat).length<=_;rw[aaA];omega
theorem II (R:Run S es ls)(O:c5 S)(Tf:dN ls)(hs:S.state = "runs")(hr:S.rows[S.av.toNat]? = some r)(hc:S.calls.length<=5000)(hg:(S.cells.length:Int)+bN r<=4000)(g0 : 0<=bN r) :
   Run (S.bV es (aw ls)) es ls/\(S.bV es (aw ls)).bk=iR S ls r/\((S.bV es (aw ls)).cells.length:Int)<=S.cells.length+bN r:=by
 rw[tf hs hr];have plain:r.isCall=false->r.d7=false->r.dR=false->iR S ls r=S.bk->Run (S.ei es (aw ls) r) es ls/\(S.ei es (aw ls) r).bk=iR S ls r/\((S.ei es (aw ls) r).cells.length:Int)<=S.cells.length+bN r:=λc1 c2 c3 hl=>by
   rw[CM c3];obtain⟨nx,Uw,Tx,Tn,Wd,R2⟩:=Il R O hs hr c1 c2 c3 (λm e=>by rw[e] at hg;exact hg);refine⟨R2,by rw[Wd,hl];rfl,?_⟩;rw[Wd];show(Tx.length:Int)<=_;cases r with
   | drop b=>cases c3
   | grow m=>simp only[Rw.run] at Tn;split at Tn <;> cases Tn;rw[aab,aaC];show _<=(S.cells.length:Int)+m;have : 0<=m:=g0;omega
   | shrink m=>simp only[Rw.run] at Tn;split at Tn <;> cases Tn;rw[aaA];show _<=(S.cells.length:Int)+0;omega
   | put b k=>simp only[Rw.run] at Tn;split at Tn <;> cases Tn;rw[dw];show _<=(S.cells.length:Int)+0;omega
   | get b k=>simp only[Rw.run] at Tn;split at Tn <;> cases Tn;show _<=(S.cells.length:Int)+0;omega
   | _=>simp only[Rw.run] at Tn;cases Tn;show _<=(S.cells.length:Int)+0;omega
 cases r with
 | call t =>
   obtain⟨h1,h2,h3⟩:=Lm R O hr;exact⟨h1,h2,by show((S.bU (.call t)).cells.length:Int)<=S.cells.length+0;rw[h3];omega⟩
 | back b =>
   obtain⟨h1,h2,h3⟩:=K8 R O hs hr;exact⟨h1,h2,by show((S.bU (.back b)).cells.length:Int)<=S.cells.length+0;rw[h3];omega⟩
 | drop b =>
   obtain⟨h1,h2,h3⟩:=Ll (b:=b) R O Tf hc;exact⟨h1,h2,by show((S.ei es (aw ls) (.drop b)).cells.length:Int)<=S.cells.length+0;omega⟩
 | _=>exact plain rfl rfl rfl rfl
def IT:Sp:=λvs H Q _=>∃ c:Int,vs=[.int c]/\∀ v H',ao H H'->isVal v->Q (.int v) H'
def ka (cs:List bK)(aS:Int)(kvs:List (Key×V)):Int:=match cs.findIdx? (landAt aS kvs) with | none=>0 | some i=>(i:Int)+1
def qA:Sp:=λvs H Q _=>∃ (p d:Addr) (aS:Int) (us:List V) (cs:List bK) (kvs:List (Key×V)),vs=[.ref p,.ref d,.int aS]/\H p=some (.lst us)/\aZ H us cs/\us.length<=5000/\H d=some (.dK kvs)/\Q (.int (ka cs aS kvs)) H
theorem Hy {P:Program}{w:World}{X:Cx}:dH (eu P w) X (λ_ _ _=>False):=λ_ _ _ _ _ _ _ h=>by
 obtain⟨ea,C,od,H',_,_,z⟩:=h;exact z.elim
def hJ (K:W.Frag)(a:bG):Sp:=λvs H Q _=>∃ (m t lb pk pt:Addr) (S:MS) (es:List (Option Ent)) (ls:List (Int×Int)) (us:List V),vs=[.ref m,.ref t,.ref lb]/\cX a H m pk pt S/\c5 S/\TabAt K a H t pk es (aw ls)/\H lb=some (.lst us)/\aZ H us S.bk/\Run S es ls/\S.calls.length<=5000/\∀ H',ao H H'->Q (.bl true) H'
theorem QE (S:MS):S.bk.map mM=S.calls.reverse.map Nh:=by
 unfold MS.bk;rw[<- List.map_reverse,abd];rfl
def EN (oe:Option Ent):Prop:=∀ e,oe=some e->e.nn
def Rh (K:W.Frag):Sp:=λvs H Q _=>∃ (u:V) (oe:Option Ent) (c:Int),vs=[u,.int c]/\iS K H u oe/\KJ oe/\∀ u' oe' H',ao H H'->iS K H' u' oe'->EN oe'->Q u' H'
def MD (K:W.Frag)(a:bG)(H:Hp)(t:Addr)(rs:List Rw)(ls:List (Int×Int)):Prop:=∃ dt l d ev es,H t=some (.ins a.b3 dt (fQ l d))/\H l=some (.lst ev)/\H d=some (.dK (aw ls))/\bJ K H ev es/\es.length=rs.length/\∀ oe∈es,EN oe
def yW (K:W.Frag)(a:bG):Sp:=λvs H Q _=>∃ (a0 c d:Addr) (ns:List Int) (prs:List Addr) (rs:List Rw) (ls:List (Int×Int)),vs=[.ref a0,.ref c,.ref d]/\ar K H a0 (ns.map V.int)/\ns.length<=63/\H c=some (.lst (prs.map V.ref))/\bL a H prs rs/\(∀ r∈rs,r.ok/\r.here)/\1<=rs.length/\rs.length<=450/\dN ls/\H d=some (.dK (aw ls))/\(∀ H',ao H H'->Q .aC H')/\∀ t H',ao H H'->MD K a H' t rs ls->Q (.ref t) H'
theorem Ho (h:r.here):decide (V.str r.eU.1=V.str "call")=r.isCall:=by cases r <;> first | exact h.elim | kernel_rfl
theorem Fo (h:r.here):decide (V.str r.eU.1=V.str "back")=r.d7:=by cases r <;> first | exact h.elim | kernel_rfl
theorem E6 (h:r.here):decide (V.str r.eU.1=V.str "drop")=r.dR:=by cases r <;> first | exact h.elim | kernel_rfl
def pN (H:Hp)(us:List V)(rs:List Rw):Prop:=∀ (j:Nat) (u:V) (r:Rw),us[j]? = some u->rs[j]? = some r->h_ H u r
theorem pN.snoc {u:V}{i:Nat}(h:pN H us rs)(e:rs.length=i)(hu:us[i]? = some u)(td:h_ H u r):pN H us (rs++[r]):=λj u' r' h1 h2=>by
 by_cases hj:j<rs.length
 . rw[aas hj] at h2;exact h j u' r' h1 h2
 . have hje : j = rs.length := by
     have:=(List.getElem?_eq_some_iff.mp h2).1
     rw[aab] at this;have h9 : [r].length=1:=rfl
     lia
   subst hje;subst e;rw[hu] at h1;cases h1;rw[aaq (aag _),Nat.sub_self] at h2;cases h2;exact td
theorem pN.to (h:pN H us rs)(k:∀ b xs,H b=some (.tup xs)->H' b=some (.tup xs)):pN H' us rs:=λj u r h1 h2=>let ⟨p,e,z⟩:=h j u r h1 h2;⟨p,e,k _ _ z⟩
theorem FW (ls:List (Int×Int)):zX (aw ls):=λk v e=>by
 unfold cP at e;obtain⟨p,hp,rfl⟩:=Option.map_eq_some_iff.mp e;have hm:=List.mem_of_find?_eq_some hp;obtain⟨x,_,rfl⟩:=List.mem_map.mp hm;exact⟨_,rfl⟩
theorem aZ.ET:∀ {vs:List V} {cs:List bK} (k:Nat),aZ H vs cs->aZ H (vs.drop k) (cs.drop k)
 | _,_,0,h=>h
 | [],[],_+1,_=>aan
 | _::_,_::_,k+1,h=>aZ.ET k h.2
 | [],_::_,_+1,h=>h.elim
 | _::_,[],_+1,h=>h.elim
theorem va {k:Nat}{pl:List Int}{v:Int}(hk:k<8)(h0 : 0<=h)(e:bx k=some v):Hd ((2 ^ k:Nat):Int) h bx pl n v:=by
 refine⟨by have:=Nat.two_pow_pos k;omega,λi hi=>?_⟩;rw[aaD,abM] at hi;have e2:k=i:=by simpa using hi
 subst e2;exact⟨by omega,λ_=>e,λz=>by omega⟩
theorem FD {bs:List Int}(L:Lb rs es ls)(h : 0<rs.length)(hb:bs.length=7):Run (ia rs bs 0) es ls:=by
 have hl:=L.len;have g7:gc (bs++[(rs.length:Int)]) 7=some (rs.length:Int):=by
   unfold gc gI;rw[aar,aaD,aaq (by lia),hb];rfl
 refine⟨L,?_,uO (.inr ⟨by decide,by show(0:Int)<(rs.length:Int);lia⟩)⟩;refine⟨⟨0,128,16,32,64⟩,⟨acJ _,by show(0:Int)<(es.length:Int);lia⟩,L.start h,acJ _,acJ _,rfl,⟨?_,?_,?_,?_⟩,by show(rs.length:Int)=(es.length:Int);lia⟩
 . exact va (k:=7) (by decide) (by decide) g7
 . exact va (k:=4) (by decide) (by decide) rfl
 . exact va (k:=5) (by decide) (by decide) rfl
 . exact va (k:=6) (by decide) (by decide) rfl
theorem EH {bs:List Int}{y:Int}(h0 : 0<=i)(h1:i<bs.length):gI (bs++[y]) i=gI bs i:=by
 unfold gI;rw[aar,aar,aas (by omega)]
theorem Og (h:r.ok) : 0<=bN r:=by
 cases r <;> first | exact h.1 | exact acJ _
theorem FU (c1:r.isCall=false)(c2:r.d7=false)(c3:r.dR=false):iR S ls r=S.bk:=by
 cases r <;> first | rfl | (cases c1;done) | (cases c2;done) | (cases c3;done)
theorem GV:iR S ls (.drop b)=S.bk.drop (ka S.bk S.rows.length (aw ls)).toNat:=by
 unfold iR ka;cases S.bk.findIdx? (landAt S.rows.length (aw ls)) with
 | none=>rfl
 | some i=>rw[show((i:Int)+1).toNat=i+1 by lia]
theorem LB {cs:List bK}{aS:Int}{kvs:List (Key×V)} : 0<=ka cs aS kvs:=by
 unfold ka;split <;> lia
theorem I_ {bs:List Int}(aA:∀ r∈rs,r.ok/\r.here)(hr:rs.length<=450)(h1 : 0<rs.length)(hbl:bs.length=7)(hbv:∀ x∈bs,isVal x):c5 (ia rs bs 0):=by
 refine⟨λr h=>⟨(aA r h).1,λ_=>(aA r h).2⟩,by show rs.length<=2000;lia,acJ _,λz=>(EB z).2,by show(bs++[(rs.length:Int)]).length=8;rw[aab,hbl];rfl,?_,λx hx=>(nomatch hx),aaT _,DD _ _⟩;intro x hx;rcases List.mem_append.mp (show x∈bs++[(rs.length:Int)] from hx) with z | z
 . exact hbv x z
 . have e : x = (rs.length : Int) := by simpa using z
   rw[e];exact⟨by lia,by lia⟩
theorem xS (dv:List V)(k:Nat):fR dv (some (k:Int)) none=dv.drop k:=by
 unfold fR;have e1:HT.bg dv.length 0 (some (k:Int))=min k dv.length:=HT.jg _ _ k;have e2:HT.bg dv.length dv.length none=dv.length:=rfl;rw[e1,e2];by_cases h:k<=dv.length
 . rw[ads h,adg (by rw[abz];exact aag _)]
 . rw[Nat.min_eq_right (by lia),List.drop_of_length_le (aag _),List.drop_of_length_le (by lia),List.take_nil]
theorem Hg:("dropped" : Str) ≠ "runs":=by nofun
theorem PD:PyData.strOk "dropped" = true:=by nofun
theorem c5.landed (o:c5 S){v:Int}{k:Nat}(hv:isVal v)(h1:isVal c.a)(h2:isVal c.b)(h3:isVal c.c):c5 (S.landed v c k n):=by
 unfold MS.landed;split
 . exact⟨o.ok,o.many,o.fJ,λz=>absurd z pf,o.h8,o.hv,o.cv,o.cl,y0⟩
 . rename_i hw;have WU:=P8 hw;refine ⟨o.ok,o.many,?_,λz=>(EB z).2,rfl,?_,λx hx=>o.cv x (abY hx),?_,DD _ _⟩
   . show 0 <= n
     lia
   . intro x hx;have hx:x∈[v,gI S.held 1,gI S.held 2,gI S.held 3,c.a,c.b,c.c,gI S.held 7]:=hx;simp only[aaP,aaR,or_false] at hx;rcases hx with rfl | rfl | rfl | rfl | rfl | rfl | rfl | rfl
     . exact hv
     . exact fL o.hv _
     . exact fL o.hv _
     . exact fL o.hv _
     . exact h1
     . exact h2
     . exact h3
     . exact fL o.hv _
   . show(S.cells.take c.n.toNat).length <= 4000;rw[aaA]
     have:=o.cl
     lia
theorem c5.dropped (o:c5 S){v:Int}(hv:isVal v):c5 (S.dropped es kvs v):=by
 have hw:=o.walk es;unfold MS.walk at hw;unfold MS.dropped;split
 . exact⟨o.ok,o.many,o.fJ,λz=>absurd z pf,o.h8,o.hv,o.cv,o.cl,y0⟩
 . split
   . exact⟨o.ok,o.many,o.fJ,λz=>absurd z Hg,o.h8,o.hv,o.cv,o.cl,PD⟩
   . split
     . exact o
     . rename_i c hc;split
       . exact o
       . obtain⟨h1, h2, h3, _⟩ := hw c (aak hc);exact o.landed hv h1 h2 h3
theorem c5.bV (o:c5 S):c5 (S.bV es kvs):=by
 by_cases h:S.state = "runs"
 . obtain⟨r, e, hr⟩ := o.row h;rw[tf h e];cases r with
   | drop b=>exact o.dropped (fL o.hv _)
   | _=>exact o.bU hr (o.q_ h)
 . rw[xM h];exact o
theorem BX (S:MS)(v:Int)(c:bK)(k:Nat)(n:Int):(S.landed v c k n).rows=S.rows/\(S.landed v c k n).calls.length<=S.calls.length/\(S.landed v c k n).dj=S.dj:=by
 unfold MS.landed;split
 . exact⟨rfl,aag _,rfl⟩
 . exact⟨rfl,by show(S.calls.take _).length<=_;rw[aaA];omega,rfl⟩
theorem Bf (S:MS)(es:List (Option Ent))(kvs:List (Key×V))(v:Int):(S.dropped es kvs v).rows=S.rows/\(S.dropped es kvs v).calls.length<=S.calls.length/\((S.dropped es kvs v).state = "runs"->(S.dropped es kvs v).dj=S.dj):=by
 unfold MS.dropped;split
 . exact⟨rfl,aag _,λ_=>rfl⟩
 . split
   . exact⟨rfl,aag _,λz=>absurd z Hg⟩
   . split
     . exact⟨rfl,aag _,λ_=>rfl⟩
     . split
       . exact⟨rfl,aag _,λ_=>rfl⟩
       . obtain⟨h1, h2, h3⟩ := BX S v _ _ _;exact⟨h1,h2,λ_=>h3⟩
theorem Fh (S:MS)(r:Rw):(S.bU r).dj=S.dj:=by
 unfold MS.bU;split
 . rfl
 . split <;> rfl
theorem E_ (S:MS)(es:List (Option Ent))(kvs:List (Key×V))(r:Rw):(S.ei es kvs r).rows=S.rows/\(S.ei es kvs r).calls.length<=S.calls.length+1/\((S.ei es kvs r).state = "runs"->(S.ei es kvs r).dj=S.dj):=by
 cases r with
 | drop b =>
   obtain⟨h1,h2,h3⟩:=Bf S es kvs (gI S.held b);exact⟨h1,Nat.le_succ_of_le h2,h3⟩
 | _=>exact⟨DY _ _,CF _ _,λ_=>Fh _ _⟩
theorem uG (S:MS)(es:List (Option Ent))(kvs:List (Key×V)):(S.bV es kvs).rows=S.rows/\(S.bV es kvs).calls.length<=S.calls.length+1/\((S.bV es kvs).state = "runs"->S.state = "runs"/\(S.bV es kvs).dj=S.dj):=by
 by_cases h:S.state = "runs"
 . cases e:S.rows[S.av.toNat]? with
   | none =>
     have:S.bV es kvs=S:=by unfold MS.bV;rw[if_pos h,e]
     rw[this];exact⟨rfl,abm _,λz=>⟨z,rfl⟩⟩
   | some r =>
     rw[tf h e];obtain⟨h1,h2,h3⟩:=E_ S es kvs r;exact⟨h1,h2,λz=>⟨h,h3 z⟩⟩
 . rw[xM h];exact⟨rfl,abm _,λz=>⟨z,rfl⟩⟩
theorem EW:(S.bV es kvs).rows=S.rows:=(uG S es kvs).1
theorem BJ (S:MS)(es:List (Option Ent))(kvs:List (Key×V)):(S.bV es kvs).calls.length<=S.calls.length+1:=(uG S es kvs).2.1
theorem gR (T:TX):JY P w K mg base 1 "Astray" a.dE "row":=by
 obtain⟨f0,fd0,F,c0,hb0⟩:=T.Fz;refine⟨f0,fd0,_,c0,F.ok (k:=0) lN (λvs H Q E h=>?_) (λS6 A outer s H vs Q E hr h=>?_),hb0⟩
 . obtain⟨e, i, rfl, _⟩ := h;rfl
 . obtain⟨e, i, rfl, he, WS, q⟩ := h;walk_at"h";have nd:=lN.nd;refine' aV ?_ ?_;exact(f7 (Cs T.yH T.xo.choose_spec rfl (aj (pv 0) (aj (qS (pv 1)) aD))));walk_at"m";exact(HR (K:=K) rfl (pv 0) (pv 1));walk_at"s";symm;refine⟨WS,?_⟩;symm;refine⟨e,_,rfl,he,?_⟩;symm;refine⟨e,a.dE,rfl,he,T.FI,λd hd=>?_⟩;symm;exact q d hd
theorem DL (T:TX):FE 1 "bounded" xZ:=by
 refine ba 0 T.DA vk ?_ ?_;ac_nf
 . obtain⟨n, top, rfl, h0, h1, q⟩ := h;walk_at"h";have nd:=vk.nd;refine' aV ?_ ?_;walk_at"f";walk_at"tT";walk_at"m";exact IE;exact cL;walk_at"m";walk_at"tS";walk_at"s";symm;exact q
theorem CC (T:TX):FE 1 "with_box" (xq K):=by
 refine ba 0 T.Cv rM ?_ ?_;ac_nf
 . obtain⟨p, xs, b, v, rfl, hS, h0, h1, q⟩ := h;walk_at"h";have nd:=rM.nd;walk_at"v";symm;rename_i l hl;rw[iB];exact q l hl
theorem oJ (T:TX):FE 1 "box_place" CS:=by
 refine ba 0 T.Aw pJ ?_ ?_;ac_nf
 . obtain⟨b, rfl, h0, h1, q⟩ := h;walk_at"h";have nd:=pJ.nd;walk_at"v";symm;refine FG (qK h0 (by lia)) ?_;rw[qD];exact q
theorem yl (T:TX):FE 1 "cell_place" Ap:=by
 refine ba 0 T.yw nJ ?_ ?_;ac_nf
 . obtain⟨c, z, rfl, h0, h1, h2, q⟩ := h;walk_at"h";have nd:=nJ.nd;walk_at"v";symm;refine FG (qK (by lia) (by lia)) ?_;rw[qD];exact q
theorem Ey (T:TX):FE 1 "without" yg:=by
 refine ba 0 T.Dt vO ?_ ?_;ac_nf
 . obtain⟨s, p, rfl, q⟩ := h;walk_at"h";have nd:=vO.nd;walk_at"v";symm;refine(?_:Q (V.int _) _);rw[fV];exact q
theorem Cq (T:TX)(b o t:Int):ME 1 a.cI "goes" (ee a (.add b o t)):=by
 refine aB 0 T.jo T.Ek bD ?_ ?_;ac_nf
 . obtain⟨x, z, rfl, ⟨dx, hx⟩, q⟩ := h
   change H x=some (.ins a.cI dx (au "other" (.int t) (au "one" (.int o) (au "box" (.int b) [])))) at hx
   walk_at"h";have nd:=bD.nd;walk_at"v";symm;exact q _ (by assumption)
theorem Cc (T:TX)(b n:Int):ME 1 a.cN "goes" (ee a (.set b n)):=by
 refine aB 0 T.jL T.Ec bD ?_ ?_;ac_nf
 . obtain⟨x, z, rfl, ⟨dx, hx⟩, q⟩ := h
   change H x=some (.ins a.cN dx (au "number" (.int n) (au "box" (.int b) []))) at hx
   walk_at"h";have nd:=bD.nd;walk_at"v";symm;exact q _ (by assumption)
theorem zW (T:TX)(b o:Int):ME 1 a.bX "goes" (ee a (.copy b o)):=by
 refine aB 0 T.ig T.Cd bD ?_ ?_;ac_nf
 . obtain⟨x, z, rfl, ⟨dx, hx⟩, q⟩ := h
   change H x=some (.ins a.bX dx (au "one" (.int o) (au "box" (.int b) []))) at hx
   walk_at"h";have nd:=bD.nd;walk_at"v";symm;exact q _ (by assumption)
theorem Bx (T:TX)(t:Int):ME 1 a.aY "goes" (ee a (.call t)):=by
 refine aB 0 T.gX T.BU bD ?_ ?_;ac_nf
 . obtain⟨x, z, rfl, ⟨dx, hx⟩, q⟩ := h
   change H x=some (.ins a.aY dx (au "target" (.int t) [])) at hx
   walk_at"h";have nd:=bD.nd;walk_at"v";symm;exact q _ (by assumption)
theorem Cy (T:TX)(b c:Int):ME 1 a.cO "goes" (ee a (.put b c)):=by
 refine aB 0 T.jQ T.Dy bD ?_ ?_;ac_nf
 . obtain⟨x, z, rfl, ⟨dx, hx⟩, q⟩ := h
   change H x=some (.ins a.cO dx (au "cell" (.int c) (au "box" (.int b) []))) at hx
   walk_at"h";have nd:=bD.nd;walk_at"v";symm;exact q _ (by assumption)
theorem Ci (T:TX)(b c:Int):ME 1 a.cM "goes" (ee a (.get b c)):=by
 refine aB 0 T.jP T.EX bD ?_ ?_;ac_nf
 . obtain⟨x, z, rfl, ⟨dx, hx⟩, q⟩ := h
   change H x=some (.ins a.cM dx (au "cell" (.int c) (au "box" (.int b) []))) at hx
   walk_at"h";have nd:=bD.nd;walk_at"v";symm;exact q _ (by assumption)
theorem zN (T:TX)(m:Int):ME 1 a.cm "goes" (ee a (.grow m)):=by
 refine aB 0 T.gW T.Cj bD ?_ ?_;ac_nf
 . obtain⟨x, z, rfl, ⟨dx, hx⟩, q⟩ := h
   change H x=some (.ins a.cm dx (au "many" (.int m) [])) at hx
   walk_at"h";have nd:=bD.nd;walk_at"v";symm;exact q _ (by assumption)
theorem wV (T:TX)(m:Int):ME 1 a.bB "goes" (ee a (.shrink m)):=by
 refine aB 0 T.fj T.yB bD ?_ ?_;ac_nf
 . obtain⟨x, z, rfl, ⟨dx, hx⟩, q⟩ := h
   change H x=some (.ins a.bB dx (au "many" (.int m) [])) at hx
   walk_at"h";have nd:=bD.nd;walk_at"v";symm;exact q _ (by assumption)
theorem yp (T:TX)(b o t:Int):ME 1 a.cI "height" (c_ a (.add b o t)):=by
 refine aB 0 T.jo T.BD bh ?_ ?_;ac_nf
 . obtain⟨x, z, rfl, ⟨dx, hx⟩, q⟩ := h
   change H x=some (.ins a.cI dx (au "other" (.int t) (au "one" (.int o) (au "box" (.int b) [])))) at hx
   walk_at"h";have nd:=bh.nd;walk_at"v";walk_at"rds";all_goals (try simp only[Rw.aE] at q);(repeat' split at q) <;> first | exact q | (exfalso;lia)
theorem sJ (T:TX)(b t:Int):ME 1 a.bt "height" (c_ a (.branch b t)):=by
 refine aB 0 T.fi T.vB bh ?_ ?_;ac_nf
 . obtain⟨x, z, rfl, ⟨dx, hx⟩, q⟩ := h
   change H x=some (.ins a.bt dx (au "target" (.int t) (au "box" (.int b) []))) at hx
   walk_at"h";have nd:=bh.nd;walk_at"v";walk_at"rds";all_goals (try simp only[Rw.aE] at q);(repeat' split at q) <;> first | exact q | (exfalso;omega)
theorem yq (T:TX)(b n:Int):ME 1 a.cN "height" (c_ a (.set b n)):=by
 refine aB 0 T.jL T.AE bh ?_ ?_;ac_nf
 . obtain⟨x, z, rfl, ⟨dx, hx⟩, q⟩ := h
   change H x=some (.ins a.cN dx (au "number" (.int n) (au "box" (.int b) []))) at hx
   walk_at"h";have nd:=bh.nd;walk_at"v";walk_at"rds";all_goals (try simp only[Rw.aE] at q);(repeat' split at q) <;> first | exact q | (exfalso;omega)
theorem wd (T:TX)(b o:Int):ME 1 a.bX "height" (c_ a (.copy b o)):=by
 refine aB 0 T.ig T.yz bh ?_ ?_;ac_nf
 . obtain⟨x, z, rfl, ⟨dx, hx⟩, q⟩ := h
   change H x=some (.ins a.bX dx (au "one" (.int o) (au "box" (.int b) []))) at hx
   walk_at"h";have nd:=bh.nd;walk_at"v";walk_at"rds";all_goals (try simp only[Rw.aE] at q);(repeat' split at q) <;> first | exact q | (exfalso;omega)
theorem xk (T:TX)(t:Int):ME 1 a.cp "height" (c_ a (.dr t)):=by
 refine aB 0 T.hG T.yO bh ?_ ?_;ac_nf
 . obtain⟨x, z, rfl, ⟨dx, hx⟩, q⟩ := h
   change H x=some (.ins a.cp dx (au "target" (.int t) [])) at hx
   walk_at"h";have nd:=bh.nd;walk_at"v";walk_at"rds";all_goals (try simp only[Rw.aE] at q);(repeat' split at q) <;> first | exact q | (exfalso;lia)
theorem xj (T:TX)(t:Int):ME 1 a.aY "height" (c_ a (.call t)):=by
 refine aB 0 T.gX T.yh bh ?_ ?_;ac_nf
 . obtain⟨x, z, rfl, ⟨dx, hx⟩, q⟩ := h
   change H x=some (.ins a.aY dx (au "target" (.int t) [])) at hx
   walk_at"h";have nd:=bh.nd;walk_at"v";walk_at"rds";all_goals (try simp only[Rw.aE] at q);(repeat' split at q) <;> first | exact q | (exfalso;omega)
theorem wz (T:TX)(b:Int):ME 1 a.a_ "height" (c_ a (.back b)):=by
 refine aB 0 T.hU T.yA bh ?_ ?_;ac_nf
 . obtain⟨x, z, rfl, ⟨dx, hx⟩, q⟩ := h
   change H x=some (.ins a.a_ dx (au "box" (.int b) [])) at hx
   walk_at"h";have nd:=bh.nd;walk_at"v";walk_at"rds";all_goals (try simp only[Rw.aE] at q);(repeat' split at q) <;> first | exact q | (exfalso;lia)
theorem wt (T:TX)(b:Int):ME 1 a.bc "height" (c_ a (.drop b)):=by
 refine aB 0 T.fZ T.yP bh ?_ ?_;ac_nf
 . obtain⟨x, z, rfl, ⟨dx, hx⟩, q⟩ := h
   change H x=some (.ins a.bc dx (au "box" (.int b) [])) at hx
   walk_at"h";have nd:=bh.nd;walk_at"v";walk_at"rds";all_goals (try simp only[Rw.aE] at q);(repeat' split at q) <;> first | exact q | (exfalso;lia)
theorem uF (T:TX)(b t:Int):ME 1 a.bt "keeps" (dD a (.branch b t)):=by
 refine aB 0 T.fi T.vR cF ?_ ?_;ac_nf
 . obtain⟨x, s, z, rfl, ⟨dx, hx⟩, hk, z0, z1, hs, q⟩ := h
   change H x=some (.ins a.bt dx (au "target" (.int t) (au "box" (.int b) []))) at hx
   obtain⟨⟨k1,k2⟩,⟨k3,k4⟩⟩:=hk;walk_at"h";have nd:=cF.nd;walk_at"v";symm;exact q
theorem yt (T:TX)(t:Int):ME 1 a.cp "keeps" (dD a (.dr t)):=by
 refine aB 0 T.hG T.AG cF ?_ ?_;ac_nf
 . obtain⟨x, s, z, rfl, ⟨dx, hx⟩, hk, z0, z1, hs, q⟩ := h
   change H x=some (.ins a.cp dx (au "target" (.int t) [])) at hx
   obtain⟨k1,k2⟩:=hk;walk_at"h";have nd:=cF.nd;walk_at"v";symm;exact q
theorem yJ (T:TX)(m:Int):ME 1 a.cm "keeps" (dD a (.grow m)):=by
 refine aB 0 T.gW T.Au cF ?_ ?_;ac_nf
 . obtain⟨x, s, z, rfl, ⟨dx, hx⟩, hk, z0, z1, hs, q⟩ := h
   change H x=some (.ins a.cm dx (au "many" (.int m) [])) at hx
   obtain⟨k1,k2⟩:=hk;walk_at"h";have nd:=cF.nd;walk_at"v";symm;exact q
theorem yL (T:TX)(b:Int):ME 1 a.a_ "keeps" (dD a (.back b)):=by
 refine aB 0 T.hU T.Bq cF ?_ ?_;ac_nf
 . obtain⟨x, s, z, rfl, ⟨dx, hx⟩, hk, z0, z1, hs, q⟩ := h
   change H x=some (.ins a.a_ dx (au "box" (.int b) [])) at hx
   obtain⟨k1,k2⟩:=hk;walk_at"h";have nd:=cF.nd;walk_at"v";symm;exact q
theorem yx (T:TX)(b:Int):ME 1 a.bc "keeps" (dD a (.drop b)):=by
 refine aB 0 T.fZ T.z8 cF ?_ ?_;ac_nf
 . obtain⟨x, s, z, rfl, ⟨dx, hx⟩, hk, z0, z1, hs, q⟩ := h
   change H x=some (.ins a.bc dx (au "box" (.int b) [])) at hx
   obtain⟨k1,k2⟩:=hk;walk_at"h";have nd:=cF.nd;walk_at"v";symm;exact q
theorem my (T:TX)(m:Int):ME 1 a.cm "height" (c_ a (.grow m)):=by
 refine aB 0 T.gW T.yQ l0 ?_ ?_;ac_nf
 . obtain⟨x, z, rfl, ⟨dx, hx⟩, q⟩ := h
   change H x=some (.ins a.cm dx (au "many" (.int m) [])) at hx
   walk_at"h";have nd:=l0.nd;walk_at"v";walk_at"rds";all_goals (try simp only[Rw.aE] at q);(repeat' split at q) <;> first | exact q | (exfalso;lia)
theorem jx (T:TX)(m:Int):ME 1 a.bB "height" (c_ a (.shrink m)):=by
 refine aB 0 T.fj T.ug jJ ?_ ?_;ac_nf
 . obtain⟨x, z, rfl, ⟨dx, hx⟩, q⟩ := h
   change H x=some (.ins a.bB dx (au "many" (.int m) [])) at hx
   walk_at"h";have nd:=jJ.nd;walk_at"v";walk_at"rds";all_goals (try simp only[Rw.aE] at q);(repeat' split at q) <;> first | exact q | (exfalso;lia)
theorem ou (T:TX)(b c:Int):ME 1 a.cO "height" (c_ a (.put b c)):=by
 refine aB 0 T.jQ T.AI dS ?_ ?_;ac_nf
 . obtain⟨x, z, rfl, ⟨dx, hx⟩, q⟩ := h
   change H x=some (.ins a.cO dx (au "cell" (.int c) (au "box" (.int b) []))) at hx
   walk_at"h";have nd:=dS.nd;walk_at"v";walk_at"rds";all_goals (try simp only[Rw.aE] at q);(repeat' split at q) <;> first | exact q | (exfalso;lia)
theorem oj (T:TX)(b c:Int):ME 1 a.cM "height" (c_ a (.get b c)):=by
 refine aB 0 T.jP T.z9 dS ?_ ?_;ac_nf
 . obtain⟨x, z, rfl, ⟨dx, hx⟩, q⟩ := h
   change H x=some (.ins a.cM dx (au "cell" (.int c) (au "box" (.int b) []))) at hx
   walk_at"h";have nd:=dS.nd;walk_at"v";walk_at"rds";all_goals (try simp only[Rw.aE] at q);(repeat' split at q) <;> first | exact q | (exfalso;lia)
theorem GA (T:TX):KE 1 "Table" a.b3 (yV K a.b3)/\QW P w K mg base cb 1 "Table" a.b3 (yV K a.b3):=by
 refine Me 0 T.Mb T.Lj nY ?_ ?_;ac_nf
 . obtain⟨x, dx, pe, lv, xs, kvs, rfl, hx, hS, hd, q⟩ := h;walk_at"h";have nd:=nY.nd;refine' aV ?_ ?_;walk_at"tS";walk_at"m";exact(wx (K:=K) rfl (pv 0) (tw (dO wG (pv 2) jT (d9 _)) zT (pG D4 rfl T.OE Mw (aj (pv 2) aD))));walk_at"s";rcases hd with ⟨rfl,rfl⟩ | ⟨pd,rfl,hd⟩
   . symm;rename_i l hl d hd;have nx:=bw hd;have nl:=bw nx.1;refine q l d _ hl nl.1 nl.2.symm (λb o e ne=>?_) aa ?_ ?_
     . rw[ak ne,ak (ag (show upd (upd H l (.lst xs)) x _ b=some o from by rw[ak ne,ak (ag e hl)];exact e) hd),ak ne,ak (ag e hl)];exact e
     . rw[ak (ag hx hl).symm,ak nl.2.symm,ak (ag hx hl).symm,aa]
     . rw[ak nx.2,aa]
   . have npx : pd ≠ x := J3 hd hx (by intro z; cases z);symm;rename_i l hl d W4;have nx:=bw W4;have nl:=bw nx.1;refine q l d _ hl nl.1 nl.2.symm (λb o e ne=>?_) aa ?_ ?_
     . rw[ak ne,ak (ag (show upd (upd H l (.lst xs)) x _ b=some o from by rw[ak ne,ak (ag e hl)];exact e) W4),ak ne,ak (ag e hl)];exact e
     . rw[ak (ag hx hl).symm,ak nl.2.symm,ak (ag hx hl).symm,aa]
     . rw[ak nx.2,aa]
theorem Al (T:TX):KE 1 "Table" a.b3 (yV K a.b3):=(GA T).1
theorem gC (T:TX):FE 1 "sets_of" (OL K):=by
 refine ba 0 T.DN uP ?_ ?_;ac_nf
 . obtain⟨p, e, rfl, ⟨pk, h1, h2⟩, q⟩ := h;walk_at"h";have nd:=uP.nd;walk_at"v";symm;exact q _ (by assumption)
theorem ve (T:TX):FE 1 "lowest_place" Ks:=by
 refine ba 0 T.uk kG ?_ ?_;ac_nf
 . obtain⟨i, rfl, q⟩ := h;walk_at"h";have nd:=kG.nd;refine' fv ?_;exact(iD (cT l7 (v_ (K:=K) rfl PySem.F.plainAttrs_int PySem.F.slot_int_bit_length PySem.F.type_int_bit_length EZ (cT vK (pv 0) (J1 Gi (pv 0)))) aW));walk_at"s";symm;exact q
theorem Bo (T:TX)(t:Int):ME 1 a.cp "runs" (d_ K a (.dr t)):=by
 refine aB 0 T.hG T.CA o7 ?_ ?_;ac_nf
 . obtain⟨x, bo, pi, z, bs, pl, rfl, ⟨dx, hx⟩, hk, hb, h8, hv, hp, S9, q⟩ := h
   change H x=some (.ins a.cp dx (au "target" (.int t) [])) at hx
   obtain⟨k1,k2⟩:=hk;walk_at"h";have nd:=o7.nd;walk_at"v";symm;exact ff (by assumption) (by assumption) (by assumption) q
theorem zV (T:TX)(t:Int):ME 1 a.cp "goes" (ee a (.dr t)):=by
 refine aB 0 T.hG T.B5 qd ?_ ?_;ac_nf
 . obtain⟨x, z, rfl, ⟨dx, hx⟩, q⟩ := h
   change H x=some (.ins a.cp dx (au "target" (.int t) [])) at hx
   walk_at"h";have nd:=qd.nd;walk_at"v";symm;exact q _ (by assumption)
theorem wk (T:TX)(b t:Int):ME 1 a.bt "runs" (d_ K a (.branch b t)):=by
 refine aB 0 T.fi T.yK mJ ?_ ?_;ac_nf
 . obtain⟨x, bo, pi, z, bs, pl, rfl, ⟨dx, hx⟩, hk, hb, h8, hv, hp, S9, q⟩ := h
   change H x=some (.ins a.bt dx (au "target" (.int t) (au "box" (.int b) []))) at hx
   obtain⟨⟨k1,k2⟩,⟨k3,k4⟩⟩:=hk;walk_at"h";have nd:=mJ.nd;walk_at"v";symm;have q:g_ H Q (some (if gI bs b=0 then z+1 else t,bs,pl)):=q;refine eW (λhh=>?_) (λhh=>?_)
   all_goals
     symm;first | rw[if_pos hh] at q | rw[if_neg hh] at q
     exact ff (by assumption) (by assumption) (by assumption) q
theorem wa (T:TX)(b t:Int):ME 1 a.bt "goes" (ee a (.branch b t)):=by
 refine aB 0 T.fi T.yu mH ?_ ?_;ac_nf
 . obtain⟨x, z, rfl, ⟨dx, hx⟩, q⟩ := h
   change H x=some (.ins a.bt dx (au "target" (.int t) (au "box" (.int b) []))) at hx
   walk_at"h";have nd:=mH.nd;walk_at"v";symm;exact q _ (by assumption)
theorem Ah (T:TX)(b:Int):ME 1 a.a_ "runs" (d_ K a (.back b)):=by
 refine aB 0 T.hU T.Cf oU ?_ ?_;ac_nf
 . obtain⟨x, bo, pi, z, bs, pl, rfl, ⟨dx, hx⟩, hk, hb, h8, hv, hp, S9, q⟩ := h
   change H x=some (.ins a.a_ dx (au "box" (.int b) [])) at hx
   obtain⟨k1,k2⟩:=hk;walk_at"h";have nd:=oU.nd;walk_at"v";symm;exact ff (by assumption) (by assumption) (by assumption) q
theorem An (T:TX)(b:Int):ME 1 a.a_ "goes" (ee a (.back b)):=by
 refine aB 0 T.hU T.Cz pW ?_ ?_;ac_nf
 . obtain⟨x, z, rfl, ⟨dx, hx⟩, q⟩ := h
   change H x=some (.ins a.a_ dx (au "box" (.int b) [])) at hx
   walk_at"h";have nd:=pW.nd;walk_at"v";symm;exact q _ (by assumption)
theorem AD (T:TX)(b:Int):ME 1 a.bc "runs" (d_ K a (.drop b)):=by
 refine aB 0 T.fZ T.Cw pZ ?_ ?_;ac_nf
 . obtain⟨x, bo, pi, z, bs, pl, rfl, ⟨dx, hx⟩, hk, hb, h8, hv, hp, S9, q⟩ := h
   change H x=some (.ins a.bc dx (au "box" (.int b) [])) at hx
   obtain⟨k1,k2⟩:=hk;walk_at"h";have nd:=pZ.nd;walk_at"v";symm;exact q H (ao.refl _)
theorem zL (T:TX)(b:Int):ME 1 a.bc "goes" (ee a (.drop b)):=by
 refine aB 0 T.fZ T.B7 p_ ?_ ?_;ac_nf
 . obtain⟨x, z, rfl, ⟨dx, hx⟩, q⟩ := h
   change H x=some (.ins a.bc dx (au "box" (.int b) [])) at hx
   walk_at"h";have nd:=p_.nd;walk_at"v";symm;exact q _ (by assumption)
theorem Ff (T:TX):FE 1 "is_row" (Lx K):=by
 refine ba 0 T.G5 xR ?_ ?_;ac_nf
 . obtain ⟨n, p, us, rfl, hp, q⟩ := h;walk_at "h";have nd:=xR.nd;refine' fv ?_;exact (iD (Js y3 DI aW (pv 0) (cJ (ez (K:=K) rfl) rfl T.ja i_ (aj (pv 1) aD))));walk_at "s";symm;refine cR (λhh=>?_) (λhh=>?_)
   . symm;refine(?_:Q (V.bl _) _);rw[show decide (n<(us.length:Int))=decide (0<=n/\n<(us.length:Int)) from by rw[decide_eq_decide];exact⟨λz=>⟨hh,z⟩,λz=>z.2⟩];exact q
   . rw[decide_eq_false (λz : 0<=n/\n<(us.length:Int)=>hh z.1)] at q;symm;exact q
theorem AR (T:TX):FE 1 "each_once" (Mn K):=by
 refine ba 0 T.AW qc ?_ ?_;ac_nf
 . obtain ⟨p, ns, rfl, hp, hn, q⟩ := h;walk_at "h";have nd:=qc.nd;walk_at "v";symm;rename_i l nl;refine eZ (K:=K) (a:=p) (xs:=ns.map V.int) (λi Z H1=>(∃ u,Z = [some (.ref p),some (.ref l),u])/\ao H H1/\H1 l=some (.lst ((once (ns.take i)).map V.int))/\(once (ns.take i)).length<=i) ⟨⟨_,rfl⟩,ae nl,aa,aag _⟩ (λi Z H1 _ ⟨_,s1,_⟩=>ao.seq s1 hp) ?_ ?_
   . rintro i x Z H1 hx ⟨⟨u,rfl⟩,s1,hl,S7⟩;obtain⟨n,hn1,rfl⟩:∃ n,ns[i]? = some n/\x=.int n:=by
       rw[aah] at hx;obtain⟨p,hp,e⟩:=Option.map_eq_some_iff.mp hx;exact⟨p,hp,e.symm⟩
     have hi:i<ns.length:=(List.getElem?_eq_some_iff.mp hn1).1;have en:once (ns.take (i+1))=if n∈once (ns.take i) then once (ns.take i) else once (ns.take i)++[n]:=by
       unfold once;rw[abF,hn1,abx,List.foldl_append];rfl
     rw[en];generalize once (ns.take i)=os at hl S7 ⊢;symm;refine JT (ar.of hl) rfl (Gr _) ?_;rw[if_pos rfl,Ir];by_cases hm:n∈os
     . rw[decide_eq_true hm,if_pos hm];symm;exact⟨⟨_,rfl⟩,s1,hl,by lia⟩
     . rw[decide_eq_false hm,if_neg hm];symm;exact⟨⟨_,rfl⟩,by walk_at"same",by rw[aaE];exact aa,by rw[aab];show os.length+1<=i+1;lia⟩
   . rintro Z H1 ⟨⟨u,rfl⟩,s1,hl,S7⟩;rw[aac,aa0] at hl;symm;exact q l H1 s1 hl
theorem sQ (T:TX):iE P w K mg base (eQ P w) 1 "reach" (CO a):=by
 refine zD 0 T.HU BH ?_ ?_;ac_nf
 . obtain ⟨lh, lw, n, UO, hs, ws, rfl, hlh, hlw, h1, h2, n1, n2, VE, qb, qs, qn⟩ := h;walk_at "h";have nd:=BH.nd;refine' aV ?_ ?_;walk_at "f";walk_at "y";walk_at "tT";walk_at "m";exact (ni T.iL rfl (aj (qS (pv 2)) aD));exact cL;walk_at "m";walk_at "f";walk_at "y";walk_at "tT";walk_at "n";walk_at "x";walk_at "tS";walk_at "m";walk_at "x";walk_at "tS";walk_at "m";walk_at "f";walk_at "y";walk_at "tT";walk_at "m";exact (ni T.iL rfl (aj (qS (pv 2)) aD));exact cL;walk_at "s";ac_rfl;refine cR (λhh=>?_) (λhh=>?_)
   . ac_rfl;refine jj ?_;ac_rfl
     try refine pQ ?_
     ac_rfl;exact⟨m_ n1 n2,by show 1<=1000;decide,qb (.inl hh)⟩
   . ac_rfl;refine dU (ar.of hlh) ?_;rw [aac];ac_rfl;refine cR (λWc=>?_) (λWc=>?_)
     . ac_rfl;refine jj ?_;ac_rfl
       try refine pQ ?_
       ac_rfl;exact⟨m_ n1 n2,by show 1<=1000;decide,qb (.inr (.inl Wc))⟩
     . obtain ⟨k, rfl⟩ : ∃ k : Nat, n = (k : Int) := ⟨n.toNat, by lia⟩
       rw[aaD] at qb qs qn;have hk:k<hs.length:=by lia
       have hs1:hs[k]? = some hs[k]:=aaa hk;have T3:cZ (hs.map bM) (k:Int)=some (bM hs[k]):=bF (by rw[aah,hs1];rfl);generalize hs[k]=o at hs1 T3;rw[hs1] at qb qs qn;cases o with
       | none =>
         have T3:cZ (hs.map bM) (k:Int)=some .aC:=T3;ac_rfl;refine lT hlh (j:=k) (by rw[aac];exact EL hk) ?_;ac_rfl;have e1:(hs.map bM).set k (.int UO)=(hs.set k (some UO)).map bM:=qy bM hs k (some UO);have e2:ws.map nV++[V.int (k:Int)]=(ws++[k]).map nV:=by rw[aaE];rfl
         rw[e1,e2];exact qn (by lia) rfl
       | some h0 =>
         have T3:cZ (hs.map bM) (k:Int)=some (.int h0):=T3;ac_rfl;refine gP (λhh3=>?_) (λhh3=>?_)
         . ac_rfl;refine jj ?_;ac_rfl
           try refine pQ ?_
           ac_rfl;exact⟨m_ n1 n2,by show 1<=1000;decide,qb (.inr (.inr ⟨h0,rfl,hh3⟩))⟩
         . ac_rfl;exact qs (by lia) (by rw[show h0=UO from by simpa using hh3])
theorem Gs (T:TX):FE 1 "narrow" zE:=by
 refine ba 0 T.E7 xJ ?_ ?_;ac_nf
 . obtain ⟨lsx, dc, n, p, ss, ks, o, rfl, hl, hd, h1, h2, UI, ho, q1, q2⟩ := h;have T3:cZ (ss.map cA) (n:Int)=some (cA o):=bF (by rw [aah,ho];rfl);have hn:n<ss.length:=(List.getElem?_eq_some_iff.mp ho).1;have T9:lsx≠dc:=λz=>by rw [z,hd] at hl;cases hl
   walk_at"h";have nd:=xJ.nd;refine' aV ?_ ?_;walk_at"tS";walk_at"m";walk_at"f";walk_at"tT";walk_at"c";walk_at"m";exact(wY (jf hr) (pv 1) (pv 2) JU rfl);exact cL;walk_at"s";have Td:∀ x:Nat,(upd (upd H lsx (.lst ((ss.map cA).set n (.int (x:Int))))) dc (.dK (putK (bO ks) (.inl (n:Int)) (.bl true))))=upd (upd H lsx (.lst ((ss.set n (some x)).map cA))) dc (.dK (bO (kj ks n))):=λx=>by
     rw[IZ,<- qy cA ss n (some x)];rfl
   cases o with
   | none =>
     have T3:cZ (ss.map cA) (n:Int)=some .aC:=T3;ac_rfl
     with_reducible refine(?_ : @ite Prop (_=true) (instDecidableEqBool _ _) _ _)
     rw[if_pos (by rw[decide_eq_false (λz=>by cases z)];rfl)];ac_rfl;refine lT hl (j:=n) (by rw[aac];exact EL hn) ?_;ac_rfl;refine ji (kvs:=bO ks) (by rw[ak T9.symm];exact hd) (by unfold bO;rw[aac,aaI];lia) ?_;rw[Td];exact q2 (λz=>by cases z)
   | some s0 =>
     have T3:cZ (ss.map cA) (n:Int)=some (.int (s0:Int)):=T3;ac_rfl;rw[gu]
     with_reducible refine(?_ : @ite Prop (_=true) (instDecidableEqBool _ _) _ _)
     by_cases e:s0 &&& p=s0
     . rw[if_neg (by rw[e, decide_eq_true rfl]; decide)];ac_rfl;exact q1 (by show some s0=some (s0 &&& p);rw[e])
     . rw[if_pos (by rw[decide_eq_false (λz => e (by have := V.int.inj z; lia))]; rfl)];ac_rfl;refine lT hl (j:=n) (by rw[aac];exact EL hn) ?_;ac_rfl;refine ji (kvs:=bO ks) (by rw[ak T9.symm];exact hd) (by unfold bO;rw[aac,aaI];lia) ?_;rw[Td];exact q2 (λz=>e (by have:=aax z;exact this.symm))
theorem Eh (T:TX):FE 1 "kept_of" (A_ K):=by
 refine ba 0 T.Es ue ?_ ?_;ac_nf
 . obtain⟨p, bs, rfl, hS, h8, q⟩ := h;walk_at"h";have nd:=ue.nd;walk_at"v";symm;exact q _ (by assumption)
theorem cQ (T:TX):ME 1 a.ax "word_ahead_of" (RW a):=by
 refine aB 0 T.cu T.kl fk ?_ ?_;ac_nf
 . obtain⟨m, dx, fs, aS, n, rfl, hm, hf, q⟩ := h;unfold aK at q;walk_at"h";have nd:=fk.nd;refine' aV ?_ ?_;walk_at"tS";walk_at"m";exact(iD (tw (Hw y3 DI aW (pv 1) (cD (K:=K) rfl (pv 0))) gA gA));walk_at"s";walk_at"rds";all_goals (repeat' split at q) <;> first | exact q | (exfalso;lia)
theorem nP (T:TX):ME 1 a.ax "at" (J6 a "coming"):=by
 refine aB 0 T.cu T.BA nO ?_ ?_;ac_nf
 . obtain⟨m, dx, fs, v, rfl, hm, hf, q⟩ := h;walk_at"h";have nd:=nO.nd;walk_at"v";symm;exact q
theorem jM (T:TX):ME 1 a.ax "boxes" (Gm a "held"):=by
 refine aB 0 T.cu T.uu jq ?_ ?_;ac_nf
 . obtain⟨m, dx, p, fs, xs, rfl, hm, hf, hp, q⟩ := h;walk_at"h";have nd:=jq.nd;walk_at"v";symm;exact q _ (by assumption)
theorem kI (T:TX):ME 1 a.ax "pile" (Gm a "cells"):=by
 refine aB 0 T.cu T.wJ ku ?_ ?_;ac_nf
 . obtain⟨m, dx, p, fs, xs, rfl, hm, hf, hp, q⟩ := h;walk_at"h";have nd:=ku.nd;walk_at"v";symm;exact q _ (by assumption)
theorem vn (T:TX):ME 1 a.ax "word" (J6 a "state"):=by
 refine aB 0 T.cu T.wQ km ?_ ?_;ac_nf
 . obtain⟨m, dx, fs, v, rfl, hm, hf, q⟩ := h;walk_at"h";have nd:=km.nd;walk_at"v";symm;exact q
theorem vq (T:TX):ME 1 a.ax "book" (N2 a):=by
 refine aB 0 T.cu T.vP kQ ?_ ?_;ac_nf
 . obtain⟨m, dx, pk, fs, cs, rfl, hm, hf, hk, q⟩ := h;walk_at"h";have nd:=kQ.nd;refine' fv ?_;exact(iD (Lg (K:=K) rfl rfl rfl T.zZ rfl T.DM (cD (K:=K) rfl (pv 0))));walk_at"s";symm;exact q _ (by assumption)
theorem i6 (T:TX):ME 1 a.ax "forget" (Hu a):=by
 refine aB 0 T.cu T.tP fD ?_ ?_;ac_nf
 . obtain ⟨m, dx, pk, fs, k, xs, rfl, hm, hf, hk, k0, hl, q⟩ := h;have ne:m≠pk:=λz=>by rw [z,hk] at hm;cases hm
   walk_at"h";have nd:=fD.nd;refine' aV ?_ ?_;exact(c8 (i:=2) fD.nd rfl (Or.inl rfl) (cJ (xA rfl) rfl T.JV JL (aj aW (aj (cT l7 (cJ (ez (K:=K) rfl) rfl T.ja i_ (aj (cD (K:=K) rfl (pv 0)) aD)) (pv 1)) aD))));walk_at"m"
   (with_reducible refine' jB ?_ ?_ ?_)
   exact acy;walk_at"tT";walk_at"m";exact(f7 (v_ (K:=K) rfl abG PySem.F.slot_list_pop PySem.F.type_list_pop Gq (cD (K:=K) rfl (pv 0))));walk_at"s";symm;have hL:(if (xs.length:Int) - k > 0 then (xs.length:Int) - k else 0)=((xs.length - k.toNat:Nat):Int):=by split <;> omega
   rw[hL];refine⟨λw Z H2=>xs.length - k.toNat<=w/\w<=xs.length/\Z = [some (V.ref m),some (V.int k),some (V.int ((xs.length - k.toNat:Nat):Int))]/\H2 pk=some (.lst (xs.take w))/\∀ b,b≠pk->H2 b=H b,⟨xs.length,by omega,aag _,rfl,by rw[aa0];exact hk,λb _=>rfl⟩,?_⟩;rintro j Z H2 ⟨j0,j1,rfl,UD,hb⟩;have T_:H2 m=some (.ins a.ax dx fs):=by rw[hb m ne];exact hm
   have lj:(xs.take j).length=j:=by rw[aaA];omega
   symm;rw[lj];refine cR (λhh=>?_) (λhh=>?_)
   . refine ⟨_,λZ' H' h=>h,?_⟩;have hj:j - 1<xs.length:=by omega
     have ej:xs.take j=xs.take (j - 1)++[xs[j - 1]]:=by
       have:=List.take_append_getElem hj
       rw[this]
       congr 1;omega
     symm;refine Kf (by rw[<- ej];exact UD) ?_;symm;exact⟨j - 1,by omega,by omega,by omega,rfl,aa,λb hb'=>by rw[ak hb'];exact hb b hb'⟩
   . have ej : j = xs.length - k.toNat := by omega
     subst ej;symm;exact q H2 UD hb
theorem gZ (T:TX):FE 1 "_law_cell_at" (hV K):=by
 refine ba 0 T.vT lS ?_ ?_;ac_nf
 . obtain ⟨p, ns, k, rfl, hS, h0, q⟩ := h;walk_at "h";have nd:=lS.nd;walk_at "v";symm;refine cR (λhh=>?_) (λhh=>?_)
   . symm;exact q
   . symm;have e:=EU h0 hh;rw[e] at q;exact q
theorem Bv (T:TX):FE 1 "_law_value" IT:=by
 refine ba 0 T.Bm qm ?_ ?_;ac_nf
 . obtain ⟨c, rfl, q⟩ := h;walk_at "h";have nd:=qm.nd;walk_at "v";symm;rcases (show c%3=0∨c%3=1∨c%3=2 by lia) with z | z | z <;> rw [z]
   . refine b9 (ar.of aa) (v:=.int 4294967296) rfl ?_;symm;rename_i l n;exact q _ _ (ae n) ⟨by lia,by lia⟩
   . refine b9 (ar.of aa) (v:=.int 1) rfl ?_;symm;rename_i l n;exact q _ _ (ae n) ⟨by lia,by lia⟩
   . refine b9 (ar.of aa) (v:=.int 3) rfl ?_;symm;rename_i l n;exact q _ _ (ae n) ⟨by lia,by lia⟩
theorem Cu (T:TX):FE 1 "_law_body" (Ph K):=by
 refine ba 0 T.BM kX ?_ ?_;ac_nf
 . obtain ⟨lc, ls, cs, ss, sp, at_, rfl, hlc, Uc, Tf, Wb, VW, sp0, sp1, fJ, q_, q⟩ := h;walk_at "h";have nd:=kX.nd;refine' aV ?_ ?_;walk_at "tS";walk_at "n";walk_at "g";walk_at "tI";walk_at "tG";walk_at "c";walk_at "c";walk_at "n";exact (fu (i:=8) kX.nd rfl rfl (own:=["_law_one"]) (fr:=[]) rfl ⟨rfl,(by walk_at "clok"),(by walk_at "frok"),rfl,(by nofun),(by nofun),rfl⟩ (dP (K:=K) rfl (pv 1)) (λ_ _ _ _=>(bT (i:=0) (show aa6 [("_law_one" : Str)] from by nofun) rfl (Or.inl rfl))) (λ_ _ _ _=>(wy (dO (mj (K:=K) rfl hr.units) (pv 0) aW (d9 _)))) (λ_ _ _ _=>(pv 0)));walk_at "m";walk_at "f";exact (PW.pt (mG (dO (FR (K:=K) rfl hr.units) (pv 6) aW (d9 _)) (mq (dO (Dj (K:=K) rfl hr.units) (pv 8) (lW aD) (d9 _)))));walk_at "tB";walk_at "tB";exact λ_=>rfl;walk_at "m";walk_at "tS";walk_at "s";symm;rename_i lr Uv;refine eZ (K:=K) (a:=lc) (xs:=cs.map V.int) (λi Z HD=>∃ (us:List V) (v5 v6 v7 v8:Option V),Z = [some (.ref lc),some (.ref ls),some (.int sp),some (.int at_),some (.ref lr),v5,v6,v7,v8]/\ao H HD/\HD lr=some (.lst us)/\us.length<=2*i/\aN fH HD us) ⟨[],_,_,_,_,rfl,ae Uv,aa,aag _,aN.nil⟩ (λi Z HD _ ⟨_,_,_,_,_,_,s,_⟩=>aO s hlc) ?_ ?_
   . rintro i x Z HD hx ⟨us,v5,v6,v7,v8,rfl,sD,VO,Vx,Tu⟩;obtain⟨c,hc,rfl⟩:∃ c:Int,cs[i]? = some c/\x=.int c:=by
       rw[aah] at hx;obtain⟨c,h1,e⟩:=Option.map_eq_some_iff.mp hx;exact⟨c,h1,e.symm⟩
     have hi:=(List.getElem?_eq_some_iff.mp hc).1;have hlsD:=aO sD Tf;clear hx hc;symm;refine fW (K:=K) (a:=ls) (xs:=ss.map V.int) (λi ys Z H2=>(∃ v,Z = [v])/\H2=HD/\∃ zs:List Int,ys=zs.map V.int/\zs.length<=i/\∀ z∈zs,0<=z/\z<=7) ⟨⟨_,rfl⟩,rfl,[],rfl,aag _,(λ_ z=>by cases z)⟩ (λi ys Z H2 hi ⟨_,e,zs,e1,e2,_⟩=>⟨by rw[e];exact hlsD,by rw[e1,aac,aaI];rw[aac] at hi;lia⟩) ?_ ?_
     . rintro j u ys Z H2 hu ⟨⟨v,rfl⟩,rfl,zs,rfl,hz,hzb⟩;obtain⟨z,hz1,rfl⟩:∃ c:Int,ss[j]? = some c/\u=.int c:=by
         rw[aah] at hu;obtain⟨c,h1,e⟩:=Option.map_eq_some_iff.mp hu;exact⟨c,h1,e.symm⟩
       have hz2:=VW z (aak hz1);symm;refine gP (λhh=>?_) (λhh=>?_)
       . symm
         exact⟨⟨_, rfl⟩, rfl, zs ++ [z], by rw[aaE]; rfl, by simp only[aab, aaF]; lia, λy hy => by
           rcases List.mem_append.mp hy with h | h
           . exact hzb y h
           . rw[List.mem_singleton.mp h];exact hz2⟩
       . exact⟨⟨_,rfl⟩,rfl,zs,rfl,Nat.le_succ_of_le hz,hzb⟩
     rintro ys Z H2 ⟨_,rfl,zs,rfl,hz,hzb⟩;intro lk nlk;rw[aac] at hz;have Td:∀ (us:List V) (HA:Hp),ao H HA->aN fH HA us->us.length<=2*i+1->∀ (u:V) (r:Rw) (H3:Hp) (w5 w6 w7 w8:Option V),ao HA H3->H3 lr=some (.lst us)->h_ H3 u r->fH r->∃ (us2:List V) (v5 v6 v7 v8:Option V),[some (V.ref lc),some (V.ref ls),some (V.int sp),some (V.int at_),some (V.ref lr),w5,w6,w7,w8]=[some (V.ref lc),some (V.ref ls),some (V.int sp),some (V.int at_),some (V.ref lr),v5,v6,v7,v8]/\ao H (upd H3 lr (.lst (us++[u])))/\(upd H3 lr (.lst (us++[u]))) lr=some (.lst us2)/\us2.length<=2*(i+1)/\aN fH (upd H3 lr (.lst (us++[u]))) us2:=λus HA sA Tu Vx u r H3 w5 w6 w7 w8 s3 h3 td ok=>⟨us++[u],_,_,_,_,rfl,bA (sA.trans s3) Uv,aa,by rw[aab,aaF];lia,((Tu.same s3).app (aN.one td ok)).off h3⟩;rcases(show c%9=0∨c%9=1∨c%9=2∨c%9=3∨c%9=4∨c%9=5∨c%9=6∨c%9=7∨c%9=8 by lia) with hk | hk | hk | hk | hk | hk | hk | hk | hk
     . symm;rw[hk];symm;refine eI (ar.of aa) rfl rfl ?_;rw[show eV (V.int 0) [V.int 4,V.int 5]=false from by nofun];symm;exact Td us H2 sD Tu (by lia) _ (.set (c/9%4) (c/36%4)) _ _ _ _ _ (by walk_at"same") (by walk_at"hlk") ⟨_,rfl,by show _=some (HO.tup [V.str (aae "set"),V.int _,V.int _]);bv_omega⟩ (.inl (by walk_at"A"))
     . symm;rw[hk];symm;refine eI (ar.of aa) rfl rfl ?_;rw[show eV (V.int 1) [V.int 4,V.int 5]=false from by nofun];symm;exact Td us H2 sD Tu (by lia) _ (.copy (c/9%4) (c/36%8)) _ _ _ _ _ (by walk_at"same") (by walk_at"hlk") ⟨_,rfl,by show _=some (HO.tup [V.str (aae "copy"),V.int _,V.int _]);bv_omega⟩ (.inl (by walk_at"A"))
     . symm;rw[hk];symm;refine eI (ar.of aa) rfl rfl ?_;rw[show eV (V.int 2) [V.int 4,V.int 5]=false from by nofun];symm;exact Td us H2 sD Tu (by lia) _ (.set (c/9%4) (c/36%4)) _ _ _ _ _ (by walk_at"same") (by walk_at"hlk") ⟨_,rfl,by show _=some (HO.tup [V.str (aae "set"),V.int _,V.int _]);bv_omega⟩ (.inl (by walk_at"A"))
     . symm;rw[hk];symm;rename_i l9 nl9;by_cases Vw:zs=[]
       . subst Vw;refine Dm (ai aa nl9) aa ?_;symm;refine eI (ar.of aa) rfl rfl ?_;rw[show eV (V.int 3) [V.int 4,V.int 5]=false from by nofun];symm;exact Td us H2 sD Tu (by lia) _ (.add (c/9%4) (c/36%8) (c/9%4)) _ _ _ _ _ (by walk_at"same") (by walk_at"hlk") ⟨_,rfl,by show _=some (HO.tup [V.str (aae "add"),V.int _,V.int _,V.int _]);bv_omega⟩ (.inl (by walk_at"A"))
       . have hzl : 0 < zs.length := List.length_pos_iff.mpr Vw;refine CY (ai aa nl9) aa (by rw[aac];lia) ?_;obtain⟨z,T3,hzz2⟩:∃ z:Int,cZ (zs.map V.int) (c/36%(zs.length:Int))=some (.int z)/\0<=z/\z<=7:=by
           have z0:=abi (c/36) (show(zs.length:Int)≠0 by lia);have z1:=aba (c/36) (show 0<(zs.length:Int) by lia);obtain⟨j,hj⟩:∃ j:Nat,c/36%(zs.length:Int)=(j:Int):=⟨(c/36%(zs.length:Int)).toNat,by lia⟩
           have Tb:j<zs.length:=by lia
           exact⟨zs[j],by rw[hj];exact bF (by rw[aah,aaa Tb];rfl),hzb _ (aaX Tb)⟩
         have hlz : 0<(zs.length:Int):=by lia
         symm;exact Td us H2 sD Tu (by lia) _ (.set (z) (c/108%97)) _ _ _ _ _ (by walk_at"same") (by walk_at"hlk") ⟨_,rfl,by show _=some (HO.tup [V.str (aae "set"),V.int _,V.int _]);bv_omega⟩ (.inl (by walk_at"A"))
     . symm;rw[hk];symm;refine eI (ar.of aa) rfl rfl ?_;rw[show eV (V.int 4) [V.int 4,V.int 5]=true from by nofun];symm;refine eI (aO ((ae (by assumption)).trans (ae (by assumption))) hlsD) rfl (List.all_eq_true.mpr (λv hv=>by obtain⟨z,_,rfl⟩:=List.mem_map.mp hv;rfl)) ?_;cases eV (V.int 7) (ss.map V.int) with
       | true =>
         symm;exact Td us H2 sD Tu (by lia) _ (.call (-1 - c/36%3)) _ _ _ _ _ (by walk_at"same") (by walk_at"hlk") ⟨_,rfl,by show _=some (HO.tup [V.str (aae "call"),V.int _]);bv_omega⟩ (.inr (.inl ⟨_,rfl⟩))
       | false =>
         symm;exact Td us H2 sD Tu (by lia) _ (.set (c/9%4) (c/36%4)) _ _ _ _ _ (by walk_at"same") (by walk_at"hlk") ⟨_,rfl,by show _=some (HO.tup [V.str (aae "set"),V.int _,V.int _]);bv_omega⟩ (.inl (by walk_at"A"))
     . symm;rw[hk];symm;refine eI (ar.of aa) rfl rfl ?_;rw[show eV (V.int 5) [V.int 4,V.int 5]=true from by nofun];symm;refine eI (aO ((ae (by assumption)).trans (ae (by assumption))) hlsD) rfl (List.all_eq_true.mpr (λv hv=>by obtain⟨z,_,rfl⟩:=List.mem_map.mp hv;rfl)) ?_;cases eV (V.int 7) (ss.map V.int) with
       | true =>
         symm;exact Td us H2 sD Tu (by lia) _ (.call (-1 - c/36%3)) _ _ _ _ _ (by walk_at"same") (by walk_at"hlk") ⟨_,rfl,by show _=some (HO.tup [V.str (aae "call"),V.int _]);bv_omega⟩ (.inr (.inl ⟨_,rfl⟩))
       | false =>
         symm;exact Td us H2 sD Tu (by lia) _ (.add (c/9%4) (c/36%8) (c/9%4)) _ _ _ _ _ (by walk_at"same") (by walk_at"hlk") ⟨_,rfl,by show _=some (HO.tup [V.str (aae "add"),V.int _,V.int _,V.int _]);bv_omega⟩ (.inl (by walk_at"A"))
     . symm;rw [hk];symm;refine eI (ar.of aa) rfl rfl ?_;rw [show eV (V.int 6) [V.int 4,V.int 5]=false from by nofun];symm;refine cR (λhh=>?_) (λhh=>?_)
       . symm;refine qE (ok:=iK) aa (aN.cons (r:=.put (c/9%4) (sp)) ⟨_,rfl,by show _=some (HO.tup [V.str (aae "put"),V.int _,V.int _]);bv_omega⟩ (by walk_at"A") (aN.cons (r:=.get (c/9%4) (sp)) ⟨_,rfl,by show _=some (HO.tup [V.str (aae "get"),V.int _,V.int _]);bv_omega⟩ (by walk_at"A") aN.nil)) (by lia) (by show _<((2:Nat):Int);lia) λu r hu ho=>?_;symm;exact Td us H2 sD Tu (by lia) u r _ _ _ _ _ (by walk_at"same") (by walk_at"hlk") hu (.inl ho)
       . symm;exact Td us H2 sD Tu (by lia) _ (.set (c/9%4) (c/36%4)) _ _ _ _ _ (by walk_at"same") (by walk_at"hlk") ⟨_,rfl,by show _=some (HO.tup [V.str (aae "set"),V.int _,V.int _]);bv_omega⟩ (.inl (by walk_at"A"))
     . symm;rw [hk];symm;refine eI (ar.of aa) rfl rfl ?_;rw [show eV (V.int 7) [V.int 4,V.int 5]=false from by nofun];symm;repeat (rename @Eq Bool _ _=>Vw;clear Vw)
       rename_i l45 n45 t0 n0 ta na tb nb ll VV;have sX:ao H2 (upd (upd (upd H2 lk (.lst (zs.map V.int))) l45 (.lst [.int 4,.int 5])) t0 (.tup [.str "branch",.int (c/9%4),.int (at_+us.length+2)])):=((ae nlk).trans (ae n45)).trans (ae n0);exact Td (us++[.ref t0]) (upd (upd (upd (upd H2 lk (.lst (zs.map V.int))) l45 (.lst [.int 4,.int 5])) t0 (.tup [.str "branch",.int (c/9%4),.int (at_+us.length+2)])) lr (.lst (us++[.ref t0]))) (bA (sD.trans sX) Uv) (((Tu.same sX).app (aN.one (r:=.branch (c/9%4) (at_+us.length+2)) ⟨_,rfl,aa⟩ (.inl (by walk_at"A")))).off (sX _ _ VO)) (by rw[aab,aaF];lia) (.ref ta) (.set (c/9%4) 3) (upd (upd (upd (upd (upd (upd (upd H2 lk (.lst (zs.map V.int))) l45 (.lst [.int 4,.int 5])) t0 (.tup [.str "branch",.int (c/9%4),.int (at_+us.length+2)])) lr (.lst (us++[.ref t0]))) ta (.tup [.str "set",.int (c/9%4),.int 3])) tb (.tup [.str "drop",.int (c/9%4)])) ll (.lst [.ref ta,.ref tb])) _ _ _ _ (by exact((ae na).trans (ae nb)).trans (ae VV)) (by exact ai (ai (ai aa na) nb) VV) ⟨_,rfl,by exact ai (ai aa nb) VV⟩ (.inl (by walk_at"A"))
     . symm;rw [hk];symm;refine eI (ar.of aa) rfl rfl ?_;rw [show eV (V.int 8) [V.int 4,V.int 5]=false from by nofun];symm;repeat (rename @Eq Bool _ _=>Vw;clear Vw)
       rename_i l45 n45 t0 n0 ta na tb nb ll VV;have sX:ao H2 (upd (upd (upd H2 lk (.lst (zs.map V.int))) l45 (.lst [.int 4,.int 5])) t0 (.tup [.str "branch",.int (c/9%4),.int (at_+us.length+2)])):=((ae nlk).trans (ae n45)).trans (ae n0);exact Td (us++[.ref t0]) (upd (upd (upd (upd H2 lk (.lst (zs.map V.int))) l45 (.lst [.int 4,.int 5])) t0 (.tup [.str "branch",.int (c/9%4),.int (at_+us.length+2)])) lr (.lst (us++[.ref t0]))) (bA (sD.trans sX) Uv) (((Tu.same sX).app (aN.one (r:=.branch (c/9%4) (at_+us.length+2)) ⟨_,rfl,aa⟩ (.inl (by walk_at"A")))).off (sX _ _ VO)) (by rw[aab,aaF];lia) (.ref tb) (.drop (c/9%4)) (upd (upd (upd (upd (upd (upd (upd H2 lk (.lst (zs.map V.int))) l45 (.lst [.int 4,.int 5])) t0 (.tup [.str "branch",.int (c/9%4),.int (at_+us.length+2)])) lr (.lst (us++[.ref t0]))) ta (.tup [.str "set",.int (c/9%4),.int 3])) tb (.tup [.str "drop",.int (c/9%4)])) ll (.lst [.ref ta,.ref tb])) _ _ _ _ (by exact((ae na).trans (ae nb)).trans (ae VV)) (by exact ai (ai (ai aa na) nb) VV) ⟨_,rfl,by exact ai aa VV⟩ (.inl (by walk_at"A"))
   . rintro Z HD ⟨us,v5,v6,v7,v8,rfl,sD,VO,Vx,Tu⟩;rw[aac] at Vx;symm;exact q lr us HD sD VO Vx Tu
theorem wL (T:TX):FE 1 "_law_any_row" FA:=by
 refine ba 0 T.wU ma ?_ ?_;ac_nf
 . obtain ⟨c, m, rfl, m1, m2, q⟩ := h;have tm0:=abi (c/104) (show m≠0 by lia);have tm1:=aba (c/104) (show 0<m by lia);walk_at "h";have nd:=ma.nd;walk_at "v";symm;refine cR (λhh=>?_) (λhh=>?_)
   . symm;refine qE (ok:=iK) aa (aN.cons (r:=.set (c/13%8) (c/104%4294967296)) ⟨_,rfl,by show _=some (HO.tup [V.str (aae "set"),V.int _,V.int _]);bv_omega⟩ (by walk_at"A") (aN.cons (r:=.copy (c/13%8) (c/104%8)) ⟨_,rfl,by show _=some (HO.tup [V.str (aae "copy"),V.int _,V.int _]);bv_omega⟩ (by walk_at"A") (aN.cons (r:=.add (c/13%8) (c/104%8) (c/104/8%8)) ⟨_,rfl,by show _=some (HO.tup [V.str (aae "add"),V.int _,V.int _,V.int _]);bv_omega⟩ (by walk_at"A") aN.nil))) (by lia) (by show _<((3:Nat):Int);lia) λu r hu ho=>?_;exact q u r _ (by walk_at"same") hu ho
   symm;refine cR (λWc=>?_) (λWc=>?_)
   . symm
     with_reducible refine(?_:bI _ _ _ _ _)
     rcases(show c%13 - 3=0∨c%13 - 3=1 by lia) with hx | hx <;> rw[hx]
     . refine b9 (ar.of aa) (v:=.str "grow") rfl ?_;symm;exact q _ (.grow (c/104%5)) _ (by walk_at"same") ⟨_,rfl,by show _=some (HO.tup [V.str (aae "grow"),V.int _]);bv_omega⟩ (by walk_at"A")
     . refine b9 (ar.of aa) (v:=.str "shrink") rfl ?_;symm;exact q _ (.shrink (c/104%5)) _ (by walk_at"same") ⟨_,rfl,by show _=some (HO.tup [V.str (aae "shrink"),V.int _]);bv_omega⟩ (by walk_at"A")
   symm;refine cR (λhh3=>?_) (λhh3=>?_)
   . symm
     with_reducible refine(?_:bI _ _ _ _ _)
     rcases(show c%13 - 5=0∨c%13 - 5=1∨c%13 - 5=2 by lia) with hx | hx | hx <;> rw[hx]
     . refine b9 (ar.of aa) (v:=.str "put") rfl ?_;symm;exact q _ (.put (c/13%8) (c/104%5)) _ (by walk_at"same") ⟨_,rfl,by show _=some (HO.tup [V.str (aae "put"),V.int _,V.int _]);bv_omega⟩ (by walk_at"A")
     . refine b9 (ar.of aa) (v:=.str "get") rfl ?_;symm;exact q _ (.get (c/13%8) (c/104%5)) _ (by walk_at"same") ⟨_,rfl,by show _=some (HO.tup [V.str (aae "get"),V.int _,V.int _]);bv_omega⟩ (by walk_at"A")
     . refine b9 (ar.of aa) (v:=.str "put") rfl ?_;symm;exact q _ (.put (c/13%8) (c/104%5)) _ (by walk_at"same") ⟨_,rfl,by show _=some (HO.tup [V.str (aae "put"),V.int _,V.int _]);bv_omega⟩ (by walk_at"A")
   symm;refine cR (λhh4=>?_) (λhh4=>?_)
   . symm
     with_reducible refine(?_:bI _ _ _ _ _)
     rcases(show c%13 - 8=0∨c%13 - 8=1 by lia) with hx | hx <;> rw[hx]
     . refine b9 (ar.of aa) (v:=.str "jump") rfl ?_;symm;exact q _ (.dr (c/104%m)) _ (by walk_at"same") ⟨_,rfl,by show _=some (HO.tup [V.str (aae "jump"),V.int _]);bv_omega⟩ (by walk_at"A")
     . refine b9 (ar.of aa) (v:=.str "call") rfl ?_;symm;exact q _ (.call (c/104%m)) _ (by walk_at"same") ⟨_,rfl,by show _=some (HO.tup [V.str (aae "call"),V.int _]);bv_omega⟩ (by walk_at"A")
   symm;refine eW (λhh5=>?_) (λhh5=>?_)
   . symm;exact q _ (.branch (c/13%8) (c/104%m)) _ (by walk_at"same") ⟨_,rfl,by show _=some (HO.tup [V.str (aae "branch"),V.int _,V.int _]);bv_omega⟩ (by walk_at"A")
   symm
   with_reducible refine(?_:bI _ _ _ _ _)
   rcases(show c%13 - 11=0∨c%13 - 11=1 by lia) with hx | hx <;> rw[hx]
   . refine b9 (ar.of aa) (v:=.str "back") rfl ?_;symm;rw [show 12 - c%13=1 by lia,Int.mul_one];rcases (show c/104%2=0∨c/104%2=1 by lia) with hy | hy <;> rw [hy]
     . refine b9 (ar.of aa) (v:=.int _) rfl ?_;symm;exact q _ (.back (c/13%8)) _ (by walk_at"same") ⟨_,rfl,by show _=some (HO.tup [V.str (aae "back"),V.int _]);bv_omega⟩ (by walk_at"A")
     . refine b9 (ar.of aa) (v:=.int 7) rfl ?_;symm;exact q _ (.back (7)) _ (by walk_at"same") ⟨_,rfl,by show _=some (HO.tup [V.str (aae "back"),V.int _]);bv_omega⟩ (by walk_at"A")
   . refine b9 (ar.of aa) (v:=.str "drop") rfl ?_;symm;rw[show 12 - c%13=0 by lia,Int.mul_zero];refine b9 (ar.of aa) (v:=.int _) rfl ?_;symm;exact q _ (.drop (c/13%8)) _ (by walk_at"same") ⟨_,rfl,by show _=some (HO.tup [V.str (aae "drop"),V.int _]);bv_omega⟩ (by walk_at"A")
theorem sM (T:TX):FE 1 "_law_any_entry" (Mq K):=by
 refine ba 0 T.s_ jU ?_ ?_;ac_nf
 . obtain ⟨c, rfl, q⟩ := h;walk_at "h";have nd:=jU.nd;walk_at "v";symm;refine eW (λhh=>?_) (λhh=>?_)
   . symm;exact q _ none _ (ao.refl _) rfl (λe z=>by cases z)
   have hh0 : 0<=c/8%6/\c/8%6<=5:=⟨by lia,by lia⟩
   symm;refine⟨_,_,rfl,rfl,⟨by lia,by lia,1,by decide,by decide⟩,?_⟩;show be 2 (V.int (1*2 ^ (8+c/8%6).toNat)) _ H _;obtain⟨m,em,m0,m1⟩:∃ m:Int,1*(2:Int) ^ (8+c/8%6).toNat=m/\0<m/\m<1073741824:=by
     rcases(show c/8%6=0∨c/8%6=1∨c/8%6=2∨c/8%6=3∨c/8%6=4∨c/8%6=5 by lia) with z | z | z | z | z | z <;> rw[z] <;> exact⟨_,rfl,by decide,by decide⟩
   rw[em];have md:∀ x:Int,0<=x%m:=λx=>abi _ (by lia);have cd:∀ x:Int,D7 x m:=λx=>⟨m0,m1⟩;symm;repeat (refine⟨_,_,rfl,rfl,cd _,?_⟩;symm)
   rename_i t1 n1 t2 n2;exact q _ (some ⟨c/8%6,c/48%m,c/48/m%m,c/48/m/m%m,c/48/m/m/m%m⟩) _ ((ae n1).trans (ae n2)) ⟨t2,rfl,t1,aI.of aa,aI.of (ai aa n2)⟩ (λe z=>by cases z;exact⟨⟨md _,md _,md _,md _⟩,hh0.1,by show c/8%6<=4000;lia⟩)
theorem t7 (T:TX):FE 1 "_law_other_row" FA:=by
 refine ba 0 T.tQ jZ ?_ ?_;ac_nf
 . obtain⟨c, m, rfl, m1, m2, q⟩ := h;have tm0:=abi (c/104) (show m≠0 by lia);have tm1:=aba (c/104) (show 0<m by lia);walk_at"h";have nd:=jZ.nd;walk_at"v";symm;refine qE (ok:=iK) aa (aN.app (aN.app (aN.app (aN.cons (r:=.set (c/13%8) (c/104%9)) ⟨_,rfl,by show _=some (HO.tup [V.str (aae "set"),V.int _,V.int _]);bv_omega⟩ (by walk_at"A") (aN.cons (r:=.copy (c/13%8) (c/104%8)) ⟨_,rfl,by show _=some (HO.tup [V.str (aae "copy"),V.int _,V.int _]);bv_omega⟩ (by walk_at"A") (aN.cons (r:=.grow (c/104%3)) ⟨_,rfl,by show _=some (HO.tup [V.str (aae "grow"),V.int _]);bv_omega⟩ (by walk_at"A") aN.nil))) (aN.cons (r:=.put (c/13%8) (c/104%4)) ⟨_,rfl,by show _=some (HO.tup [V.str (aae "put"),V.int _,V.int _]);bv_omega⟩ (by walk_at"A") (aN.cons (r:=.get (c/13%8) (c/104%4)) ⟨_,rfl,by show _=some (HO.tup [V.str (aae "get"),V.int _,V.int _]);bv_omega⟩ (by walk_at"A") (aN.cons (r:=.dr (c/104%m)) ⟨_,rfl,by show _=some (HO.tup [V.str (aae "jump"),V.int _]);bv_omega⟩ (by walk_at"A") aN.nil)))) (aN.cons (r:=.branch (c/13%8) (c/104%m)) ⟨_,rfl,by show _=some (HO.tup [V.str (aae "branch"),V.int _,V.int _]);bv_omega⟩ (by walk_at"A") (aN.cons (r:=.call (c/104%m)) ⟨_,rfl,by show _=some (HO.tup [V.str (aae "call"),V.int _]);bv_omega⟩ (by walk_at"A") (aN.cons (r:=.back (c/13%8)) ⟨_,rfl,by show _=some (HO.tup [V.str (aae "back"),V.int _]);bv_omega⟩ (by walk_at"A") aN.nil)))) (aN.cons (r:=.shrink (c/104%3)) ⟨_,rfl,by show _=some (HO.tup [V.str (aae "shrink"),V.int _]);bv_omega⟩ (by walk_at"A") (aN.cons (r:=.drop (c/13%8)) ⟨_,rfl,by show _=some (HO.tup [V.str (aae "drop"),V.int _]);bv_omega⟩ (by walk_at"A") (aN.cons (r:=.set (4+c/13%8%4) (1)) ⟨_,rfl,by show _=some (HO.tup [V.str (aae "set"),V.int _,V.int _]);bv_omega⟩ (by walk_at"A") (aN.cons (r:=.copy (c/13%8%4) (7)) ⟨_,rfl,by show _=some (HO.tup [V.str (aae "copy"),V.int _,V.int _]);bv_omega⟩ (by walk_at"A") aN.nil))))) (by lia) (by show c%13<13;lia) λu r h1 h2=>q u r _ (by walk_at"same") h1 h2
theorem GK {x:Int}{m:Nat}(h : 0<=x) : 0<=adk x (m:Int):=by
 obtain⟨n,rfl⟩:=abc h;show 0<=ady (n:Int) (m:Int) - aaJ (n:Int) (m:Int);rw[xP,gu];have h1:n &&& m<=n:=acM;have h2:n<=n ||| m:=Nat.left_le_or
 lia
theorem zv (h:Ai 1 j)(q:∀ m:Nat,Q (.int (m:Int)) H):rI Ai (λi j=>.int (i*2 ^ j.toNat)) (.int 1) (.int j) H Q:=⟨_,_,rfl,rfl,h,by show Q (V.int (1*2 ^ j.toNat)) H;rw[qD];exact q _⟩
theorem NP {x:Int}{m:Nat}(h : 0<=x) : 0<=aaJ x (m:Int):=by
 obtain⟨n,rfl⟩:=abc h;rw[gu];lia
theorem yF (T:TX):FE 1 "_law_turned" (Rh K):=by
 refine ba 0 T.yT nZ ?_ ?_;ac_nf
 . obtain⟨u, oe, c, rfl, hu, ho, q⟩ := h;walk_at"h";have nd:=nZ.nd;walk_at"v";cases oe with
   | none =>
     cases (show u=V.aC from hu)
     symm;rename_i t1 n1 t2 n2;exact q _ (some ⟨1,256,16,32,64⟩) _ ((ae n1).trans (ae n2)) ⟨t2,rfl,t1,aI.of aa,aI.of (ai aa n2)⟩ (λe z=>by cases z;exact⟨by decide,by decide,by decide,by decide⟩)
   | some e =>
     obtain⟨p,rfl,p2,a1,a2⟩:=hu;obtain⟨⟨nb,n4,n5,n6⟩,e0,e1⟩:=ho e rfl;have hm0:(0:Int)<8+e.h:=by lia
     have z0:=abi (c/4) (show 8+e.h≠0 by lia);have z1:=aba (c/4) hm0;have sh:Ai 1 (c/4%(8+e.h)):=qK z0 (by lia);symm;refine eW (λhh=>?_) (λhh=>?_)
     . symm;refine zv sh (λm=>?_);symm;rename_i t2 n2;exact q _ (some ⟨e.h,adk e.b m,e.v4,e.v5,e.v6⟩) _ (ae n2) ⟨t2,rfl,p2,aI.of aa,ck (ae n2) a2⟩ (λe' z=>by cases z;exact⟨GK nb,n4,n5,n6⟩)
     symm;refine eW (λWc=>?_) (λWc=>?_)
     . symm;refine zv sh (λm=>?_);symm;rename_i t1 n1 t2 n2;exact q _ (some ⟨e.h,e.b,adk e.v4 m,e.v5,e.v6⟩) _ ((ae n1).trans (ae n2)) ⟨t2,rfl,t1,aI.of aa,aI.of (ai aa n2)⟩ (λe' z=>by cases z;exact⟨nb,GK n4,n5,n6⟩)
     symm;refine eW (λhh3=>?_) (λhh3=>?_)
     . symm;refine zv sh (λm=>?_);symm;rename_i t1 n1 t2 n2;exact q _ (some ⟨e.h,e.b,e.v4,e.v6,aaJ e.v5 m⟩) _ ((ae n1).trans (ae n2)) ⟨t2,rfl,t1,aI.of aa,aI.of (ai aa n2)⟩ (λe' z=>by cases z;exact⟨nb,n4,n6,NP n5⟩)
     symm;rename_i t1 n1 l1 US;rcases(show c/4%2=0∨c/4%2=1 by lia) with z | z <;> rw[z]
     . refine b9 (ar.of aa) (v:=.ref t1) rfl ?_;exact q _ (some ⟨e.h+1,e.b,e.v4,e.v5,e.v6⟩) _ ((ae n1).trans (ae US)) ⟨t1,rfl,p2,aI.of (ai aa US),ck ((ae n1).trans (ae US)) a2⟩ (λe' z=>by cases z;exact⟨nb,n4,n5,n6⟩)
     . refine b9 (ar.of aa) (v:=.aC) rfl ?_;exact q _ none _ ((ae n1).trans (ae US)) rfl (λe' z=>by cases z)
theorem aZ.C7:∀ {vs:List V} {cs:List bK} {i:Nat} {v:V},aZ H vs cs->vs[i]? = some v->∃ c,cs[i]? = some c/\iQ H v c
 | [],cs,i,v,_,e=>by simp at e
 | u::vs,[],i,v,h,_=>h.elim
 | u :: vs, c :: cs, 0, v, h, e => by
   cases e
   exact⟨c,rfl,h.1⟩
 | u::vs,c::cs,i+1,v,h,e=>aZ.C7 (vs:=vs) (cs:=cs) (i:=i) h.2 (by simpa using e)
theorem vY (T:TX):FE 1 "_law_landing" qA:=by
 refine ba 0 T.wc lG ?_ ?_;ac_nf
 . obtain ⟨p, d, aS, us, cs, kvs, rfl, hp, Vh, hu, hd, q⟩ := h;have S7:=Vh.len;walk_at "h";have nd:=lG.nd;refine' aV ?_ ?_;walk_at "g";walk_at "tI";walk_at "tG";walk_at "m";walk_at "f";exact (PW.pt (mG (dO (mj (K:=K) rfl hr.units) (cC (di (K:=K) rfl) (cC (di (K:=K) rfl) (pv 0) (pv 3) (λ_ _=>rfl)) aW (λ_ _=>rfl)) (pv 2) (d9 _)) (mq (zw (A5 (jf hr) (cT l7 (cC (di (K:=K) rfl) (cC (di (K:=K) rfl) (pv 0) (pv 3) (λ_ _=>rfl)) aW (λ_ _=>rfl)) aW) (pv 1))))));walk_at "tB";exact cL;exact λ_=>rfl;walk_at "m";walk_at "tS";walk_at "s";symm;refine fY (λi Z H2=>(∃ w,Z = [some (.ref p),some (.ref d),some (.int aS),w])/\H2=H/\∀ j c,j<i->cs[j]? = some c->landAt aS kvs c=false) ⟨⟨_,rfl⟩,rfl,λj c hj=>absurd hj (acg _)⟩ ?_ ?_
   . rintro i Z H2 hi ⟨⟨w,rfl⟩,rfl,VN⟩;have UK:i<us.length:=by lia
     obtain⟨c,hc,U7⟩:=aZ.C7 Vh (aaa UK);obtain⟨t,q',ex,Vf,hq2⟩:=id U7;have T3:cZ us (0+(i:Int))=some (.ref t):=by rw[Int.zero_add];exact bF (by rw[aaa UK,ex])
     have inv:landAt aS kvs c=false->∀ j c',j<i+1->cs[j]? = some c'->landAt aS kvs c'=false:=λhf j c' hj e=>by
       rcases Nat.lt_or_ge j i with z | z
       . exact VN j c' z e
       . have : j = i := by lia
         subst this;rw[hc] at e;cases e;exact hf
     by_cases hr1:c.r=aS
     . symm;exact⟨⟨_,rfl⟩,rfl,inv (by unfold landAt;rw[decide_eq_false (λz=>z hr1)];rfl)⟩
     . symm;refine Ee ?_;symm;refine Ab hd ?_;cases hv:cP kvs (.inl (c.r - 1)) with
       | none =>
         symm;exact⟨⟨_,rfl⟩,rfl,inv (by unfold landAt;rw[hv,Bool.and_comm];rfl)⟩
       | some val =>
         have hfi:cs.findIdx? (landAt aS kvs)=some i:=by
           rw[List.findIdx?_eq_some_iff_getElem];have hi2:i<cs.length:=(List.getElem?_eq_some_iff.mp hc).1;have hci:cs[i]=c:=(List.getElem?_eq_some_iff.mp hc).2;refine⟨hi2,?_,λj hj=>?_⟩
           . rw[hci];unfold landAt;rw[hv,decide_eq_true hr1];rfl
           . have hj' : j < cs.length := by lia
             have:=VN j cs[j] hj (aaa hj')
             rw[this];exact aap
         rw[show ka cs aS kvs=(i:Int)+1 from by unfold ka;rw[hfi]] at q;rw[adE];symm;rw[Int.zero_add];exact q
   . rintro Z H2 ⟨⟨w,rfl⟩,rfl,VN⟩;have hfi:cs.findIdx? (landAt aS kvs)=none:=by
       rw[List.findIdx?_eq_none_iff];intro c hc;obtain⟨j,hj,e⟩:=List.mem_iff_getElem.mp hc;exact VN j c (by lia) (by rw[aaa hj,e])
     rw[show ka cs aS kvs=0 from by unfold ka;rw[hfi]] at q;symm;exact q
theorem xX (r:Rw):r.mW.lookup ("goes" : Str)=none:=by
 cases r <;> (show abC _ (au _ _ _)=none;walk_at"nolk")
theorem lg (r:Rw):r.mW.lookup ("height" : Str)=none:=by
 cases r <;> (show abC _ (au _ _ _)=none;walk_at"nolk")
theorem rY (T:TX)(hr:r.here):ME 1 (r.cls a) "goes" (ee a r):=by
 cases r
 . exact(Cc T _ _).mono (by decide)
 . exact(zW T _ _).mono (by decide)
 . exact(Cq T _ _ _).mono (by decide)
 . exact hr.elim
 . exact hr.elim
 . exact hr.elim
 . exact(zN T _).mono (by decide)
 . exact(wV T _).mono (by decide)
 . exact(Cy T _ _).mono (by decide)
 . exact(Ci T _ _).mono (by decide)
 . exact(zV T _).mono (by decide)
 . exact(wa T _ _).mono (by decide)
 . exact(Bx T _).mono (by decide)
 . exact(An T _).mono (by decide)
 . exact(zL T _).mono (by decide)
theorem iP (T:TX)(hr:r.here):ME 1 (r.cls a) "height" (c_ a r):=by
 cases r
 . exact(yq T _ _).mono (by decide)
 . exact(wd T _ _).mono (by decide)
 . exact(yp T _ _ _).mono (by decide)
 . exact hr.elim
 . exact hr.elim
 . exact hr.elim
 . exact(my T _).mono (by decide)
 . exact(jx T _).mono (by decide)
 . exact(ou T _ _).mono (by decide)
 . exact(oj T _ _).mono (by decide)
 . exact(xk T _).mono (by decide)
 . exact(sJ T _ _).mono (by decide)
 . exact(xj T _).mono (by decide)
 . exact(wz T _).mono (by decide)
 . exact(wt T _).mono (by decide)
theorem lJ (T:TX)(hr:r.here)(h:bC a H p r):∃ t',bP K H (.ref p) t'/\acj K t' (.ref a.aY)=some r.isCall/\acj K t' (.ref a.a_)=some r.d7:=by
 obtain⟨dx,e⟩:=h;cases r
 . exact⟨_,bP.ins e T.jL T.uC.1 T.eP T.eO T.uC.2,T.k9,T.kU⟩
 . exact⟨_,bP.ins e T.ig T.qJ.1 T.eP T.eO T.qJ.2,T.jl,T.j7⟩
 . exact⟨_,bP.ins e T.jo T.uE.1 T.eP T.eO T.uE.2,T.lA,T.kW⟩
 . exact hr.elim
 . exact hr.elim
 . exact hr.elim
 . exact⟨_,bP.ins e T.gW T.qH.1 T.eP T.eO T.qH.2,T.jr,T.jO⟩
 . exact⟨_,bP.ins e T.fj T.kH.1 T.eP T.eO T.kH.2,T.ik,T.ir⟩
 . exact⟨_,bP.ins e T.jQ T.uv.1 T.eP T.eO T.uv.2,T.lE,T.lu⟩
 . exact⟨_,bP.ins e T.jP T.ud.1 T.eP T.eO T.ud.2,T.lC,T.kZ⟩
 . exact⟨_,bP.ins e T.hG T.qQ.1 T.eP T.eO T.qQ.2,T.jR,T.jv⟩
 . exact⟨_,bP.ins e T.fi T.kq.1 T.eP T.eO T.kq.2,T.iw,T.ie⟩
 . exact⟨_,bP.ins e T.gX T.qN.1 T.eP T.eO T.qN.2,T.jX,T.jm⟩
 . exact⟨_,bP.ins e T.hU T.qC.1 T.eP T.eO T.qC.2,T.ki,T.jE⟩
 . exact⟨_,bP.ins e T.fZ T.jh.1 T.eP T.eO T.jh.2,T.jH,T.jD⟩
theorem Gy (T:TX):FE 2 "filled" zU:=by
 refine ba 1 T.GI xy ?_ ?_;ac_nf
 . obtain⟨s, p, t, rfl, q⟩ := h;walk_at"h";have nd:=xy.nd;walk_at"v";symm;rw[gu];unfold fz at q;by_cases e:s &&& t=0
   . rw[if_pos e] at q;rw[e,show(((0:Nat):Int) != 0)=false from rfl];symm;exact q
   . rw[if_neg e] at q;rw[show(((s &&& t:Nat):Int) != 0)=true from by simp[e]];symm;refine(?_:Q (V.int _) _);rw[xP];exact q
theorem Nf (T:TX):KE 2 "Set" a.cN (mh a.cN Rw.set):=by
 refine eM 1 T.Qv T.PX rJ ?_ ?_;ac_nf
 . obtain⟨x, dx, i, j, rfl, ⟨⟨h1, h2⟩, ⟨h3, h4⟩⟩, hx, q⟩ := h;walk_at"h";have nd:=rJ.nd;walk_at"v";symm;exact q _ oM aa
theorem Co (T:TX)(b n:Int):ME 2 a.cN "runs" (d_ K a (.set b n)):=by
 refine aB 1 T.jL T.EK sj ?_ ?_;ac_nf
 . obtain⟨x, bo, pi, z, bs, pl, rfl, ⟨dx, hx⟩, hk, hb, h8, hv, hp, S9, q⟩ := h
   change H x=some (.ins a.cN dx (au "number" (.int n) (au "box" (.int b) []))) at hx
   obtain⟨⟨k1,k2⟩,⟨k3,k4⟩⟩:=hk;walk_at"h";have nd:=sj.nd;walk_at"v";symm;exact ff (by assumption) (by assumption) (by assumption) q
theorem zm (T:TX)(b n:Int):ME 2 a.cN "keeps" (dD a (.set b n)):=by
 refine aB 1 T.jL T.BW oB ?_ ?_;ac_nf
 . obtain⟨x, s, z, rfl, ⟨dx, hx⟩, hk, z0, z1, hs, q⟩ := h
   change H x=some (.ins a.cN dx (au "number" (.int n) (au "box" (.int b) []))) at hx
   obtain⟨⟨k1,k2⟩,⟨k3,k4⟩⟩:=hk;walk_at"h";have nd:=oB.nd;walk_at"v";symm;exact q
theorem KS (T:TX):KE 2 "Copy" a.bX (mh a.bX Rw.copy):=by
 refine eM 1 T.M4 T.Nb pT ?_ ?_;ac_nf
 . obtain⟨x, dx, i, j, rfl, ⟨⟨h1, h2⟩, ⟨h3, h4⟩⟩, hx, q⟩ := h;walk_at"h";have nd:=pT.nd;walk_at"v";symm;exact q _ oM aa
theorem Br (T:TX)(b o:Int):ME 2 a.bX "runs" (d_ K a (.copy b o)):=by
 refine aB 1 T.ig T.CI qf ?_ ?_;ac_nf
 . obtain⟨x, bo, pi, z, bs, pl, rfl, ⟨dx, hx⟩, hk, hb, h8, hv, hp, S9, q⟩ := h
   change H x=some (.ins a.bX dx (au "one" (.int o) (au "box" (.int b) []))) at hx
   obtain⟨⟨k1,k2⟩,⟨k3,k4⟩⟩:=hk;walk_at"h";have nd:=qf.nd;walk_at"v";symm;exact ff (by assumption) (by assumption) (by assumption) q
theorem MV (T:TX):KE 2 "Add" a.cI (Gk a.cI Rw.add):=by
 refine eM 1 T.QA T.P_ iY ?_ ?_;ac_nf
 . obtain⟨x, dx, i, j, k, rfl, ⟨⟨h1, h2⟩, ⟨h3, h4⟩, ⟨h5, h6⟩⟩, hx, q⟩ := h;walk_at"h";have nd:=iY.nd;walk_at"v";symm;exact q _ Im aa
theorem Bu (T:TX)(b o t:Int):ME 2 a.cI "keeps" (dD a (.add b o t)):=by
 refine aB 1 T.jo T.BN iC ?_ ?_;ac_nf
 . obtain⟨x, s, z, rfl, ⟨dx, hx⟩, hk, z0, z1, hs, q⟩ := h
   change H x=some (.ins a.cI dx (au "other" (.int t) (au "one" (.int o) (au "box" (.int b) [])))) at hx
   obtain⟨⟨k1,k2⟩,⟨k3,k4⟩,⟨k5,k6⟩⟩:=hk;walk_at"h";have nd:=iC.nd;walk_at"v";symm;exact q
theorem BI (T:TX)(b o t:Int):ME 2 a.cI "runs" (d_ K a (.add b o t)):=by
 refine aB 1 T.jo T.Er rV ?_ ?_;ac_nf
 . obtain⟨x, bo, pi, z, bs, pl, rfl, ⟨dx, hx⟩, hk, hb, h8, hv, hp, S9, q⟩ := h
   change H x=some (.ins a.cI dx (au "other" (.int t) (au "one" (.int o) (au "box" (.int b) [])))) at hx
   obtain⟨⟨k1,k2⟩,⟨k3,k4⟩,⟨k5,k6⟩⟩:=hk;walk_at"h";have nd:=rV.nd;walk_at"v";symm;exact ff (by assumption) (by assumption) (by assumption) q
theorem L8 (T:TX):KE 2 "Grow" a.cm (lR a.cm Rw.grow):=by
 refine eM 1 T.Nr T.NL oE ?_ ?_;ac_nf
 . obtain⟨x, dx, i, rfl, ⟨h1, h2⟩, hx, q⟩ := h;walk_at"h";have nd:=oE.nd;walk_at"v";symm;exact q _ lP aa
theorem Be (T:TX)(m:Int):ME 2 a.cm "runs" (d_ K a (.grow m)):=by
 refine aB 1 T.gW T.B3 pY ?_ ?_;ac_nf
 . obtain⟨x, bo, pi, z, bs, pl, rfl, ⟨dx, hx⟩, hk, hb, h8, hv, hp, S9, q⟩ := h
   change H x=some (.ins a.cm dx (au "many" (.int m) [])) at hx
   obtain⟨k1,k2⟩:=hk;walk_at"h";have nd:=pY.nd;walk_at"v";symm;refine aX hx (by walk_at"nolk") ((my T m).mono (by decide)) ?_;symm;refine⟨x,_,rfl,⟨dx,hx⟩,?_⟩;have q:g_ H Q (if (pl.length:Int)+m > 4000 then none else some (z+1,bs,pl++aau m.toNat 0)):=q;by_cases hh:(pl.length:Int)+m > 4000
   . rw[if_pos hh] at q;rw[show bM (Rw.aE (.grow m) (pl.length:Int))=V.aC from by simp only[Rw.aE];rw[if_pos hh];rfl];symm;exact q _ (by walk_at"same")
   rw[if_neg hh] at q;rw[show bM (Rw.aE (.grow m) (pl.length:Int))=V.int (pl.length+m) from by simp only[Rw.aE];rw[if_neg hh];rfl];symm;walk_at"tf"
theorem Fk (T:TX):KE 2 "Shrink" a.bB (lR a.bB Rw.shrink):=by
 refine eM 1 T.IK T.Ju me ?_ ?_;ac_nf
 . obtain⟨x, dx, i, rfl, ⟨h1, h2⟩, hx, q⟩ := h;walk_at"h";have nd:=me.nd;walk_at"v";symm;exact q _ lP aa
theorem vS (T:TX)(m:Int):ME 2 a.bB "runs" (d_ K a (.shrink m)):=by
 refine aB 1 T.fj T.yn mI ?_ ?_;ac_nf
 . obtain⟨x, bo, pi, z, bs, pl, rfl, ⟨dx, hx⟩, hk, hb, h8, hv, hp, S9, q⟩ := h
   change H x=some (.ins a.bB dx (au "many" (.int m) [])) at hx
   obtain⟨k1,k2⟩:=hk;walk_at"h";have nd:=mI.nd;walk_at"v";symm;refine aX hx (by walk_at"nolk") ((jx T m).mono (by decide)) ?_;symm;refine⟨x,_,rfl,⟨dx,hx⟩,?_⟩;have q:g_ H Q (if (pl.length:Int)<m then none else some (z+1,bs,pl.take (pl.length - m.toNat))):=q;by_cases hh:(pl.length:Int)<m
   . rw[if_pos hh] at q;rw[show bM (Rw.aE (.shrink m) (pl.length:Int))=V.aC from by simp only[Rw.aE];rw[if_pos hh];rfl];symm;exact q _ (by walk_at"same")
   rw[if_neg hh] at q;rw[show bM (Rw.aE (.shrink m) (pl.length:Int))=V.int (pl.length - m) from by simp only[Rw.aE];rw[if_neg hh];rfl];symm;rw[fT _ (by lia),show((pl.length:Int) - m).toNat=pl.length - m.toNat from by lia];walk_at"tf"
theorem uW (T:TX)(m:Int):ME 2 a.bB "keeps" (dD a (.shrink m)):=by
 refine aB 1 T.fj T.wg kS ?_ ?_;ac_nf
 . obtain⟨x, s, z, rfl, ⟨dx, hx⟩, hk, z0, z1, hs, q⟩ := h
   change H x=some (.ins a.bB dx (au "many" (.int m) [])) at hx
   obtain⟨k1,k2⟩:=hk;have hh : ¬ z<m:=λe=>by rw[show Rw.aE (.shrink m) z=none from if_pos e] at hs;cases hs
   walk_at"h";have nd:=kS.nd;walk_at"v";symm;refine FG (qK (by lia) (by lia)) ?_;symm;rw[qD,show((2 ^ m.toNat:Nat):Int) - 1=((2 ^ m.toNat - 1:Nat):Int) from by have:=Nat.one_le_two_pow (n:=m.toNat);lia];refine FG ⟨by lia,by lia,m.toNat,by lia,by rw[acT];have:=Nat.one_le_two_pow (n:=m.toNat);lia⟩ ?_;rw[show((2 ^ m.toNat - 1:Nat):Int)*2 ^ (8+z - m).toNat=(((2 ^ m.toNat - 1)*2 ^ (8+z - m).toNat:Nat):Int) from by rw[Int.natCast_mul,Int.natCast_pow];rfl];symm;exact q
theorem Ox (T:TX):KE 2 "Put" a.cO (mh a.cO Rw.put):=by
 refine eM 1 T.PZ T.Qw eL ?_ ?_;ac_nf
 . obtain⟨x, dx, i, j, rfl, ⟨⟨h1, h2⟩, ⟨h3, h4⟩⟩, hx, q⟩ := h;walk_at"h";have nd:=eL.nd;walk_at"v";symm;exact q _ oM aa
theorem N7 (T:TX):KE 2 "Get" a.cM (mh a.cM Rw.get):=by
 refine eM 1 T.Qc T.Qj eL ?_ ?_;ac_nf
 . obtain⟨x, dx, i, j, rfl, ⟨⟨h1, h2⟩, ⟨h3, h4⟩⟩, hx, q⟩ := h;walk_at"h";have nd:=eL.nd;walk_at"v";symm;exact q _ oM aa
theorem CH (T:TX)(b c:Int):ME 2 a.cO "runs" (d_ K a (.put b c)):=by
 refine aB 1 T.jQ T.Ei rO ?_ ?_;ac_nf
 . obtain⟨x, bo, pi, z, bs, pl, rfl, ⟨dx, hx⟩, hk, hb, h8, hv, hp, S9, q⟩ := h
   change H x=some (.ins a.cO dx (au "cell" (.int c) (au "box" (.int b) []))) at hx
   obtain⟨⟨k1,k2⟩,⟨k3,k4⟩⟩:=hk;walk_at"h";have nd:=rO.nd;walk_at"v";symm;refine aX hx (by walk_at"nolk") ((ou T b c).mono (by decide)) ?_;symm;refine⟨x,_,rfl,⟨dx,hx⟩,?_⟩;have q:g_ H Q (if (pl.length:Int)<=c then none else some (z+1,bs,sI pl (pl.length - 1 - c) (gI bs b))):=q;by_cases hh:(pl.length:Int)<=c
   . rw[if_pos hh] at q;rw[show bM (Rw.aE (.put b c) (pl.length:Int))=V.aC from by simp only[Rw.aE];rw[if_pos hh];rfl];symm;exact q _ (by walk_at"same")
   rw[if_neg hh] at q;rw[show bM (Rw.aE (.put b c) (pl.length:Int))=V.int pl.length from by simp only[Rw.aE];rw[if_neg hh];rfl];symm;walk_at"tf"
theorem BS (T:TX)(b c:Int):ME 2 a.cM "runs" (d_ K a (.get b c)):=by
 refine aB 1 T.jP T.D1 sq ?_ ?_;ac_nf
 . obtain⟨x, bo, pi, z, bs, pl, rfl, ⟨dx, hx⟩, hk, hb, h8, hv, hp, S9, q⟩ := h
   change H x=some (.ins a.cM dx (au "cell" (.int c) (au "box" (.int b) []))) at hx
   obtain⟨⟨k1,k2⟩,⟨k3,k4⟩⟩:=hk;walk_at"h";have nd:=sq.nd;walk_at"v";symm;refine aX hx (by walk_at"nolk") ((oj T b c).mono (by decide)) ?_;symm;refine⟨x,_,rfl,⟨dx,hx⟩,?_⟩;have q:g_ H Q (if (pl.length:Int)<=c then none else some (z+1,sI bs b (gI pl (pl.length - 1 - c)),pl)):=q;by_cases hh:(pl.length:Int)<=c
   . rw[if_pos hh] at q;rw[show bM (Rw.aE (.get b c) (pl.length:Int))=V.aC from by simp only[Rw.aE];rw[if_pos hh];rfl];symm;exact q _ (by walk_at"same")
   rw[if_neg hh] at q;rw[show bM (Rw.aE (.get b c) (pl.length:Int))=V.int pl.length from by simp only[Rw.aE];rw[if_neg hh];rfl];symm;exact ff (by assumption) (by assumption) (by assumption) q
theorem AH (T:TX):FE 2 "looked_up" (F5 K):=by
 refine ba 1 T.zM pP ?_ ?_;ac_nf
 . obtain⟨s, pk, pp, kn, pc, rfl, h1, h8, h2, h0, q⟩ := h;walk_at"h";have nd:=pP.nd;walk_at"v";symm;walk_at"cs"
   . symm;rw[show br s kn pc=.aC from by unfold br;rw[if_pos hh]] at q;exact q
   have hp : 0<s:=by omega
   have hl:=h0 hp;symm;walk_at"cs"
   . symm;exact b9 h1 (Ie hp hl (by assumption) h8) q
   have h9:=hh;have e:br s kn pc=if lowP s - 8<pc.length then .int (gI pc (lowP s - 8)) else .aC:=by unfold br;rw[if_neg (by omega),if_neg h9]
   rw[e] at q;symm;walk_at"cs"
   . have h10 := hh;rw[if_pos h10] at q;symm;exact q
   . have h10 := hh;rw[if_neg h10] at q;symm;exact q
theorem KU (T:TX):KE 2 "Jump" a.cp (lR a.cp Rw.dr):=by
 refine eM 1 T.O7 T.M6 pA ?_ ?_;ac_nf
 . obtain⟨x, dx, i, rfl, ⟨h1, h2⟩, hx, q⟩ := h;walk_at"h";have nd:=pA.nd;walk_at"v";symm;exact q _ lP aa
theorem Hc (T:TX):KE 2 "Branch" a.bt (mh a.bt Rw.branch):=by
 refine eM 1 T.Jc T.ID lK ?_ ?_;ac_nf
 . obtain⟨x, dx, i, j, rfl, ⟨⟨h1, h2⟩, ⟨h3, h4⟩⟩, hx, q⟩ := h;walk_at"h";have nd:=lK.nd;walk_at"v";symm;exact q _ oM aa
theorem LF (T:TX):KE 2 "Call" a.aY (lR a.aY Rw.call):=by
 refine eM 1 T.AF T.OK pR ?_ ?_;ac_nf
 . obtain⟨x, dx, i, rfl, ⟨h1, h2⟩, hx, q⟩ := h;walk_at"h";have nd:=pR.nd;walk_at"v";symm;exact q _ lP aa
theorem AA (T:TX)(t:Int):ME 2 a.aY "runs" (d_ K a (.call t)):=by
 refine aB 1 T.gX T.CG oN ?_ ?_;ac_nf
 . obtain⟨x, bo, pi, z, bs, pl, rfl, ⟨dx, hx⟩, hk, hb, h8, hv, hp, S9, q⟩ := h
   change H x=some (.ins a.aY dx (au "target" (.int t) [])) at hx
   obtain⟨k1,k2⟩:=hk;walk_at"h";have nd:=oN.nd;walk_at"v";symm;exact ff (by assumption) (by assumption) (by assumption) q
theorem yE (T:TX)(t:Int):ME 2 a.aY "keeps" (dD a (.call t)):=by
 refine aB 1 T.gX T.Bz nI ?_ ?_;ac_nf
 . obtain⟨x, s, z, rfl, ⟨dx, hx⟩, hk, z0, z1, hs, q⟩ := h
   change H x=some (.ins a.aY dx (au "target" (.int t) [])) at hx
   obtain⟨k1,k2⟩:=hk;walk_at"h";have nd:=nI.nd;walk_at"v";symm;exact yb (p:=143) q
theorem LC (T:TX):KE 2 "Back" a.a_ (lR a.a_ Rw.back):=by
 refine eM 1 T.FV T.Oq pC ?_ ?_;ac_nf
 . obtain⟨x, dx, i, rfl, ⟨h1, h2⟩, hx, q⟩ := h;walk_at"h";have nd:=pC.nd;walk_at"v";symm;exact q _ lP aa
theorem LG (T:TX):KE 2 "Drop" a.bc (lR a.bc Rw.drop):=by
 refine eM 1 T.G9 T.Nk oX ?_ ?_;ac_nf
 . obtain⟨x, dx, i, rfl, ⟨h1, h2⟩, hx, q⟩ := h;walk_at"h";have nd:=oX.nd;walk_at"v";symm;exact q _ lP aa
theorem oY (T:TX):FE 2 "has_wrong_place" (K3 K):=by
 refine ba 1 T.pM iJ ?_ ?_;ac_nf
 . obtain ⟨p, e, rfl, ⟨qe, h1, h2⟩, q⟩ := h;walk_at "h";have nd:=iJ.nd;refine' aV ?_ ?_;walk_at "tS";walk_at "c";walk_at "c";walk_at "m";exact (iD (cJ (FL (K:=K) rfl rfl) rfl T.PN Qf (aj (fw (own:=["places"]) (fr:=[("beyond",2)]) rfl ⟨rfl,(by walk_at "clok"),(by walk_at "frok"),rfl,(by nofun),(by nofun),rfl⟩ (dP (K:=K) rfl (bj (gC T) (hr.mono (by decide)) b_ rfl (aj (pv 0) aD))) (λ_ _ _ _=>(bT (i:=0) (show aa6 [("places" : Str),("beyond" : Str)] from by nofun) rfl (Or.inl rfl))) (λ_ _ _ _=>c9) (λ_ _ _ _=>(Ku (wD y3 (pv 0) aW (d9 _)) (Gj (wD (mj (K:=K) rfl hr.units) (cT G4 (pv 0) (pv 1)) aW (d9 _)))))) aD)));walk_at "s";symm;refine cR (λhh=>?_) (λhh=>?_)
   . symm;rw[show du e=true from by unfold du;rw[decide_eq_true hh];rfl] at q;exact q _ (ao.refl _)
   symm;refine cR (λWc=>?_) (λWc=>?_)
   . symm;rw[show du e=true from by unfold du;rw[decide_eq_true Wc,Bool.true_or,Bool.or_true]] at q;exact q _ (ao.refl _)
   symm;refine⟨p,e,rfl,⟨qe,h1,h2⟩,λt ht=>?_⟩;symm;refine xD (emb:=V.int) (λs=>.bl (jK e.h s)) (λZ=>∃ v,Z = [v,some (.int (8+e.h))]) (aI.of aa) (by show 4<=aal;decide) ⟨_,rfl⟩ ?_ ?_
   . rintro i x ys Z H1 hx cc ss ⟨v,rfl⟩;symm;refine cR (λh3=>?_) (λh3=>?_)
     . symm;exact cc.next hx (by unfold jK;rw[decide_eq_true h3];rfl) (by walk_at"same") ⟨_,rfl⟩
     . symm;exact cc.next hx (by unfold jK;rw[decide_eq_false h3,ac5];congr 2;rw[decide_eq_decide];exact⟨λz=>by injection z,λz=>by rw[z]⟩) (by walk_at"same") ⟨_,rfl⟩
   intro H3 s3;symm;rename_i l nl;refine Mx (bs:=e.dI.map (jK e.h)) (by rw[abd];exact ar.of aa) ?_;rw[show(e.dI.map (jK e.h)).any id=du e from by
     unfold du;rw[decide_eq_false hh,decide_eq_false Wc,ac5,ac5,List.any_map];rfl]
   exact q _ (by walk_at"same")
theorem wO (T:TX):FE 2 "may_go_back" (NN K a):=by
 refine ba 1 T.w9 mz ?_ ?_;ac_nf
 . obtain⟨x, p, b, e, rfl, ⟨dx, hx⟩, b0, b7, ⟨qe, h1, h2⟩, q⟩ := h
   change H x=some (.ins a.a_ dx (au "box" (.int b) [])) at hx
   walk_at"h";have nd:=mz.nd;refine' aV ?_ ?_;walk_at"tS";walk_at"m";exact(iD (cJ (Eo (K:=K) rfl rfl) rfl T.Qm Qh (aj (fw (own:=["box","places"]) (fr:=[]) rfl ⟨rfl,(by walk_at"clok"),(by walk_at"frok"),rfl,(by nofun),(by nofun),rfl⟩ (MK (K:=K) rfl rfl T.y_ (aj (f_ (v:=.ref a.gQ) rfl T.oF rfl) (aj (cC (di (K:=K) rfl) (pv 1) aW (λ_ _=>rfl)) aD))) (λ_ _ _ _=>(wb (K:=K) (n:=2) rfl rfl (j_ (bT (i:=0) (show aa6 [("box" : Str),("places" : Str)] from by nofun) rfl (Or.inl rfl)) (j_ (bT (i:=1) (show aa6 [("box" : Str),("places" : Str)] from by nofun) rfl (Or.inl rfl)) wF)))) (λ_ _ _ _=>c9) (λ_ _ _ _=>(cT vK (pv 1) (bj (oJ T) (hr.mono (by decide)) b_ rfl (aj (pv 0) aD))))) aD)));walk_at"s";symm;refine gP (λhh=>?_) (λhh=>?_)
   . symm;rw[show jt b e=false from by unfold jt;rw[decide_eq_false hh];rfl] at q;exact q _ (ao.refl _)
   symm;unfold jt at q;rw[decide_eq_true hh,Bool.true_and] at q;cases hb:(aaJ e.b ((2 ^ b.toNat:Nat):Int) != 0) with
   | false =>
     rw[hb] at q;symm;exact q _ (ao.refl _)
   | true =>
     rw[hb,Bool.true_and] at q;symm;refine⟨a.gQ,qe,_,_,rfl,T.jz _,h2,?_⟩;refine Gz (xs:=[((4:Int),e.v4),(5,e.v5),(6,e.v6)]) (e1:=λq=>.int q.1) (e2:=λq=>.int q.2) (λq=>.int (aaJ q.2 ((2 ^ q.1.toNat:Nat):Int))) (λZ=>∃ u v,Z = [u,v]) (T.jz _) h2 (by show 3<=aal;decide) ⟨_,_,rfl⟩ ?_ ?_
     . rintro i z ys Z H1 T' hz cc ss ⟨u,v,rfl⟩ nT;have Vw : 0<=z.1/\z.1<=7:=by
         match i,hz with
         | 0,hz=>cases hz;exact⟨by show(0:Int)<=4;decide,by show(4:Int)<=7;decide⟩
         | 1,hz=>cases hz;exact⟨by show(0:Int)<=5;decide,by show(5:Int)<=7;decide⟩
         | 2,hz=>cases hz;exact⟨by show(0:Int)<=6;decide,by show(6:Int)<=7;decide⟩
         | i+3,hz=>simp at hz
       obtain⟨z0,z7⟩:=Vw;symm;exact cc.next hz rfl (by walk_at"same") ⟨_,_,rfl⟩
     intro H3 s3;symm;rename_i l nl;refine Np (ns:=[aaJ e.v4 16,aaJ e.v5 32,aaJ e.v6 64]) (ar.of aa) ?_;simp only[acF,List.all_nil,Bool.and_true];exact q _ (by walk_at"same")
theorem oz (T:TX):FE 2 "target_complaint" (NI K a):=by
 refine ba 1 T.oy gS ?_ ?_;ac_nf
 . obtain⟨x, l, t, ev, es, rfl, ⟨dx, hx⟩, hl, Tr, q⟩ := h
   change H x=some (.ins a.aY dx (au "target" (.int t) [])) at hx
   walk_at"h";have nd:=gS.nd;walk_at"v";symm;refine⟨t,l,ev,rfl,ar.of hl,?_⟩;rw[Tr.1];by_cases hh : 0<=t/\t<(es.length:Int)
   . rw[decide_eq_true hh];obtain⟨v,oe,T3,Ug,hmem,hv⟩:=Tr.at hh.1 hh.2;obtain⟨qs,t1,t2⟩:=T.lI;symm;refine Qe oe mC hv.dp (AL (t1 _) (t2 _)) ?_;have q:∀ H',ao H H'->Q (oV (if kM oe mC=true then none else some .start)) H':=λH' s=>by
       have:=q H' s
       unfold eC at this;rw[if_pos hh,Ug] at this;exact this
     cases hb:kM oe mC with
     | true =>
       rw[hb] at q;symm;exact q _ (ao.refl _)
     | false =>
       rw[hb] at q;symm;exact q _ (ao.refl _)
   . rw[decide_eq_false hh];symm
     have:=q H (ao.refl _)
     unfold eC at this;rw[if_neg hh] at this;exact this
theorem Eg (T:TX):FE 2 "ways_on" (Ih K a):=by
 refine ba 1 T.Eu vx ?_ ?_;ac_nf
 . obtain ⟨c, d, i, prs, rs, ls, rfl, hc, Tq, aA, hd, UI, hi, q⟩ := h;have S9:=Tq.1;have hri:rs[i]? = some rs[i]:=aaa hi;have hpi:prs[i]? = some prs[i]:=aaa (by rw [S9];exact hi);have Te:=Tq.2 i _ _ hpi hri;have hoki:=aA _ (aaX hi);have hw:dB rs ls i=(rs[i]).dz i++(if (rs[i]).isCall=true/\(i:Int)∈ls.map (·.1) then [lv ls i] else []):=by unfold dB;rw [hri]
   generalize rs[i]=r at hri Te hoki hw;generalize prs[i]=p0 at hpi Te;have T3:cZ (prs.map V.ref) (i:Int)=some (.ref p0):=bF (by rw[aah,hpi];rfl);obtain⟨dx,U2⟩:=id Te;walk_at"h";have nd:=vx.nd;refine' aV ?_ ?_;walk_at"tS";walk_at"n";walk_at"f";exact(PW.pt (mG (CU (K:=K) rfl (cJ (xU (K:=K) rfl) rfl T.pX oO (aj (cC (di (K:=K) rfl) (pv 0) (pv 2) (λ_ _=>rfl)) (aj (f_ (v:=.ref a.aY) rfl T.AF rfl) aD)))) (mq (zw (A5 (jf hr) (pv 2) (pv 1))))));walk_at"m";exact(f7 (Ac (K:=K) rfl abG PySem.F.slot_list_append PySem.F.type_list_append yd (pv 3) (aj (wW (jf hr) (pv 1) (pv 2) (λ_ _=>rfl)) aD)));exact cL;walk_at"m";walk_at"tS";walk_at"s";ac_rfl;refine aX U2 (xX _) ((rY T hoki.2).mono (by decide)) ?_;ac_rfl;refine⟨p0,i,rfl,Te,λl nl=>?_⟩;ac_rfl;obtain⟨t',ht1,UW,_⟩:=lJ T hoki.2 (Te.same (ae (o:=.lst ((r.dz i).map V.int)) nl));refine eX (λz=>nomatch z) ht1 UW ?_;have hgl:=Jy r i;cases Uc:r.isCall with
   | false =>
     rw[Uc,if_neg (by intro z;cases z.1),aaL] at hw;ac_rfl;exact q l _ (ae nl) nl (by rw[hw];exact aa)
   | true =>
     ac_rfl;refine Rv ?_;refine Ee ?_;ac_rfl;refine Ab (kvs:=aw ls) (ai hd nl) ?_;by_cases hm:(i:Int)∈ls.map (·.1)
     . obtain⟨kv, hkv, hke⟩ := List.mem_map.mp hm;obtain⟨hv1,hv2⟩:=g6 UI kv hkv;rw[hke] at hv1 hv2;rw[<- hv2] at hv1;rw[hv1];rw[Uc,if_pos ⟨rfl,hm⟩] at hw;refine⟨true,rfl,?_⟩;rw[if_pos rfl];ac_rfl;refine As ?_;ac_rfl;refine⟨d,_,rfl,hv1 ▸ gH.k (k:=.inl (i:Int)) (ai hd nl),?_⟩;ac_rfl;refine q l _ (λb o e=>by rw[ak (ag e nl),ak (ag e nl)];exact e) nl ?_;rw[aa,hw,aaE];rfl
     . rw[iG hm];rw[if_neg (λz=>hm z.2),aaL] at hw;refine⟨false,rfl,?_⟩;rw[if_neg aap];ac_rfl;exact q l _ (ae nl) nl (by rw[hw];exact aa)
theorem yS (T:TX):iE P w K mg base (eQ P w) 2 "heights_of" (PY K a):=by
 refine zD 1 T.yI eR ?_ ?_;ac_nf
 . obtain ⟨c, ly, prs, rs, ls, rfl, hc, Tq, aA, h0, To, Tf, hwy, qe, q⟩ := h;have S9:=Tq.1;walk_at "h";have nd:=eR.nd;refine' aV ?_ ?_;walk_at "x";exact (fu (i:=2) eR.nd rfl rfl (own:=["row"]) (fr:=[]) rfl ⟨rfl,(by walk_at "clok"),(by walk_at "frok"),rfl,(by nofun),(by nofun),rfl⟩ (dP (K:=K) rfl (pv 0)) (λ_ _ _ _=>(bT (i:=0) (show aa6 [("row" : Str)] from by nofun) rfl (Or.inl rfl))) (λ_ _ _ _=>c9) (λ_ _ _ _=>jT));walk_at "n";walk_at "x";walk_at "tS";walk_at "n";exact (f7 (bj (sQ T) (hr.mono (by decide)) lQ rfl (aj (pv 2) (aj (pv 3) (aj aW (aj (cC (di (K:=K) rfl) (f_ (v:=.ref a.jk) rfl T.lL rfl) aW (λ_ _=>rfl)) aD))))));walk_at "n"
   (with_reducible refine' jB ?_ ?_ ?_)
   exact adA;walk_at"y";walk_at"tT";walk_at"n";walk_at"x";exact(c8 (i:=4) eR.nd rfl (Or.inl rfl) (v_ (K:=K) rfl abG PySem.F.slot_list_pop PySem.F.type_list_pop Gq (pv 3)));walk_at"n";walk_at"x";walk_at"tS";walk_at"n";walk_at"f";walk_at"y";walk_at"tT";walk_at"m";exact(ni T.iL rfl (aj (qS (pv 4)) aD));exact cL;walk_at"n";exact(Bl adA rfl (dP (K:=K) rfl (cC (di (K:=K) rfl) (pv 1) (pv 4) (λ_ _=>rfl))) (bT (i:=6) eR.nd rfl (Or.inl rfl)) (fv (f7 (bj (sQ T) (hr.mono (by decide)) lQ rfl (aj (pv 2) (aj (pv 3) (aj (pv 6) (aj (pv 5) aD))))))));walk_at"m";walk_at"f";walk_at"y";walk_at"tT";walk_at"m";exact(f7 (bj (sQ T) (hr.mono (by decide)) lQ rfl (aj (pv 2) (aj (pv 3) (aj (cD (K:=K) rfl (cC (di (K:=K) rfl) (pv 0) (pv 4) (λ_ _=>rfl))) (aj (cC (di (K:=K) rfl) (f_ (v:=.ref a.jk) rfl T.lL rfl) aW (λ_ _=>rfl)) aD))))));exact cL;walk_at"m";walk_at"x";walk_at"tS";walk_at"s";ac_rfl;refine fW (K:=K) (a:=c) (xs:=prs.map V.ref) (λi ys Z H1=>(∃ v,Z = [v])/\ao H H1/\ys=(aau i (none:Option Int)).map bM) ⟨⟨_,rfl⟩,ao.refl _,rfl⟩ (λi ys Z H1 hi ⟨_,s1,e⟩=>⟨ar.of (s1 _ _ hc),by rw[e,aac,aaC,aaI];rw[aac] at hi;lia⟩) ?_ ?_
   . rintro i v ys Z H1 hv ⟨⟨u,rfl⟩,s1,rfl⟩;ac_rfl;exact⟨⟨_,rfl⟩,s1,by rw[List.replicate_succ',aaE];rfl⟩
   rintro ys Z H1 ⟨_,s1,rfl⟩ lh VH;rw[aac,S9];obtain⟨qs',Tj,_⟩:=T.lI;ac_rfl;rename_i lw VE;refine vo (Tj _) (v:=.int 0) rfl ?_;ac_rfl;have nhw:lh≠lw:=λz=>by rw[<- z,aa] at VE;cases VE
   have nlhH:H lh=none:=aG s1 VH;have Wf:H lw=none:=aG s1 (iq VE).1;have Ux:(aau rs.length (none:Option Int))[0]? = some none:=by rw[abI,if_pos h0]
   refine⟨lh,lw,0,0,aau rs.length none,[],rfl,ai aa VE,aa,by rw[aaC];exact To,by decide,by decide,by decide,nhw,λhb=>?Rt,λ_ e0=>?RJ,λ_ _=>?S5⟩
   case Rt =>
     exfalso
     rcases hb with hb | hb | ⟨h2,e2,_⟩
     . lia
     . rw[aaC] at hb;lia
     . rw[show((0:Int).toNat)=0 from rfl,Ux] at e2;cases e2
   case RJ=>rw[show((0:Int).toNat)=0 from rfl,Ux] at e0;cases e0
   have I0:HI rs ls ((aau rs.length (none:Option Int)).set 0 (some 0)) ([]++[0]) none:=by
     refine HI.new (n:=0) ⟨aaC,λi h hi=>?_,(λk hk=>by cases hk),λi _ _ h r hi=>?_,by rw[My,aaC];exact acx (adp _)⟩ Ux RH.start
     . rw[abI] at hi;split at hi <;> cases hi
     . rw[abI] at hi;split at hi <;> cases hi
   have hst0:((aau rs.length (none:Option Int)).set 0 (some 0))[0]? = some (some 0):=aaN (by rw[aaC];exact h0);rw[show((0:Int).toNat)=0 from rfl];generalize (aau rs.length (none:Option Int)).set 0 (some 0)=hs0 at I0 hst0 ⊢;have sB:ao H (upd (upd (upd (upd H1 lh (.lst ((aau rs.length (none:Option Int)).map bM))) lw (.lst [])) lh (.lst (hs0.map bM))) lw (.lst (([]++[0]:List Nat).map nV))):=λb o e=>by
     rw[ak (ag e Wf),ak (ag e nlhH),ak (ag e Wf),ak (ag e nlhH)];exact s1 _ _ e
   have hlhB:(upd (upd (upd (upd H1 lh (.lst ((aau rs.length (none:Option Int)).map bM))) lw (.lst [])) lh (.lst (hs0.map bM))) lw (.lst (([]++[0]:List Nat).map nV))) lh=some (.lst (hs0.map bM)):=by rw[ak nhw];exact aa
   have hlwB:(upd (upd (upd (upd H1 lh (.lst ((aau rs.length (none:Option Int)).map bM))) lw (.lst [])) lh (.lst (hs0.map bM))) lw (.lst (([]++[0]:List Nat).map nV))) lw=some (.lst (([]++[0]:List Nat).map nV)):=aa;generalize (upd (upd (upd (upd H1 lh (.lst ((aau rs.length (none:Option Int)).map bM))) lw (.lst [])) lh (.lst (hs0.map bM))) lw (.lst (([]++[0]:List Nat).map nV)))=HB at sB hlhB hlwB ⊢;clear s1 VH VE Ux;ac_rfl;refine⟨λj Z HQ=>∃ (Ut:List (Option Int)) (ws2:List Nat) (u v x:Option V),ao H HQ/\Z = [some (.ref c),some (.ref ly),some (.ref lh),some (.ref lw),u,v,x]/\HQ lh=some (.lst (Ut.map bM))/\HQ lw=some (.lst (ws2.map nV))/\HI rs ls Ut ws2 none/\Ut[0]? = some (some 0)/\j=ws2.length+2*nN Ut,⟨_,hs0,[]++[0],_,_,_,sB,rfl,hlhB,hlwB,I0,hst0,rfl⟩,?_⟩;clear sB hlhB hlwB I0 hst0;rintro j Z HQ ⟨Ut,ws2,u1,u2,u3,s2,rfl,hlh2,hlw2,I2,hz2,rfl⟩;have hf2:=I2.KD;have UJ:=I2.len;ac_rfl;refine dU (ar.of hlw2) ?_;rw[aac];rcases List.eq_nil_or_concat ws2 with rfl | ⟨ws3,k,rfl⟩
   . ac_rfl;refine q lh Ut HQ s2 nlhH hlh2 ⟨UJ,I2.rh,hz2,λi h r e1 e2=>(I2.cl i (by simp) (by simp) h r e1 e2).1,λi h t e1 e2=>(I2.cl i (by simp) (by simp) h (.call t) e1 e2).2 t rfl⟩
   . rw [List.concat_eq_append] at hlw2 I2 hf2 ⊢;have hwl:(ws3++[k]).length=ws3.length+1:=by rw [aab];rfl
     rw[hwl] at hf2 ⊢;ac_rfl;refine⟨_,λZ' H' h=>h,?_⟩;ac_rfl;refine Kf (xs:=ws3.map nV) (y:=.int (k:Int)) (by rw[hlw2,aaE];rfl) ?_;obtain⟨h,hk⟩:=I2.Kh k (aay _ (List.mem_singleton.mpr rfl));have hkl:k<rs.length:=by rw[<- UJ];exact(List.getElem?_eq_some_iff.mp hk).1
     have Ve:rs[k]? = some rs[k]:=aaa hkl;have hpk:prs[k]? = some prs[k]:=aaa (by rw[S9];exact hkl);have Te:=Tq.2 k _ _ hpk Ve;have Uy:=aA _ (aaX hkl);generalize rs[k]=r at Ve Te Uy;generalize prs[k]=p0 at hpk Te;have hrhk:=I2.rh k h hk;have I3:HI rs ls Ut ws3 (some k):=⟨UJ,I2.rh,λm hm=>I2.Kh m (aa5 _ hm),λi hi hx=>I2.cl i (λhm=>by
         rcases List.mem_append.mp hm with hm | hm
         . exact hi hm
         . exact hx (by rw[List.mem_singleton.mp hm])) (by simp),by lia⟩
     have s3:ao H (upd HQ lw (.lst (ws3.map nV))):=λb o e=>by rw[ak (ag e Wf)];exact s2 _ _ e
     have hlh3:(upd HQ lw (.lst (ws3.map nV))) lh=some (.lst (Ut.map bM)):=by rw[ak nhw];exact hlh2
     have hlw3:(upd HQ lw (.lst (ws3.map nV))) lw=some (.lst (ws3.map nV)):=aa;generalize (upd HQ lw (.lst (ws3.map nV)))=HC at s3 hlh3 hlw3 ⊢;clear s2 hlh2 hlw2 I2;have T3:cZ (prs.map V.ref) (k:Int)=some (.ref p0):=bF (by rw[aah,hpk];rfl);have hat2:cZ (Ut.map bM) (k:Int)=some (.int h):=bF (by rw[aah,hk];rfl);have hc3:=s3 _ _ hc;have WC:=Te.same s3;obtain⟨dx,U2⟩:=id WC;obtain⟨T8,hwl0,hwl2,hwl3⟩:=id hwy;have hwl1:=s3 _ _ hwl0;have hwk:T8[k]? = some T8[k]:=aaa (by rw[hwl2];exact hkl);have Uq:=hwl3 k _ hwk;generalize T8[k]=pw at hwk Uq;have hway:=s3 _ _ Uq;have hat3:cZ (T8.map V.ref) (k:Int)=some (.ref pw):=bF (by rw[aah,hwk];rfl);have hwb:=D6 (i:=k) aA Tf To;ac_rfl;refine aX U2 (lg _) ((iP T Uy.2).mono (by decide)) ?_;ac_rfl;refine⟨p0,h,rfl,WC,?_⟩;cases hh:r.aE h with
     | none =>
       show be 5 V.aC _ _ _;ac_rfl;refine jj ?_;ac_rfl
       try refine pQ ?_
       ac_rfl;exact⟨m_ (by lia) (by lia),by show 1<=1000;decide,qe ⟨k,h,hrhk,.inr (.inr (.inl ⟨r,by rw[aaD];exact Ve,hh⟩))⟩ _ s3⟩
     | some h' =>
       show be 5 (V.int h') _ _ _;ac_rfl
       have Us : ∀ {UU : List (Option Int)} {Vq : List Nat} {HD : Hp} {n x : Int} {R : Hp -> Prop}, HI rs ls UU Vq (some k) -> ao H HD -> HD lh = some (.lst (UU.map bM)) -> HD lw = some (.lst (Vq.map nV)) -> RH rs ls n x -> -10000 <= n -> n <= 10000 ->
           (∀ hs5 ws5 HE,HI rs ls hs5 ws5 (some k)->ao H HE->HE lh=some (.lst (hs5.map bM))->HE lw=some (.lst (ws5.map nV))->(∀ (i:Nat) (y:Int),UU[i]? = some (some y)->hs5[i]? = some (some y))->0<=n->hs5[n.toNat]? = some (some x)->ws5.length+2*nN hs5<=Vq.length+2*nN UU->R HE) ->
           CO a [.ref lh,.ref lw,.int n,.int x] HD (λ_ HE=>R HE) E:=by
         intro UU Vq HD n x R I4 s4 T5 Vo rh b1 b2 qq;refine⟨lh,lw,n,x,UU,Vq,rfl,T5,Vo,by rw[I4.len];exact To,by have:=I4.KD;have:=I4.len;lia,b1,b2,nhw,λhb=>qe (I4.reach rh hb) _ s4,λp0' e0=>qq UU Vq HD I4 s4 T5 Vo (λ_ _ e=>e) p0' e0 (aag _),λp0' e0=>?_⟩;have hn:=(List.getElem?_eq_some_iff.mp e0).1;have hI5:=I4.new e0 (show RH rs ls ((n.toNat:Nat):Int) x by rw[show((n.toNat:Nat):Int)=n by lia];exact rh);have hcnt:=zl (x:=x) e0;refine qq (UU.set n.toNat (some x)) (Vq++[n.toNat]) _ hI5 (λb o e=>by rw[ak (ag e Wf),ak (ag e nlhH)];exact s4 _ _ e) (by rw[ak nhw];exact aa) aa (λi y e=>gK e0 e) p0' (aaN hn) ?_;rw[aab];show _+1+_<=_;lia
       refine eZ (K:=K) (a:=pw) (xs:=(dB rs ls k).map V.int) (λi Z HD=>∃ (UU:List (Option Int)) (Vq:List Nat) (x:Option V),ao H HD/\Z = [some (.ref c),some (.ref ly),some (.ref lh),some (.ref lw),some (.int (k:Int)),some (.int h'),x]/\HD lh=some (.lst (UU.map bM))/\HD lw=some (.lst (Vq.map nV))/\HI rs ls UU Vq (some k)/\UU[0]? = some (some 0)/\UU[k]? = some (some h)/\(∀ w∈(dB rs ls k).take i,0<=w/\UU[w.toNat]? = some (some h'))/\Vq.length+2*nN UU<=ws3.length+2*nN Ut) ⟨Ut,ws3,_,s3,rfl,hlh3,hlw3,I3,hz2,hk,(λw hw=>by rw[List.take_zero] at hw;cases hw),aag _⟩ (λi Z HD _ ⟨_,_,_,s4,_⟩=>ar.of (s4 _ _ Uq)) ?_ ?_
       . rintro i v Z HD hv ⟨UU,Vq,x,s4,rfl,T5,Vo,I4,hz4,hk4,hcl4,hm4⟩;obtain⟨w,hx,rfl⟩:∃ w,(dB rs ls k)[i]? = some w/\v=.int w:=by
           rw[aah] at hv;obtain⟨p,hp,e⟩:=Option.map_eq_some_iff.mp hv;exact⟨p,hp,e.symm⟩
         have hwm:=aak hx;ac_rfl;refine Us I4 s4 T5 Vo (RH.way hrhk Ve hh hwm) (hwb w hwm).1 (hwb w hwm).2 λhs5 ws5 HE I5 s5 hlh5 hlw5 mono p0' e5 hm5=>?_;refine⟨hs5,ws5,_,s5,rfl,hlh5,hlw5,I5,mono 0 0 hz4,mono k h hk4,λw' hw'=>?_,by lia⟩;rw[abF,hx,abx] at hw';rcases List.mem_append.mp hw' with hw' | hw'
         . exact⟨(hcl4 w' hw').1,mono _ _ (hcl4 w' hw').2⟩
         . rw[List.mem_singleton.mp hw'];exact⟨p0',e5⟩
       . rintro Z HD ⟨UU,Vq,x,s4,rfl,T5,Vo,I4,hz4,hk4,hcl4,hm4⟩;rw[aac,aa0] at hcl4;have hcD:=s4 _ _ hc;have hrowD:=Te.same s4;clear hlh3 hlw3 hc3 WC U2 hway hwl1 s3 I3;obtain⟨t',ty1,ty2,_⟩:=lJ T Uy.2 hrowD;ac_rfl;refine eX (λz=>nomatch z) ty1 ty2 ?_;cases hcall:r.isCall with
         | false =>
           ac_rfl;refine⟨_,?_,UU,Vq,_,_,_,s4,rfl,T5,Vo,I4.close λh1 r1 e1 e2=>?_,hz4,rfl⟩
           . lia
           . rw[hk4] at e1;cases e1;rw[Ve] at e2;cases e2;exact⟨⟨h',hh,hcl4⟩,λt ht=>by rw[ht] at hcall;cases hcall⟩
         | true =>
           obtain⟨t,rfl⟩:∃ t,r=.call t:=by
             cases r <;> first | exact⟨_,rfl⟩ | (cases hcall)
           obtain⟨dxD,Ww⟩:=hrowD;have Ww:HD p0=some (.ins a.aY dxD (au "target" (.int t) [])):=Ww;have htb : 0<=t/\t<=2000:=Uy.1;ac_rfl;refine vo (Tj _) (v:=.int 0) rfl ?_;ac_rfl;refine Us I4 s4 T5 Vo (RH.call hrhk Ve) (by lia) (by lia) λhs5 ws5 HE I5 s5 hlh5 hlw5 mono p0' e5 hm5=>?_;refine⟨_,?_,hs5,ws5,_,_,_,s5,rfl,hlh5,hlw5,I5.close λh1 r1 e1 e2=>?_,mono 0 0 hz4,rfl⟩
           . lia
           . rw[mono k h hk4] at e1;cases e1;rw[Ve] at e2;cases e2;exact⟨⟨h',hh,λw hw=>⟨(hcl4 w hw).1,mono _ _ (hcl4 w hw).2⟩⟩,λt2 UW=>by cases UW;exact⟨p0',e5⟩⟩
theorem eG (T:TX):ME 2 a.ax "go_on" (Mo a):=by
 refine aB 1 T.cu T.vE kh ?_ ?_;ac_nf
 . obtain⟨m, dx, pc, pt, ph, pl, pk, pb, pp, fs, aS, c, n, d, st, rfl, hm, F, q⟩ := h;have f5:=F.aS;have fl:=F.len;have fn:=F.no "word_ahead_of" (by nofun);walk_at"h";have nd:=kh.nd;walk_at"v";symm;refine aX aa (il (by nofun) (il (by nofun) (il (by nofun) fn))) ((cQ T).mono (by decide)) ?_;symm;refine⟨m,dx,_,aS,n,rfl,aa,aJ (by nofun) (aJ (by nofun) (aJ (by nofun) f5)),?_⟩;symm;rw[iB,iB,iB];exact q _ ((((F.GC n).Ls pb).Jn pp).setState _)
theorem K4 {D PP:Addr->Int->Hp->Prop}{G:Prop}(key:∀ l n H3,D l n H3->PP l n H3)(use:(∀ l n H3,D l n H3->PP l n H3)->G):G:=use key
theorem ux (T:TX):FE 2 "_law_function" (QK K):=by
 refine ba 1 T.vy cU ?_ ?_;ac_nf
 . obtain ⟨lc, cs, c, at_, rfl, hlc, Uc, fJ, q_, q⟩ := h;walk_at "h";have nd:=cU.nd;refine' aV ?_ ?_;exact (c8 (i:=3) cU.nd rfl (Or.inr rfl) (fw (own:=["_law_box","_law_bit"]) (fr:=[("_law_cell",0)]) rfl ⟨rfl,(by walk_at "clok"),(by walk_at "frok"),rfl,(by nofun),(by nofun),rfl⟩ (L0 (K:=K) rfl rfl T.y_ (aj (lW (aj aW (aj aW (aj aW (aj aW aD))))) (aj (lW (aj aW (aj aW (aj aW (aj aW aD))))) aD))) (λ_ _ _ _=>(wb (K:=K) (n:=2) rfl rfl (j_ (bT (i:=0) (show aa6 [("_law_box" : Str),("_law_bit" : Str),("_law_cell" : Str)] from by nofun) rfl (Or.inl rfl)) (j_ (bT (i:=1) (show aa6 [("_law_box" : Str),("_law_bit" : Str),("_law_cell" : Str)] from by nofun) rfl (Or.inl rfl)) wF)))) (λ_ _ _ _=>(wy (dO (mj (K:=K) rfl hr.units) (cT vK (pv 2) (pv 1)) aW (d9 _)))) (λ_ _ _ _=>(pv 0))));walk_at "c";walk_at "c";walk_at "n";exact (c8 (i:=6) cU.nd rfl (Or.inr rfl) (fw (own:=["_law_k"]) (fr:=[("_law_height",4),("_law_turn",5)]) rfl ⟨rfl,(by walk_at "clok"),(by walk_at "frok"),rfl,(by nofun),(by nofun),rfl⟩ (e_ rfl T.fU (aj aW aD)) (λ_ _ _ _=>(bT (i:=0) (show aa6 [("_law_k" : Str),("_law_height" : Str),("_law_turn" : Str)] from by nofun) rfl (Or.inl rfl))) (λ_ _ _ _=>c9) (λ_ _ _ _=>(cT uD (cT (dW (K:=K) rfl) (pv 0) (pv 2)) (cJ (xA rfl) rfl T.JV JL (aj aW (aj (pv 1) aD)))))));walk_at "c";walk_at "c";walk_at "c";walk_at "c";walk_at "c";walk_at "n"
   (refine' c8 (i:=8) ?Sj ?Sv ?SE ?R8 ?Se ?Sz;(case Sj=>exact cU.nd);(case Sv=>rfl);(case SE=>exact(Or.inl rfl));(case Se=>rfl);(case Sz=>exact .inl rfl);(case R8=>(refine' cT (dW (K:=K) rfl) ?Sq ?So;(case Sq=>exact(pv 8));(case So=>exact(fw (own:=["_law_k"]) (fr:=[("_law_saved",3),("_law_places",6)]) rfl ⟨rfl,(by walk_at"clok"),(by walk_at"frok"),rfl,(by nofun),(by nofun),rfl⟩ (e_ rfl T.fU (aj (pv 9) aD)) (λ_ _ _ _=>(bT (i:=0) (show aa6 [("_law_k" : Str),("_law_saved" : Str),("_law_places" : Str)] from by nofun) rfl (Or.inl rfl))) (λ_ _ _ _=>c9) (λ_ _ _ _=>(oR (aj gA (aj (cC (di (K:=K) rfl) (pv 1) (pv 0) (λ_ _=>rfl)) (aj (cC (di (K:=K) rfl) (pv 2) (pv 0) (λ_ _=>rfl)) aD))))))))))
   walk_at"c";walk_at"n"
   (refine' c8 (i:=8) ?Sa ?RT ?Rj ?RU ?Q7 ?RY;(case Sa=>exact cU.nd);(case RT=>rfl);(case Rj=>exact(Or.inl rfl));(case Q7=>rfl);(case RY=>exact .inl rfl);(case RU=>(refine' cT (dW (K:=K) rfl) ?RC ?Ru;(case RC=>exact(pv 8));(case Ru=>exact(fw (own:=["_law_k"]) (fr:=[("_law_saved",3),("_law_places",6)]) rfl ⟨rfl,(by walk_at"clok"),(by walk_at"frok"),rfl,(by nofun),(by nofun),rfl⟩ (yc rfl T.fU (aj (pv 9) (aj (cJ (ez (K:=K) rfl) rfl T.ja i_ (aj (pv 3) aD)) aD))) (λ_ _ _ _=>(bT (i:=0) (show aa6 [("_law_k" : Str),("_law_saved" : Str),("_law_places" : Str)] from by nofun) rfl (Or.inl rfl))) (λ_ _ _ _=>c9) (λ_ _ _ _=>(oR (aj gA (aj (cC (di (K:=K) rfl) (pv 1) (pv 0) (λ_ _=>rfl)) (aj (cC (di (K:=K) rfl) (pv 2) (pv 0) (λ_ _=>rfl)) aD))))))))))
   walk_at"c";walk_at"c";walk_at"n"
   (refine' c8 (i:=8) ?RP ?Rx ?Rb ?RQ ?RB ?Ra;(case RP=>exact cU.nd);(case Rx=>rfl);(case Rb=>exact(Or.inl rfl));(case RB=>rfl);(case Ra=>exact .inl rfl);(case RQ=>(refine' cT (dW (K:=K) rfl) ?Ro ?RA;(case Ro=>exact(pv 8));(case RA=>exact(fw (own:=["_law_k"]) (fr:=[("_law_saved",3),("_law_places",6)]) rfl ⟨rfl,(by walk_at"clok"),(by walk_at"frok"),rfl,(by nofun),(by nofun),rfl⟩ (e_ rfl T.fU (aj (cJ (ez (K:=K) rfl) rfl T.ja i_ (aj (pv 3) aD)) aD)) (λ_ _ _ _=>(bT (i:=0) (show aa6 [("_law_k" : Str),("_law_saved" : Str),("_law_places" : Str)] from by nofun) rfl (Or.inl rfl))) (λ_ _ _ _=>c9) (λ_ _ _ _=>(oR (aj gA (aj (cC (di (K:=K) rfl) (pv 1) (pv 0) (λ_ _=>rfl)) (aj (cC (di (K:=K) rfl) (pv 2) (pv 0) (λ_ _=>rfl)) aD))))))))))
   walk_at"c";walk_at"c";walk_at"m";walk_at"tS";walk_at"s";symm;refine MT ?_;symm;rename_i l1 n1 l2 n2;refine⟨_,_,_,_,rfl,ar.of (ai aa n2),ar.of aa,?_⟩;have sB:=(ae n1 (o:=.lst (([7,4,5,6]:List Int).map V.int))).trans (ae n2 (o:=.lst (([1,2,4,8]:List Int).map V.int)));refine E9 (K:=K) (xs:=([7,4,5,6]:List Int).map V.int) (ys:=([1,2,4,8]:List Int).map V.int) rfl (λi zs Z H1=>(∃ u v,Z = [u,v,some (V.int c)])/\ao (upd (upd H l1 (.lst (([7,4,5,6]:List Int).map V.int))) l2 (.lst (([1,2,4,8]:List Int).map V.int))) H1/\∃ ss:List Int,zs=ss.map V.int/\ss.length<=i/\∀ s∈ss,0<=s/\s<=7) ⟨⟨_,_,rfl⟩,ao.refl _,[],rfl,aag _,λ_ z=>by cases z⟩ (λi zs Z H1 hi ⟨_,s1,ss,e,e2,_⟩=>⟨⟨ar.of (s1 _ _ (ai aa n2)),ar.of (s1 _ _ aa)⟩,by rw[e,aac,aaI];have z:i<=4:=hi;lia⟩) ?_ ?_
   . rintro i x y tt zs Z H1 hx hy ⟨⟨u,v,rfl⟩,s1,ss,rfl,Wb,VW⟩ hT;obtain⟨xi,VJ,rfl⟩:∃ c:Int,([7,4,5,6]:List Int)[i]? = some c/\x=V.int c:=by
       rw[aah] at hx;obtain⟨c,h1,e⟩:=Option.map_eq_some_iff.mp hx;exact⟨c,h1,e.symm⟩
     obtain⟨yi,hy1,rfl⟩:∃ c:Int,([1,2,4,8]:List Int)[i]? = some c/\y=V.int c:=by
       rw[aah] at hy;obtain⟨c,h1,e⟩:=Option.map_eq_some_iff.mp hy;exact⟨c,h1,e.symm⟩
     have hxb : 0<=xi/\xi<=7:=by
       have z:=aak VJ;simp only[aaP,aaR,or_false] at z
       lia
     clear hx hy;have s2:=s1.trans (ae hT (o:=.tup [V.int xi,V.int yi]));clear s1;symm;refine gP (λhh=>?_) (λhh=>?_)
     . symm
       exact⟨⟨_, _, rfl⟩, s2, ss ++ [xi], by rw[aaE]; rfl, by simp only[aab, aaF]; lia, λy hy => by
         rcases List.mem_append.mp hy with h | h
         . exact VW y h
         . rw[List.mem_singleton.mp h];exact hxb⟩
     . exact⟨⟨_,_,rfl⟩,s2,ss,rfl,Nat.le_succ_of_le Wb,VW⟩
   rintro ys Z H1 ⟨_,s1,ss,rfl,Wb,VW⟩;have Wb:ss.length<=4:=Wb;have s0:=sB.trans s1;have hlc1:=aO s0 hlc;clear sB s1 hlc n1 n2;intro ls VF;symm;obtain⟨hg,ehg⟩:∃ hg:Int,(ss.length:Int)+c/16%2=hg:=⟨_,rfl⟩
   have hg0:(ss.length:Int)<=hg/\hg<=ss.length+1:=by lia
   rw[ehg];have s1:=s0.trans (ae VF (o:=.lst (ss.map V.int)));have UN:=aO (ae VF (o:=.lst (ss.map V.int))) hlc1;have hls2:(upd H1 ls (.lst (ss.map V.int))) ls=some (.lst (ss.map V.int)):=aa;have nls0:=aG s0 VF;generalize upd H1 ls (HO.lst (ss.map V.int))=H2 at s1 UN hls2 ⊢;clear s0 hlc1 VF;refine eE (λi ys Z H3=>(∃ v,Z = [v,some (V.int hg),some (V.int (c/32%5))])/\H3=H2/\∃ ps:List Int,ys=ps.map V.int/\ps.length=i/\∀ p∈ps,0<=p/\p<=4) ⟨⟨_,rfl⟩,rfl,[],rfl,rfl,λ_ z=>by cases z⟩ (λi ys Z H3 hi ⟨_,_,ps,e,e2,_⟩=>by rw[e,aac,e2,aaI];have z:i<=5:=hi;lia) ?_ ?_
   . rintro i ys Z H3 hi ⟨⟨v,rfl⟩,rfl,ps,rfl,S9,hpb⟩;have hmx : 0<(if hg > 1 then hg else 1)/\(if hg > 1 then hg else 1)<=5:=by split <;> lia
     symm;have e0:=abi (0+(i:Int)+c/32%5) (show(if hg > 1 then hg else 1)≠0 by lia);have e1:=aba (0+(i:Int)+c/32%5) hmx.1
     exact⟨⟨_, rfl⟩, rfl, ps ++ [(0 + (i : Int) + c / 32 % 5) % (if hg > 1 then hg else 1)], by rw[aaE]; rfl, by rw[aab, S9]; rfl, λp hp => by
       rcases List.mem_append.mp hp with h | h
       . exact hpb p h
       . rw[List.mem_singleton.mp h];lia⟩
   rintro ys Z H3 ⟨_,rfl,ps,rfl,S9,hpb⟩;have S9:ps.length=5:=S9;intro lp VG;have s2:=s1.trans (ae VG (o:=.lst (ps.map V.int)));have VT:=aO (ae VG (o:=.lst (ps.map V.int))) UN;have hls3:(upd H3 lp (.lst (ps.map V.int))) ls=some (.lst (ss.map V.int)):=ai hls2 VG;have hlp3:(upd H3 lp (.lst (ps.map V.int))) lp=some (.lst (ps.map V.int)):=aa;have nlp0:=aG s1 VG;generalize upd H3 lp (HO.lst (ps.map V.int))=H4 at s2 VT hls3 hlp3 ⊢;clear s1 UN hls2 VG;obtain⟨pz,hpz,hatz⟩:=eF (ns:=ps) (i:=(ss.length:Int)) (by lia) (by lia);have hpz2:=hpb pz hpz;refine' K4 (D:=λlr spv HX=>ao H4 HX/\H4 lr=none/\(∃ us,HX lr=some (.lst us)/\us.length<=1/\aN fH HX us)/\-1<=spv/\spv<=5) (PP:=?PP) ?key (λkk=>?use);(case use =>
     have grown:∀ (lr t:Addr) (Uv:H4 lr=none) (nt:(upd H4 lr (.lst [])) t=none),0<hg->∃ us,(upd (upd (upd H4 lr (.lst [])) t (.tup [.str "grow",V.int hg])) lr (.lst ([]++[V.ref t]))) lr=some (.lst us)/\us.length<=1/\aN fH (upd (upd (upd H4 lr (.lst [])) t (.tup [.str "grow",V.int hg])) lr (.lst ([]++[V.ref t]))) us:=λlr t Uv nt h0=>⟨_,aa,aag _,(aN.one (r:=.grow hg) ⟨_,rfl,aa⟩ (.inl (by walk_at"A"))).off (ai aa nt)⟩;symm;refine cR (λhh=>?_) (λhh=>?_)
     . have h0 : 0 < hg := by lia
       symm;repeat (rename @Eq Bool _ _=>Vw;clear Vw)
       rename_i lr Uv _ t nt;have sx:ao H4 (upd (upd (upd H4 lr (.lst [])) t (.tup [.str "grow",V.int hg])) lr (.lst ([]++[V.ref t]))):=bA ((ae Uv).trans (ae nt)) Uv;have gx:=grown lr t Uv nt h0;generalize upd (upd (upd H4 lr (HO.lst [])) t (HO.tup [V.str (aae "grow"),V.int hg])) lr (HO.lst ([]++[V.ref t]))=HX at sx gx ⊢;obtain⟨spv,hspv⟩:∃ s:Int,pz=s:=⟨_,rfl⟩
       rw[hspv];exact kk lr spv HX ⟨sx,Uv,gx,by lia,by lia⟩
     . obtain⟨spv, hspv⟩ : ∃ s : Int, s = -1 := ⟨_, rfl⟩
       symm;rw[<- hspv];refine cR (λh0=>?_) (λh0=>?_)
       . symm;repeat (rename @Eq Bool _ _=>Vw;clear Vw)
         rename_i lr Uv t nt;have sx:ao H4 (upd (upd (upd H4 lr (.lst [])) t (.tup [.str "grow",V.int hg])) lr (.lst ([]++[V.ref t]))):=bA ((ae Uv).trans (ae nt)) Uv;have gx:=grown lr t Uv nt h0;generalize upd (upd (upd H4 lr (HO.lst [])) t (HO.tup [V.str (aae "grow"),V.int hg])) lr (HO.lst ([]++[V.ref t]))=HX at sx gx ⊢;exact kk lr spv HX ⟨sx,Uv,gx,by lia,by lia⟩
       . symm;repeat (rename @Eq Bool _ _=>Vw;clear Vw)
         rename_i lr Uv;have sx:ao H4 (upd H4 lr (.lst [])):=ae Uv;have hx:(upd H4 lr (.lst [])) lr=some (.lst []):=aa;generalize upd H4 lr (HO.lst [])=HX at sx hx ⊢;exact kk lr spv HX ⟨sx,Uv,⟨_,hx,by decide,aN.nil⟩,by lia,by lia⟩)
   (case key =>
     intro lr spv H5 ⟨s5,Uv,⟨us,VO,Vx,Tu⟩,sp0,sp1⟩;have hcut : 0<=(ss.length:Int)*(c/160%3)/2/\(ss.length:Int)*(c/160%3)/2<=ss.length:=by
       rcases(show c/160%3=0∨c/160%3=1∨c/160%3=2 by lia) with z | z | z <;> rw[z] <;> lia
     generalize (ss.length:Int)*(c/160%3)/2=cut at hcut ⊢;have s50:=s2.trans s5;have hls5:=s5 _ _ hls3;have hlp5:=s5 _ _ hlp3;have Wq:=aO s5 VT;clear s2 s5 hls3 hlp3 VT hatz hpz hpz2 Uv;refine⟨by lia,by lia,?_⟩;refine eE (λi ys Z H6=>(∃ v,Z = [v,some (V.ref ls),some (V.ref lp)])/\ao H5 H6/\ys.length=i/\aN fH H6 ys) ⟨⟨_,rfl⟩,ao.refl _,rfl,aN.nil⟩ (λi ys Z H6 hi ⟨_,_,e,_⟩=>by rw[e,aaI];lia) ?_ ?_
     . rintro i ys Z H6 hi ⟨⟨v,rfl⟩,s6,VI,U3⟩;have Wn:=s6 _ _ hls5;have Wo:=s6 _ _ hlp5;obtain⟨sv,hsv,hats⟩:=eF (ns:=ss) (i:=0+(i:Int)) (by lia) (by lia);obtain⟨pv,hpv,hatp⟩:=eF (ns:=ps) (i:=0+(i:Int)) (by lia) (by lia);have hsv2:=VW sv hsv;have hpv2:=hpb pv hpv;clear s50 hls5 hlp5;symm;rename_i t nt;exact⟨⟨_,rfl⟩,s6.trans (ae nt),by rw[aab,VI];rfl,(U3.same (ae nt)).app (aN.one (r:=.put sv pv) ⟨t,rfl,aa⟩ (.inl (by walk_at"A")))⟩
     rintro zs Z H6 ⟨_,s6,hzl,tdz⟩;intro lq nlq;have hzl:zs.length=cut.toNat:=hzl;have Wn:=s6 _ _ hls5;have Wo:=s6 _ _ hlp5;have hlc6:=aO s6 Wq;have hlr6:=s6 _ _ VO;have s60:=s50.trans s6;have U3:=(Tu.same s6).app tdz;have hul6:(us++zs).length<=1+cut.toNat:=by rw[aab];lia
     clear s50 s6 hls5 hlp5 Wq VO Tu tdz;symm;rename_i lr2 n2 la na lb nb;have sX:=((ae nlq (o:=.lst zs)).trans (ae n2 (o:=.lst (us++zs)))).trans ((ae na (o:=.lst ((cV cs none (some 1)).map V.int))).trans (ae nb (o:=.lst ((cV ss none (some cut)).map V.int))));have W6:(cV cs none (some 1)).length<=1:=by rw[fT _ (by decide),aaA];exact Nat.min_le_left _ _
     have hc2:(cV ss none (some cut)).length<=ss.length:=Bw _ _ _;refine⟨la,lb,cV cs none (some 1),cV ss none (some cut),-1,_,rfl,ar.of (ai aa nb),by lia,ar.of aa,by lia,λs hs=>VW s (by rw[fT _ (by lia)] at hs;exact abY hs),by decide,by decide,by lia,by lia,λlb1 W_ H7 s7 hlb hub tdb=>?_⟩;have hlr7:H7 lr2=some (.lst (us++zs)):=s7 _ _ (ai (ai aa na) nb);have s8:=sX.trans s7;have hls7:=s8 _ _ Wn;have hlp7:=s8 _ _ Wo;have hlc7:=aO s8 hlc6;have s70:=s60.trans s8;have tds7:=(U3.same s8).app tdb;generalize us++zs=ur at hul6 hlr7 tds7 ⊢;clear s60 s7 s8 sX Wn Wo hlc6 hlr6 U3 tdb n2 na nb nlq;have hul7:(ur++W_).length<=1+2*(cV cs none (some 1)).length+cut.toNat:=by rw[aab];lia
     symm;rename_i lr3 n3;have hlr8:(upd H7 lr3 (.lst (ur++W_))) lr3=some (.lst (ur++W_)):=aa;have sX:ao H7 (upd H7 lr3 (.lst (ur++W_))):=ae n3;generalize upd H7 lr3 (HO.lst (ur++W_))=H8 at hlr8 sX ⊢;have hls8:=sX _ _ hls7;have hlp8:=sX _ _ hlp7;have hlc8:=aO sX hlc7;have s80:=s70.trans sX;have tds8:=tds7.same sX;generalize ur++W_=ur2 at hul7 hlr8 tds8 ⊢;clear sX n3 s70 hls7 hlp7 hlc7 hlr7 tds7;refine⟨cut,ss.length,rfl,⟨by lia,by lia,by lia,by lia⟩,?_⟩;refine eE (λi ys Z H6=>(∃ v,Z = [v,some (V.ref ls),some (V.ref lp)])/\ao H8 H6/\ys.length=i/\aN fH H6 ys) ⟨⟨_,rfl⟩,ao.refl _,rfl,aN.nil⟩ (λi ys Z H6 hi ⟨_,_,e,_⟩=>by rw[e,aaI];lia) ?_ ?_
     . rintro i ys Z H6 hi ⟨⟨v,rfl⟩,s6,VI,U3⟩;have Wn:=s6 _ _ hls8;have Wo:=s6 _ _ hlp8;obtain⟨sv,hsv,hats⟩:=eF (ns:=ss) (i:=cut+(i:Int)) (by lia) (by lia);obtain⟨pv,hpv,hatp⟩:=eF (ns:=ps) (i:=cut+(i:Int)) (by lia) (by lia);have hsv2:=VW sv hsv;have hpv2:=hpb pv hpv;clear s80 hls8 hlp8;symm;rename_i t nt;exact⟨⟨_,rfl⟩,s6.trans (ae nt),by rw[aab,VI];rfl,(U3.same (ae nt)).app (aN.one (r:=.put sv pv) ⟨t,rfl,aa⟩ (.inl (by walk_at"A")))⟩
     rintro zs Z H6 ⟨_,s6,hzl,tdz⟩;intro lq nlq;have hzl:zs.length=((ss.length:Int) - cut).toNat:=hzl;have hls9:=s6 _ _ hls8;have hlp9:=s6 _ _ hlp8;have hlc9:=aO s6 hlc8;have hlr9:=s6 _ _ hlr8;have s90:=s80.trans s6;have tds9:=(tds8.same s6).app tdz;have hul9:(ur2++zs).length<=1+2*(cV cs none (some 1)).length+ss.length:=by rw[aab];lia
     clear s80 s6 hls8 hlp8 hlc8 hlr8 tds8 tdz;symm;rename_i lr4 n4 la na;have sX:=((ae nlq (o:=.lst zs)).trans (ae n4 (o:=.lst (ur2++zs)))).trans (ae na (o:=.lst ((cV cs (some 1) none).map V.int)));have W6:(cV cs (some 1) none).length<=cs.length:=Bw _ _ _;have hct:=L7 cs;have hul9b:=hul9;refine⟨la,ls,cV cs (some 1) none,ss,spv,_,rfl,ar.of aa,by lia,ar.of (sX _ _ hls9),by lia,VW,by lia,by lia,by lia,by lia,λlb2 us2 HA sA hlb hub tdb=>?_⟩;have hlrA:HA lr4=some (.lst (ur2++zs)):=sA _ _ (ai aa na);have s8:=sX.trans sA;have hlsA:=s8 _ _ hls9;have hlpA:=s8 _ _ hlp9;have sA0:=s90.trans s8;have tdsA:=(tds9.same s8).app tdb;generalize ur2++zs=ur3 at hul9 hlrA tdsA ⊢;clear s90 sA s8 sX hls9 hlp9 hlc9 hlr9 tds9 tdb n4 na nlq;have hulA:(ur3++us2).length<=1+2*cs.length+ss.length:=by rw[aab];lia
     have hatb : 0<=at_/\at_<=400:=⟨fJ,q_⟩
     clear fJ q_ sp0 sp1;symm;rename_i lr5 n5;have hlrB:(upd HA lr5 (.lst (ur3++us2))) lr5=some (.lst (ur3++us2)):=aa;have sX:ao HA (upd HA lr5 (.lst (ur3++us2))):=ae n5;generalize upd HA lr5 (HO.lst (ur3++us2))=HB at hlrB sX ⊢;have hlsB:=sX _ _ hlsA;have hlpB:=sX _ _ hlpA;have sB0:=sA0.trans sX;have tdsB:=tdsA.same sX;generalize ur3++us2=ur4 at hulA hlrB tdsB ⊢;clear sX n5 sA0 hlsA hlpA hlrA tdsA;refine eE (λi ys Z H6=>(∃ v,Z = [v,some (V.ref ls),some (V.ref lp)])/\ao HB H6/\ys.length=i/\aN fH H6 ys) ⟨⟨_,rfl⟩,ao.refl _,rfl,aN.nil⟩ (λi ys Z H6 hi ⟨_,_,e,_⟩=>by rw[e,aaI];lia) ?_ ?_
     . rintro i ys Z H6 hi ⟨⟨v,rfl⟩,s6,VI,U3⟩;have Wn:=s6 _ _ hlsB;have Wo:=s6 _ _ hlpB;obtain⟨sv,hsv,hats⟩:=eF (ns:=ss) (i:=0+(i:Int)) (by lia) (by lia);obtain⟨pv,hpv,hatp⟩:=eF (ns:=ps) (i:=0+(i:Int)) (by lia) (by lia);have hsv2:=VW sv hsv;have hpv2:=hpb pv hpv;clear sB0 hlsB hlpB;symm;rename_i t nt;exact⟨⟨_,rfl⟩,s6.trans (ae nt),by rw[aab,VI];rfl,(U3.same (ae nt)).app (aN.one (r:=.get sv pv) ⟨t,rfl,aa⟩ (.inl (by walk_at"A")))⟩
     rintro zs Z H6 ⟨_,s6,hzl,tdz⟩;intro lq nlq;have hzl:zs.length=((ss.length:Int)).toNat:=hzl;have hlrC:=s6 _ _ hlrB;have sC0:=sB0.trans s6;have tdsC:=(tdsB.same s6).app tdz;have hulC:(ur4++zs).length<=1+2*cs.length+2*ss.length:=by rw[aab];lia
     clear sB0 s6 hlsB hlpB hlrB tdsB tdz;symm;rename_i UB n6;have sX:=(ae nlq (o:=.lst zs)).trans (ae n6 (o:=.lst (ur4++zs)));have VS:(upd (upd H6 lq (.lst zs)) UB (.lst (ur4++zs))) UB=some (.lst (ur4++zs)):=aa;have Wg:=aG (sC0.trans (ae nlq (o:=.lst zs))) n6;generalize upd (upd H6 lq (HO.lst zs)) UB (HO.lst (ur4++zs))=HF at sX VS ⊢;have sF:=sC0.trans sX;have tdF:=tdsC.same sX;generalize ur4++zs=uf at hulC VS tdF ⊢;clear sX sC0 tdsC hlrC nlq n6;refine cR (λh0=>?_) (λh0=>?_)
     . symm;rename_i ts nts;have sY:ao H (upd (upd HF ts (.tup [.str "shrink",V.int hg])) UB (.lst (uf++[V.ref ts]))):=bA (sF.trans (ae nts)) Wg;have hY:(upd (upd HF ts (.tup [.str "shrink",V.int hg])) UB (.lst (uf++[V.ref ts]))) UB=some (.lst (uf++[V.ref ts])):=aa;have tdY:aN fH (upd (upd HF ts (.tup [.str "shrink",V.int hg])) UB (.lst (uf++[V.ref ts]))) (uf++[V.ref ts]):=((tdF.same (ae nts)).app (aN.one (r:=.shrink hg) ⟨ts,rfl,aa⟩ (.inl ⟨⟨by simp only [Rw.ok,aH,isVal,aF,aM];lia,aan⟩,by simp only [bN];lia⟩))).off (ai VS nts);have VI:(uf++[V.ref ts]).length<=2*cs.length+10:=by rw [aab,aaF];lia
       generalize upd (upd HF ts (HO.tup [V.str (aae "shrink"),V.int hg])) UB (HO.lst (uf++[V.ref ts]))=HY at sY hY tdY ⊢;generalize uf++[V.ref ts]=uy at hY tdY VI ⊢;clear sF VS tdF nts;refine eW (λhj=>?_) (λhj=>?_)
       . symm;rename_i tj Vc tt TK;have sZ:ao H (upd (upd HY tj (.tup [.str "jump",V.int (-1 - c/1920%3)])) UB (.lst (uy++[V.ref tj]))):=bA (sY.trans (ae Vc)) Wg;have tZ:aN fH (upd (upd HY tj (.tup [.str "jump",V.int (-1 - c/1920%3)])) UB (.lst (uy++[V.ref tj]))) (uy++[V.ref tj]):=((tdY.same (ae Vc)).app (aN.one (r:=.dr (-1 - c/1920%3)) ⟨tj,rfl,aa⟩ (.inr (.inr ⟨_,rfl⟩)))).off (ai hY Vc);exact q tt UB (uy++[V.ref tj]) _ _ (sZ.trans (ae TK)) aa (ai aa TK) (by rw[aab];exact acL _ _) (by rw[aab,aaF];lia) (tZ.same (ae TK)) (by lia) (by lia)
       . symm;rename_i tj Vc tt TK;have sZ:ao H (upd (upd HY tj (.tup [.str "back",V.int 7])) UB (.lst (uy++[V.ref tj]))):=bA (sY.trans (ae Vc)) Wg;have tZ:aN fH (upd (upd HY tj (.tup [.str "back",V.int 7])) UB (.lst (uy++[V.ref tj]))) (uy++[V.ref tj]):=((tdY.same (ae Vc)).app (aN.one (r:=.back 7) ⟨tj,rfl,aa⟩ (.inl (by walk_at"A")))).off (ai hY Vc);exact q tt UB (uy++[V.ref tj]) _ _ (sZ.trans (ae TK)) aa (ai aa TK) (by rw[aab];exact acL _ _) (by rw[aab,aaF];lia) (tZ.same (ae TK)) (by lia) (by lia)
     . symm;refine eW (λhj=>?_) (λhj=>?_)
       . symm;rename_i tj Vc tt TK;have sZ:ao H (upd (upd HF tj (.tup [.str "jump",V.int (-1 - c/1920%3)])) UB (.lst (uf++[V.ref tj]))):=bA (sF.trans (ae Vc)) Wg;have tZ:aN fH (upd (upd HF tj (.tup [.str "jump",V.int (-1 - c/1920%3)])) UB (.lst (uf++[V.ref tj]))) (uf++[V.ref tj]):=((tdF.same (ae Vc)).app (aN.one (r:=.dr (-1 - c/1920%3)) ⟨tj,rfl,aa⟩ (.inr (.inr ⟨_,rfl⟩)))).off (ai VS Vc);exact q tt UB (uf++[V.ref tj]) _ _ (sZ.trans (ae TK)) aa (ai aa TK) (by rw[aab];exact acL _ _) (by rw[aab,aaF];lia) (tZ.same (ae TK)) (by lia) (by lia)
       . symm;rename_i tj Vc tt TK;have sZ:ao H (upd (upd HF tj (.tup [.str "back",V.int 7])) UB (.lst (uf++[V.ref tj]))):=bA (sF.trans (ae Vc)) Wg;have tZ:aN fH (upd (upd HF tj (.tup [.str "back",V.int 7])) UB (.lst (uf++[V.ref tj]))) (uf++[V.ref tj]):=((tdF.same (ae Vc)).app (aN.one (r:=.back 7) ⟨tj,rfl,aa⟩ (.inl (by walk_at"A")))).off (ai VS Vc);exact q tt UB (uf++[V.ref tj]) _ _ (sZ.trans (ae TK)) aa (ai aa TK) (by rw[aab];exact acL _ _) (by rw[aab,aaF];lia) (tZ.same (ae TK)) (by lia) (by lia))
theorem uV (T:TX):FE 2 "_law_any_code" (Fp K 12):=by
 refine ba 1 T.vg gw ?_ ?_;ac_nf
 . obtain ⟨a0, ns, rfl, hS, U9, q⟩ := h;walk_at "h";have nd:=gw.nd;refine' aV ?_ ?_;walk_at "tS";walk_at "n";exact (fu (i:=2) gw.nd rfl rfl (own:=["_law_k"]) (fr:=[("_law_script",0),("_law_many",1)]) rfl ⟨rfl,(by walk_at "clok"),(by walk_at "frok"),rfl,(by nofun),(by nofun),rfl⟩ (e_ rfl T.fU (aj (pv 1) aD)) (λ_ _ _ _=>(bT (i:=0) (show aa6 [("_law_k" : Str),("_law_script" : Str),("_law_many" : Str)] from by nofun) rfl (Or.inl rfl))) (λ_ _ _ _=>c9) (λ_ _ _ _=>(bj (wL T) (hr.mono (by decide)) b_ rfl (aj (bj (gZ T) (hr.mono (by decide)) b_ rfl (aj (pv 1) (aj (cT (dW (K:=K) rfl) aW (pv 0)) aD))) (aj (pv 2) aD)))));walk_at "c";walk_at "n";walk_at "g";walk_at "tI";walk_at "tG";walk_at "m";exact (wY (jf hr) (pv 3) (cT uD (pv 4) (pv 1)) (cT uD (cT Dl (pv 4) (pv 1)) (pv 1)) rfl);exact λ_=>rfl;walk_at "m";walk_at "tS";walk_at "s";symm;have hm0 : 1<=1+cellAt ns 0/2%12/\1+cellAt ns 0/2%12<=12:=⟨by lia,by lia⟩
   generalize 1+cellAt ns 0/2%12=m at hm0 ⊢;refine eE (λi ys Z H1=>(∃ v,Z = [v,some (.ref a0),some (.int m)])/\ao H H1/\ys.length=i/\aN iK H1 ys) ⟨⟨_,rfl⟩,ao.refl _,rfl,aN.nil⟩ (λi ys Z H1 hi h=>by rw[h.2.2.1,aaI];lia) ?_ ?_
   . rintro i ys Z H1 hi ⟨⟨v,rfl⟩,s1,VI,Tu⟩;have hS1:=aO s1 hS;symm;exact⟨_,_,rfl,by lia,by lia,λu r H2 s2 hu ho=>⟨⟨_,rfl⟩,s1.trans s2,by rw[aab,VI];rfl,(Tu.same s2).app (aN.one hu ho)⟩⟩
   rintro ys Z H1 ⟨_,s1,VI,Tu⟩;have hS1:=aO s1 hS;have hk : 0<=cellAt ns 0/24%3/\cellAt ns 0/24%3<3:=⟨by lia,by lia⟩
   have Uc:=A7 ns (j:=30) (k:=cellAt ns 0/24%3) (by decide) hk.1;symm;rename_i ll VV d nd lx WL;generalize cV ns (some 30) (some (30+cellAt ns 0/24%3))=cs at Uc WL ⊢;have nd0:(upd H1 ll (.lst ys)) d=none:=nd;refine eZ (K:=K) (a:=lx) (xs:=cs.map V.int) (λi Z HD=>∃ (ls:List (Int×Int)) (v:Option V),ao (upd H1 ll (.lst ys)) HD/\HD lx=some (.lst (cs.map V.int))/\Z = [some (.ref a0),some (.int m),some (.ref ll),some (.ref d),v]/\HD d=some (.dK (aw ls))/\dN ls/\ls.length<=i) ⟨[],none,(ae nd).trans (ae WL),aa,rfl,ai aa WL,⟨adx,by decide,λp hp=>by cases hp⟩,aag _⟩ (λi Z HD _ ⟨_,_,_,h,_⟩=>ar.of h) ?_ ?_
   . rintro i x Z HD hx ⟨ls,v,s3,hlx,rfl,hd,Tf,hli⟩;obtain⟨cl,hcl2,rfl⟩:∃ c:Int,cs[i]? = some c/\x=.int c:=by
       rw[aah] at hx;obtain⟨c,h1,e⟩:=Option.map_eq_some_iff.mp hx;exact⟨c,h1,e.symm⟩
     have hi:=(List.getElem?_eq_some_iff.mp hcl2).1;have v0:=abi (cl/m) (show m≠0 by lia);have v1:=aba (cl/m) (show 0<m by lia);have cd:D7 cl m:=⟨by lia,by lia⟩
     symm;refine⟨_,_,rfl,rfl,cd,?_⟩;symm;obtain⟨V9,e',L',n'⟩:=Lu (c:=cl%m) (r:=cl/m%m) Tf (by lia) (by lia) (by lia);refine ji hd (by unfold aw;rw[aac,aaI];lia) ?_;rw[e'];exact⟨V9,_,bA s3 nd0,by rw[ak (λz=>by rw[z,hd] at hlx;cases hlx)];exact hlx,rfl,aa,L',by lia⟩
   . rintro Z HD ⟨ls,v,s3,hlx,rfl,hd,Tf,hli⟩;symm;rename_i tt TK;exact q tt ll d ys ls _ ((s1.trans (ae VV)).trans (s3.trans (ae TK))) aa (aG s1 VV) (aG (s1.trans (ae VV)) nd0) (λz=>by rw[z,aa] at nd0;cases nd0) (ai (s3 _ _ aa) TK) (by lia) (by lia) (Tu.same ((ae VV).trans (s3.trans (ae TK)))) (ai hd TK) Tf
theorem GD (r:Rw):r.mW.lookup ("runs" : Str)=none:=by
 cases r <;> (show abC _ (au _ _ _)=none;walk_at"nolk")
theorem BV (T:TX)(hr:r.here):ME 2 (r.cls a) "runs" (d_ K a r):=by
 cases r
 . exact(Co T _ _).mono (by decide)
 . exact(Br T _ _).mono (by decide)
 . exact(BI T _ _ _).mono (by decide)
 . exact hr.elim
 . exact hr.elim
 . exact hr.elim
 . exact(Be T _).mono (by decide)
 . exact(vS T _).mono (by decide)
 . exact(CH T _ _).mono (by decide)
 . exact(BS T _ _).mono (by decide)
 . exact(Bo T _).mono (by decide)
 . exact(wk T _ _).mono (by decide)
 . exact(AA T _).mono (by decide)
 . exact(Ah T _).mono (by decide)
 . exact(AD T _).mono (by decide)
theorem wM (T:TX)(hr:r.here)(h:bC a H p r):∃ t',bP K H (.ref p) t'/\acj K t' (.ref a.bc)=some r.dR/\acj K t' (.ref a.aY)=some r.isCall/\acj K t' (.ref a.a_)=some r.d7:=by
 obtain⟨dx,e⟩:=h;cases r
 . exact⟨_,bP.ins e T.jL T.uC.1 T.eP T.eO T.uC.2,T.rK,T.k9,T.kU⟩
 . exact⟨_,bP.ins e T.ig T.qJ.1 T.eP T.eO T.qJ.2,T.o8,T.jl,T.j7⟩
 . exact⟨_,bP.ins e T.jo T.uE.1 T.eP T.eO T.uE.2,T.sd,T.lA,T.kW⟩
 . exact hr.elim
 . exact hr.elim
 . exact hr.elim
 . exact⟨_,bP.ins e T.gW T.qH.1 T.eP T.eO T.qH.2,T.pB,T.jr,T.jO⟩
 . exact⟨_,bP.ins e T.fj T.kH.1 T.eP T.eO T.kH.2,T.lU,T.ik,T.ir⟩
 . exact⟨_,bP.ins e T.jQ T.uv.1 T.eP T.eO T.uv.2,T.r_,T.lE,T.lu⟩
 . exact⟨_,bP.ins e T.jP T.ud.1 T.eP T.eO T.ud.2,T.rm,T.lC,T.kZ⟩
 . exact⟨_,bP.ins e T.hG T.qQ.1 T.eP T.eO T.qQ.2,T.oC,T.jR,T.jv⟩
 . exact⟨_,bP.ins e T.fi T.kq.1 T.eP T.eO T.kq.2,T.mF,T.iw,T.ie⟩
 . exact⟨_,bP.ins e T.gX T.qN.1 T.eP T.eO T.qN.2,T.oK,T.jX,T.jm⟩
 . exact⟨_,bP.ins e T.hU T.qC.1 T.eP T.eO T.qC.2,T.oS,T.ki,T.jE⟩
 . exact⟨_,bP.ins e T.fZ T.jh.1 T.eP T.eO T.jh.2,T.jw,T.jH,T.jD⟩
theorem yM (T:TX)(b o:Int):ME 3 a.bX "keeps" (dD a (.copy b o)):=by
 refine aB 2 T.ig T.Bj nE ?_ ?_;ac_nf
 . obtain⟨x, s, z, rfl, ⟨dx, hx⟩, hk, z0, z1, hs, q⟩ := h
   change H x=some (.ins a.bX dx (au "one" (.int o) (au "box" (.int b) []))) at hx
   obtain⟨⟨k1,k2⟩,⟨k3,k4⟩⟩:=hk;walk_at"h";have nd:=nE.nd;walk_at"v";symm;exact q
theorem zQ (T:TX)(b c:Int):ME 3 a.cO "keeps" (dD a (.put b c)):=by
 refine aB 2 T.jQ T.BQ qg ?_ ?_;ac_nf
 . obtain⟨x, s, z, rfl, ⟨dx, hx⟩, hk, z0, z1, hs, q⟩ := h
   change H x=some (.ins a.cO dx (au "cell" (.int c) (au "box" (.int b) []))) at hx
   obtain⟨⟨k1,k2⟩,⟨k3,k4⟩⟩:=hk;have hh : ¬ z<=c:=λe=>by rw[show Rw.aE (.put b c) z=none from if_pos e] at hs;cases hs
   walk_at"h";have nd:=qg.nd;walk_at"v";symm;exact q
theorem z_ (T:TX)(b c:Int):ME 3 a.cM "keeps" (dD a (.get b c)):=by
 refine aB 2 T.jP T.CD p8 ?_ ?_;ac_nf
 . obtain⟨x, s, z, rfl, ⟨dx, hx⟩, hk, z0, z1, hs, q⟩ := h
   change H x=some (.ins a.cM dx (au "cell" (.int c) (au "box" (.int b) []))) at hx
   obtain⟨⟨k1,k2⟩,⟨k3,k4⟩⟩:=hk;have hh : ¬ z<=c:=λe=>by rw[show Rw.aE (.get b c) z=none from if_pos e] at hs;cases hs
   walk_at"h";have nd:=p8.nd;walk_at"v";symm;exact q
theorem sP (T:TX):iE P w K mg base (eu P w) 3 "newest_caller" (NQ K a.dE):=by
 refine GY 2 T.tG fS ?_ ?_;ac_nf
 . obtain ⟨pe, pk, pp, at', ev, es, kn, pl, rfl, hpe, Tr, hk, hkn, S9, hpo, Ti, q, hE⟩ := h;have hel:=Tr.1;have h8:=hkn.1;walk_at "h";have nd:=fS.nd;refine' aV ?_ ?_;walk_at "f";walk_at "y";walk_at "tT";walk_at "m";exact (kD (gR T) (hr.mono (by decide)) rfl (aj (pv 1) aD));exact cL;walk_at "n";walk_at "x";walk_at "tS";walk_at "n";walk_at "x";walk_at "tS";walk_at "n";walk_at "f";walk_at "y";walk_at "tT";walk_at "m";exact (kD (gR T) (hr.mono (by decide)) rfl (aj (pv 1) aD));exact cL;walk_at "n";walk_at "x";walk_at "tS";walk_at "n";walk_at "x";exact (fu (i:=7) fS.nd rfl rfl (own:=["places"]) (fr:=[("known",2),("piece",6)]) rfl ⟨rfl,(by walk_at "clok"),(by walk_at "frok"),rfl,(by nofun),(by nofun),rfl⟩ (dP (K:=K) rfl (bj (gC T) (hr.mono (by decide)) b_ rfl (aj (pv 4) aD))) (λ_ _ _ _=>(bT (i:=0) (show aa6 [("places" : Str),("known" : Str),("piece" : Str)] from by nofun) rfl (Or.inl rfl))) (λ_ _ _ _=>c9) (λ_ _ _ _=>(bj (AH T) (hr.mono (by decide)) b_ rfl (aj (pv 0) (aj (pv 1) (aj (pv 2) aD))))));walk_at "n";walk_at "f";walk_at "y";walk_at "tT";walk_at "m";exact (kD (gR T) (hr.mono (by decide)) rfl (aj (pv 1) aD));exact cL;walk_at "m";walk_at "x";walk_at "tS";walk_at "s";by_cases h0:at'<0
   . symm;refine⟨fb (by have:=Ti.1;lia) (by have:=Ti.2;lia),λd hd=>?_⟩;exact hE (by unfold dX;rw[if_neg (by lia)]) d _ (by walk_at"same") aa
   by_cases h1:(ev.length:Int)<=at'
   . symm;refine⟨fb (by have:=Ti.1;lia) (by have:=Ti.2;lia),λd hd=>?_⟩;exact hE (by unfold dX;rw[if_neg (by lia)]) d _ (by walk_at"same") aa
   have hi:at'.toNat<es.length:=by lia
   obtain⟨v,e1,e2⟩:=Tr.2 at'.toNat _ (aaa hi);have T3:cZ ev at'=some v:=by
     rw[show at'=((at'.toNat:Nat):Int) from by lia];exact bF e1
   have Tj:dX es at' kn pl=Fb es[at'.toNat] kn pl:=by
     unfold dX;rw[if_pos (by lia),aar,aaa hi];rfl
   rw[Tj] at q hE;generalize es[at'.toNat]=oe at e2 q hE;clear Tj;cases oe with
   | none =>
     cases e2
     symm;refine⟨fb (by have:=Ti.1;lia) (by have:=Ti.2;lia),λd hd=>?_⟩;exact hE rfl d _ (by walk_at"same") aa
   | some e =>
     obtain⟨p,rfl,⟨qe,he1,he2⟩⟩:=e2;have hup:Fb (some e) kn pl=if 0<=e.h/\e.h<=pl.length then gJ e kn pl else none:=rfl;rw[hup] at q hE;by_cases h2 : 0<=e.h/\e.h<=pl.length
     . rw [if_pos h2] at q hE;symm;rename_i lp hlp;rw [GJ pl (by lia) (by lia)];refine ⟨p,e,rfl,⟨qe,by walk_at "sqt",by walk_at "sqt"⟩,λt ht=>?_⟩;symm;refine xD (λs=>br s kn (pl.drop ((pl.length:Int) - e.h).toNat)) (λZ=>∃ v,Z = [v,some (.ref pk),some (.ref lp)]) (aI.of aa) (by show 4<=aal;decide) ⟨_,rfl⟩ ?_ ?_
       . rintro i x ys Z H1 hx cc ss ⟨v,rfl⟩;symm;refine Nn (by walk_at"sql") h8 (by walk_at"sql") (λz=>Hh z) ?_;exact cc.next hx rfl (by walk_at"same") ⟨_,rfl⟩
       intro H3 s5 f hf;rw[show e.dI.map (λs=>br s kn (pl.drop ((pl.length:Int) - e.h).toNat))=[br e.b kn (pl.drop ((pl.length:Int) - e.h).toNat),br e.v4 kn (pl.drop ((pl.length:Int) - e.h).toNat),br e.v5 kn (pl.drop ((pl.length:Int) - e.h).toNat),br e.v6 kn (pl.drop ((pl.length:Int) - e.h).toNat)] from rfl];have o1:=fX (s:=e.b) hkn (hpo.drop ((pl.length:Int) - e.h).toNat);have o2:=fX (s:=e.v4) hkn (hpo.drop ((pl.length:Int) - e.h).toNat);have o3:=fX (s:=e.v5) hkn (hpo.drop ((pl.length:Int) - e.h).toNat);have o4:=fX (s:=e.v6) hkn (hpo.drop ((pl.length:Int) - e.h).toNat);symm
       with_reducible refine(?_:x9 _ _ _ _ _ _)
       refine JT (ar.of aa) rfl (GB o1 o2 o3 o4) ?_;rw[if_neg aap];rcases C0 o1 o2 o3 o4 with ⟨WU,VN⟩ | ⟨WU,r,a1,b1,c1,g1,g2,g3,g4,_⟩
       . rw[WU];symm;refine⟨fb (by have:=Ti.1;lia) (by have:=Ti.2;lia),λd hd=>?_⟩;exact hE (zr VN) d _ (by walk_at"same") aa
       . rw[WU,g1,g2,g3,g4];symm;rename_i t2 UW t3 ht3;exact q _ _ _ (Az g1 g2 g3 g4) (by walk_at"same") ⟨t3,t2,rfl,by rw[aa],ai aa ht3⟩
     . rw[if_neg h2] at q hE;by_cases h3:(pl.length:Int) - e.h<0
       . symm;refine⟨fb (by have:=Ti.1;lia) (by have:=Ti.2;lia),λd hd=>?_⟩;exact hE rfl d _ (by walk_at"same") aa
       . symm;refine⟨fb (by have:=Ti.1;lia) (by have:=Ti.2;lia),λd hd=>?_⟩;exact hE rfl d _ (by walk_at"same") aa
theorem sU (T:TX):FE 3 "own_complaint" (Pp K a):=by
 refine ba 2 T.tE jA ?_ ?_;ac_nf
 . obtain⟨x, p, r, e, rfl, ⟨dx, hx⟩, ok, hh, he, q⟩ := h;obtain⟨qe,h1,h2⟩:=id he;walk_at"h";have nd:=jA.nd;walk_at"v";symm;refine⟨p,e,rfl,he,λH1 s1=>?_⟩;have VJ:=s1 _ _ hx;have h11:=ck s1 h1;have he1:=he.same s1;unfold ek at q;cases hw:du e with
   | true =>
     rw[hw,if_pos rfl] at q;symm;exact q _ s1
   | false =>
     rw[hw,if_neg (by decide)] at q;symm;refine aX VJ (lg _) ((iP T hh).mono (by decide)) ?_;symm;refine⟨x,e.h,rfl,⟨dx,VJ⟩,?_⟩;symm;cases hg:r.aE e.h with
     | none =>
       rw[hg,if_pos rfl] at q;show oZ V.aC V.aC _ _;symm;exact q _ s1
     | some z =>
       rw[hg,if_neg (λz=>by cases z)] at q;show oZ (V.int z) V.aC _ _;symm;obtain⟨t',ty,kc,kb⟩:=lJ T hh ⟨dx,VJ⟩;cases r with
       | back b =>
         with_reducible refine(?_:iU _ _ _ _)
         refine eX (b:=true) (λz=>by cases z) ty kb ?_;symm;refine⟨x,p,b,e,rfl,⟨dx,VJ⟩,ok.1,ok.2,he1,λH2 s2=>?_⟩;have q:∀ H',ao H H'->Q (oV (if jt b e=true then none else some .back)) H':=q;cases hm:jt b e with
         | true =>
           rw[hm] at q;symm;exact q _ (s1.trans s2)
         | false =>
           rw[hm] at q;symm;exact q _ (s1.trans s2)
       | _ =>
         with_reducible refine(?_:iU _ _ _ _)
         refine eX (b:=false) (λz=>by cases z) ty kb ?_;symm;exact q _ s1
theorem B4 (T:TX):KE 3 "Machine" a.ax (mL a)/\JS P w K mg base cb 3 "Machine" a.ax (.int 0) (mL a):=by
 refine Lc 2 T.FZ T.EY kT ?_ ?_;ac_nf
 . obtain ⟨x, dx, c, t, b, dt, l, d, start, prs, rs, bs, es, kvs, rfl, hx, hc, Tq, hpx, ht, htx, hl, hd, hb, h7, hm, q⟩ := h;have cx:c≠x:=λz=>by rw [z,hx] at hc;cases hc
   have bx:b≠x:=λz=>by rw[z,hx] at hb;cases hb
   have lx:l≠x:=λz=>by rw[z,hx] at hl;cases hl
   have ddx:d≠x:=λz=>by rw[z,hx] at hd;cases hd
   have S7:=Tq.1;unfold fQ at ht;walk_at"h";have nd:=kT.nd;walk_at"v";symm;rename_i pc hpc;have npx:pc≠x:=(ag hx hpc).symm;intro xt dxt V7 U4 nne;refine' uZ (kvs:=kvs) (xs:=es) V7 U4 ?h1 ?h2 ?q;(case h1=>exact ar.of (cq lx (ai hl hpc)))
   (case h2=>exact .inr ⟨d,rfl,cq ddx (ai hd hpc)⟩)
   (case q =>
     intro l2 dk2 H2 s2 nl2 nd2 n12 nxl WK WN UJ UM;refine⟨rfl,?_⟩;have e1:H2 x=some (.ins a.ax dx (au "code" (.ref pc) [])):=s2 _ _ aa;have e2:H2 pc=some (.lst (prs.map V.ref)):=s2 _ _ (cq npx aa);have kp:∀ b o,H b=some o->b≠x->H2 b=some o:=λb o e ne=>s2 _ _ (by rw[ak ne,ak (ag e hpc)];exact e);have fr:∀ q,H2 q=none->H q=none:=λq e=>by
       cases h:H q with
       | none=>rfl
       | some o =>
         by_cases z:q=x
         . rw[z,e1] at e;cases e
         . rw[kp q o h z] at e;cases e
     have eb:H2 b=some (.lst (bs.map V.int)):=kp _ _ hb bx;have h7b:∀ y:Int,(bs++[y]).length=8:=λy=>by rw[aab,h7];rfl
     have qx1:x≠xt:=ag aa V7;have qx2:=qx1.symm;have ql1:x≠l2:=ag aa nl2;have ql2:=ql1.symm;have fl2:H l2=none:=(bw (bw nl2).1).1;have fd2:H dk2=none:=(bw (bw nd2).1).1;have qd1:x≠dk2:=ag aa nd2;have qd2:=qd1.symm;clear s2 nl2 nd2 V7 U4 nne hx hc hb hl hd ht;symm;generalize hH:((abX V.ref prs).length:Int)=aS at *;have hH':aS=rs.length:=by rw[<- hH,aac,S7]
     subst hH';generalize hL:abX V.int bs++[V.int (rs.length:Int)]=L at *;have hL':L=(bs++[(rs.length:Int)]).map V.int:=by rw[<- hL,aaE];rfl
     subst hL';clear hL;symm;rename_i lb lh ph pl nlb VH nph npl kt nkt t2 nt2 pk npk;refine aX aa (by walk_at"nolk") ((cQ T).mono (by decide)) ?_;symm;refine⟨x,dx,_,(rs.length:Int),start,rfl,aa,by walk_at"lk",?_⟩;symm;have Wy:∀ {y:Addr},H2 y=none->H y=none/\y≠x/\y≠pc:=λ{y} e=>⟨fr y e,(λz=>by rw[z,e1] at e;cases e),(λz=>by rw[z,e2] at e;cases e)⟩;have d1:H2 ph=none:=by have h:=nph;(repeat replace h:=f9 h);exact h
     have d2:H2 pl=none:=by have h:=npl;(repeat replace h:=f9 h);exact h
     have d3:H2 kt=none:=by have h:=nkt;(repeat replace h:=f9 h);exact h
     have d4:H2 t2=none:=by have h:=nt2;(repeat replace h:=f9 h);exact h
     have d5:H2 pk=none:=by have h:=npk;(repeat replace h:=f9 h);exact h
     obtain⟨g1,i1,j1⟩:=Wy d1;obtain⟨g2,i2,j2⟩:=Wy d2;obtain⟨g3,i3,j3⟩:=Wy d3;obtain⟨g4,i4,j4⟩:=Wy d4;obtain⟨g5,i5,j5⟩:=Wy d5;have key:∀ HF:Hp,(∀ b o,H b=some o->b≠x->HF b=some o)->gb a HF x pk dx pc xt ph pl (au "state" (.str (aK rs.length start)) (au "dropped" .aC (au "calls" (.ref pk) (au "cells" (.ref pl) (au "held" (.ref ph) (au "coming" (.int start) (au "home" (.int (rs.length:Int)) (au "table" (.ref xt) (au "code" (.ref pc) []))))))))) prs [.ref t2] (ia rs bs start)->zg a H HF xt pk es kvs->Q .aC HF:=λHF k M TT=>q pk pc xt ph pl _ [.ref t2] HF g5 hpc g1 g2 k M TT;refine' key _ (λb o e ne=>?kf) ⟨aa,MF.start pc xt ph pl pk _ _ _,by walk_at"L",Tq.to (λp hp o e=>by (have e3:=kp p o e (hpx p hp));(have ne:=hpx p hp);walk_at"L"),by walk_at"L",by walk_at"L",by walk_at"L",⟨rfl,λi v c ev ec=>?_⟩,j5,?_,?_,hpx⟩ ⟨dxt,l2,dk2,(show _=some (HO.ins a.b3 dxt (au "landings" (.ref dk2) (au "entries" (.ref l2) []))) from by walk_at"L"),by walk_at"L",by walk_at"L",ag UJ d5,fl2,fd2⟩
     . have e3 := kp b o e ne
       walk_at"L"
     . cases i with
       | zero =>
         cases ev
         cases ec
         exact⟨t2,kt,rfl,by walk_at"L",by walk_at"L"⟩
       | succ i=>simp at ev
     . exact(ag (show _=some (HO.lst ((bs++[(rs.length:Int)]).map V.int)) from by walk_at"L") npk).symm
     . exact(ag (show _=some (HO.lst []) from by walk_at"L") npk).symm)
theorem B1 (T:TX):JS P w K mg base cb 3 "Machine" a.ax (.int 0) (mL a):=(B4 T).2
theorem yG (T:TX):ME 3 a.ax "do" (RV a):=by
 refine aB 2 T.cu T.Bb nz ?_ ?_;ac_nf
 . obtain ⟨m, p, pk, pt, r, S, rfl, ⟨dx, pc, ph, pl, fs, prs, cs, M⟩, O, ⟨dxr, Te⟩, hmem, UI, pm, Tb, Uc, q⟩ := h;have f1:=M.f.av;have f2:=M.f.held;have f3:=M.f.cells;have f4:=M.f.calls;have f5:=M.f.aS;have fl:=M.f.len;have fn:=M.f.no;have hm:=M.hm;have hh:=M.hh;have hl:=M.hl;have hk:=M.hk;have h8:=O.h8;have hcs:cs.length<=50000:=by rw [M.calls.1];exact Uc
   have x1:=M.QO;have x2:=M.QX;have x3:=M.QV;have x4:=M.n2;have x5:=M.n3;have x6:p≠pk:=λz=>by rw[z,hk] at Te;cases Te
   obtain⟨rok,rh0⟩:=O.ok r hmem;have rh:=rh0 UI;walk_at"h";have nd:=nz.nd;walk_at"v";symm;refine aX Te (GD _) ((BV T rh).mono (by decide)) ?_;symm;refine⟨p,ph,pl,_,_,_,rfl,⟨dxr,Te⟩,rok,ar.of hh,O.h8,O.hv,ar.of hl,O.cl,?_⟩;unfold MS.bU at q;cases Tn:r.run S.av S.held S.cells with
   | none =>
     rw[Tn] at q;intro H1 s1;have UC:=s1 _ _ hm;symm;exact q _ (aP.ny (aP.of_same s1)) (M.qP s1 _)
   | some tt =>
     obtain⟨n,bs,pp⟩:=tt;rw[Tn] at q;dsimp only at q;intro t b' p' H1 s1 nt nb np e1 e2 e3 ht hb hp;have UC:=s1 _ _ hm;have hrow1:=s1 _ _ Te;have hk1:=s1 _ _ hk;have hh1:=s1 _ _ hh;have hl1:=s1 _ _ hl;have y1:pk≠b':=ag hk nb;have y2:pk≠p':=ag hk np;symm;refine aX UC (fn _ (by nofun)) ((cQ T).mono (by decide)) ?_;symm;refine⟨m,dx,fs,_,n,rfl,UC,f5,?_⟩;by_cases hw:V.str (aK S.rows.length n)=V.str "fault"
     . have hw' : aK S.rows.length n = "fault" := by injection hw
       rw[if_pos hw'] at q;symm;exact q _ (aP.ny (aP.of_same s1)) (M.qP s1 _)
     . have hw' : ¬ aK S.rows.length n = "fault" := λz => hw (by rw [z]);rw [if_neg hw'] at q;unfold MS.l6 at q;symm;obtain ⟨t1,ty1,_,kc,kb⟩:=wM T rh ⟨dxr,hrow1⟩
       with_reducible refine(?_:iU _ _ _ _)
       refine eX (λz=>by cases z) ty1 kc ?_;cases hC:r.isCall with
       | true =>
         have hB:r.d7=false:=by cases r <;> first | rfl | cases hC
         rw[hC] at q;symm;rename_i k2 UD t2 UW;have nk2:=bw UW;obtain⟨t3,ty3,_,_,kb3⟩:=wM T rh (H:=upd (upd (upd H1 k2 (.tup [.int (gI S.held 4),.int (gI S.held 5),.int (gI S.held 6)])) t2 (.tup [.int (S.av+1),.ref k2,.int (S.cells.length:Int)])) pk (.lst (cs++[.ref t2]))) ⟨dxr,by bv_omega⟩
         with_reducible refine(?_:iU _ _ _ _)
         refine eX (λz=>by cases z) ty3 kb3 ?_;rw[hB];symm;refine aX (by walk_at"hlk") (fn _ (by nofun)) ((eG T).mono (by decide)) ?_;symm;refine⟨m,dx,pc,pt,ph,pl,pk,b',p',fs,_,_,n,_,_,rfl,by bv_omega,M.f,λU_ F'=>?_⟩;symm;have z1:t2≠pk:=(ag hk1 nk2.1).symm;have z2:k2≠pk:=(ag hk1 UD).symm;have sm:ao H1 (upd (upd H1 k2 (.tup [.int (gI S.held 4),.int (gI S.held 5),.int (gI S.held 6)])) t2 (.tup [.int (S.av+1),.ref k2,.int (S.cells.length:Int)])):=(ae UD).trans (ae UW);refine q _ (aP.ny (aP.Ii (aP.of_same (s1.trans sm)))) ⟨dx,pc,b',p',U_,prs,cs++[.ref t2],?_⟩;refine M.xg (calls':=S.calls++[(S.av+1,gI S.held 4,gI S.held 5,gI S.held 6,(S.cells.length:Int))]) (aP.Ii (aP.of_same (s1.trans sm))) (by walk_at"hlk") (by walk_at"hlk") (by walk_at"hlk") aa (ClsAt.snoc ?_ ⟨t2,k2,rfl,?_,?_⟩) y1 y2 F'
         . exact M.clsAt (aP.Ii (aP.of_same (s1.trans sm)))
         . rw[ak z1,aa]
         . rw[ak z2,ak nk2.2.symm,aa]
       | false =>
         rw[hC] at q;symm
         with_reducible refine(?_:iU _ _ _ _)
         refine eX (λz=>by cases z) ty1 kb ?_;cases hB:r.d7 with
         | true =>
           rw[hB] at q;symm;refine aX UC (fn _ (by nofun)) ((i6 T).mono (by decide)) ?_;symm;refine⟨m,dx,pk,fs,1,cs,rfl,UC,f4,hk1,by decide,by omega,λH2 UD UE=>?_⟩;have T_:H2 m=some (.ins a.ax dx fs):=by rw[UE m x1.symm];exact UC
           have UW:H2 t=some (.tup [.int n,.ref b',.ref p']):=by rw[UE t (ag hk nt).symm];exact ht
           have kp2:aP m pk H H2:=λb o e n1 n2=>by rw[UE b n2];exact s1 b o e
           symm;refine aX T_ (fn _ (by nofun)) ((eG T).mono (by decide)) ?_;symm;refine⟨m,dx,pc,pt,ph,pl,pk,b',p',fs,_,_,n,_,_,rfl,T_,M.f,λU_ F'=>?_⟩;symm;refine q _ (aP.ny kp2) ⟨dx,pc,b',p',U_,prs,cs.take (cs.length - 1),?_⟩;refine M.xg (calls':=S.calls.take (S.calls.length - 1)) kp2 T_ (by rw[UE b' y1.symm];exact hb) (by rw[UE p' y2.symm];exact hp) UD ?_ y1 y2 F';rw[M.calls.1];exact(M.clsAt kp2).take _
         | false =>
           rw[hB] at q;symm;refine aX UC (fn _ (by nofun)) ((eG T).mono (by decide)) ?_;symm;refine⟨m,dx,pc,pt,ph,pl,pk,b',p',fs,_,_,n,_,_,rfl,UC,M.f,λU_ F'=>?_⟩;symm;refine q _ (aP.ny (aP.of_same s1)) ⟨dx,pc,b',p',U_,prs,cs,?_⟩;exact M.xg (calls':=S.calls) (aP.of_same s1) UC hb hp hk1 (M.clsAt (aP.of_same s1)) y1 y2 F'
theorem QJ {bs:List Int}(h:bs.length=8):cV bs (some 1) (some 4)=[gI bs 1,gI bs 2,gI bs 3]:=by
 match bs,h with | [x0,x1,x2,x3,x4,x5,x6,x7],_=>rfl
theorem Gf {H8 HX:Hp}{R:Hp->Prop}{b:Addr}(h:ao H8 HX)(hb:HX b=some (.lst xs))(k:∀ H9,ao H8 H9->H9 b=some (.lst xs)->R H9):R HX:=k HX h hb
theorem uU (T:TX):ME 3 a.ax "land" (O_ K a):=by
 refine aB 2 T.cu T.wj gi ?_ ?_;ac_nf
 . obtain⟨m, pk, pt, t, v, n, k, c, S, es, kvs, rfl, MM, O, ⟨ev, TI, EV⟩, U7, V3, Uc, hval, q⟩ := h;obtain⟨dx,pc,ph,pl,fs,prs,cs,M⟩:=id MM;have ptm:=TI.ne M.hm M.f.code;obtain⟨dt,l,d,ht,hl,hd,WR⟩:=TI;unfold fQ at ht;obtain⟨t',q',et,Vf,hq2⟩:=U7;cases et
   have f1:=M.f.av;have f2:=M.f.held;have f3:=M.f.cells;have f4:=M.f.calls;have f5:=M.f.aS;have f6:=M.f.table;have fl:=M.f.len;have fn:=M.f.no;have hm:=M.hm;have hh:=M.hh;have Tf:=M.hl;have hk:=M.hk;have h8:=O.h8;have hcs:cs.length<=50000:=by rw[M.calls.1];exact Uc
   have x1:=M.QO;have x2:=M.QX;have x3:=M.QV;have x4:=M.n2;have x5:=M.n3;unfold MS.landed at q;walk_at"h";have nd:=gi.nd;refine' aV ?_ ?_;exact(c8 (i:=4) gi.nd rfl (Or.inl rfl) (wW (jf hr) (cD (K:=K) rfl (cD (K:=K) rfl (pv 0))) (cT l7 (cC (di (K:=K) rfl) (pv 2) aW (λ_ _=>rfl)) aW) (λ_ _=>rfl)));walk_at"c";walk_at"c";walk_at"c";walk_at"m";walk_at"tS";walk_at"s";symm;refine As ?_;symm;have dg:=gH.k (k:=.inl (c.r - 1)) hd;rw[hval] at dg;refine⟨d,_,rfl,dg,?_⟩;symm;refine aX hm (fn _ (by nofun)) ((cQ T).mono (by decide)) ?_;symm;refine⟨m,dx,fs,_,n,rfl,hm,f5,?_⟩;by_cases hw:V.str (aK S.rows.length n)=V.str "fault"
   . have hw' : aK S.rows.length n = "fault" := by injection hw
     rw[if_pos hw'] at q;symm;exact q _ (aP.ny aP.refl) (M.qP (ao.refl _) _)
   . have hw' : ¬ aK S.rows.length n = "fault" := λz => hw (by rw [z]);rw [if_neg hw'] at q;symm;refine aX hm (fn _ (by nofun)) ((i6 T).mono (by decide)) ?_;symm;refine ⟨m,dx,pk,fs,(k:Int),cs,rfl,hm,f4,hk,by lia,by lia,λH2 UD UE=>?_⟩;have T_:H2 m=some (.ins a.ax dx fs):=by rw [UE m x1.symm];exact hm
     have Wc:H2 ph=some (.lst (S.held.map V.int)):=by rw[UE ph x4.symm];exact hh
     have UJ:H2 pl=some (.lst (S.cells.map V.int)):=by rw[UE pl x5.symm];exact Tf
     have hq12:H2 t=some (.tup [.int c.r,.ref q',.int c.n]):=by rw[UE t (λz=>by rw[z,hk] at Vf;cases Vf)];exact Vf
     have hq22:H2 q'=some (.tup [.int c.a,.int c.b,.int c.c]):=by rw[UE q' (λz=>by rw[z,hk] at hq2;cases hq2)];exact hq2
     have kp2:aP m pk H H2:=λb o e n1 n2=>by rw[UE b n2];exact e
     symm;rw[QJ h8];symm;rename_i e1 z1 e2 z2 e3 z3 e4 z4 e5 z5 e6 z6 bx zb;rw[aaD] at UD;have nb:H2 bx=none:=by have h:=zb;(repeat replace h:=f9 h);exact h
     have y1:pk≠bx:=ag UD nb;refine Gf (H8:=H2) (b:=bx) (R:=λHx=>DC _ _ _ _ _ _ _ _ _ _ _ _ Hx _) (by walk_at"same") aa (λH9 s9 hbx=>?_);clear z1 z2 z3 z4 z5 z6 zb;have hm9:=s9 _ _ T_;have hk9:=s9 _ _ UD;have hl9:=s9 _ _ UJ;have hq9:=s9 _ _ hq12;refine aX hm9 (fn _ (by nofun)) ((eG T).mono (by decide)) ?_;symm;rename_i px zx;rw[fT _ V3];refine⟨m,dx,pc,pt,ph,pl,pk,bx,px,fs,_,_,n,_,_,rfl,by bv_omega,M.f,λU_ F'=>?_⟩;symm;have y2:pk≠px:=ag hk9 zx;have kp9:aP m pk H (upd H9 px (.lst ((S.cells.take c.n.toNat).map V.int))):=kp2.trans (aP.of_same (s9.trans (ae zx)));refine q _ (aP.ny kp9) ⟨dx,pc,bx,px,U_,prs,cs.take (cs.length - k),?_⟩;refine M.xg (bs:=[v,gI S.held 1,gI S.held 2,gI S.held 3,c.a,c.b,c.c,gI S.held 7]) (pp:=S.cells.take c.n.toNat) (calls':=S.calls.take (S.calls.length - k)) kp9 (ai hm9 zx) (ai hbx zx) aa (ai hk9 zx) ?_ y1 y2 F';rw[M.calls.1];exact(M.clsAt kp9).take _
theorem B0 (T:TX):FE 3 "_law_code" (Fp K 450):=by
 refine ba 2 T.Ca se ?_ ?_;ac_nf
 . obtain ⟨a0, ns, rfl, hS, U9, q⟩ := h;walk_at "h";have nd:=se.nd;refine' aV ?_ ?_;walk_at "tS";walk_at "c";walk_at "c";walk_at "c";walk_at "n";walk_at "g";walk_at "tI";walk_at "tG";walk_at "c";walk_at "c";walk_at "n";walk_at "g";walk_at "tI";walk_at "tG";walk_at "c";walk_at "m";walk_at "f";walk_at "tT";walk_at "m";exact (wY (jf hr) (pv 4) (cT (dW (K:=K) rfl) (cJ (ez (K:=K) rfl) rfl T.ja i_ (aj (pv 2) aD)) (pv 8)) (cC (di (K:=K) rfl) (lW (aj aW (aj (cT (dW (K:=K) rfl) (cT (dW (K:=K) rfl) (cJ (ez (K:=K) rfl) rfl T.ja i_ (aj (pv 2) aD)) (pv 8)) aW) (aj (pv 7) (aj (pv 7) aD))))) (pv 9) (λ_ _=>rfl)) rfl);exact cL;exact λ_=>rfl;walk_at "m";walk_at "tS";exact λ_=>rfl;walk_at "c";walk_at "c";walk_at "m";walk_at "tS";walk_at "s";have hm0 : 1<=1+cellAt ns 0%3/\1+cellAt ns 0%3<=3:=⟨by lia,by lia⟩
   symm;generalize 1+cellAt ns 0%3=m at hm0 ⊢;rename_i lr0 Wh ls VF d nd;refine fY (λi Z HD=>∃ (lr:Addr) (us:List V) (ts:List Int) (lns:List (Int×Int)) (v5 v6 v7 v8 v9:Option V),Z = [some (V.ref a0),some (V.int m),some (V.ref lr),some (V.ref ls),some (V.ref d),v5,v6,v7,v8,v9,none,none]/\ao H HD/\lr≠ls/\HD lr=some (.lst us)/\HD ls=some (.lst (ts.map V.int))/\HD d=some (.dK (aw lns))/\dN lns/\lns.length<=21*i/\us.length<=21*i/\i<=us.length/\ts.length=i/\(∀ t∈ts,0<=t/\t<=63)/\aN fH HD us) ⟨lr0,[],[],[],_,_,_,_,_,rfl,((ae Wh).trans (ae VF)).trans (ae nd),(λz=>by rw[<- z,aa] at VF;cases VF),ai (ai aa VF) nd,ai aa nd,aa,⟨adx,by decide,λp hp=>by cases hp⟩,aag _,aag _,aag _,rfl,λ_ z=>(by cases z),aN.nil⟩ ?_ ?_
   . rintro i Z HD hi ⟨lr,us,ts,lns,v5,v6,v7,v8,v9,rfl,sD,T9,VO,Tf,hd,WS,hln,Vx,hui,htl,htb,Tu⟩;symm;have nls0:H ls=none:=aG (ae Wh) VF;have sE:ao H (upd HD ls (.lst (abX V.int ts++[V.int us.length]))):=bA sD nls0;have hlrE:(upd HD ls (.lst (abX V.int ts++[V.int us.length]))) lr=some (.lst us):=by rw [ak T9];exact VO
     have hlsE:(upd HD ls (.lst (abX V.int ts++[V.int us.length]))) ls=some (.lst ((ts++[(us.length:Int)]).map V.int)):=by rw[aa,aaE];rfl
     have hdE:(upd HD ls (.lst (abX V.int ts++[V.int us.length]))) d=some (.dK (aw lns)):=by rw[ak (λz=>by rw[z,Tf] at hd;cases hd)];exact hd
     have tdE:=Tu.off (o:=.lst (abX V.int ts++[V.int us.length])) Tf;generalize upd HD ls (HO.lst (abX V.int ts++[V.int us.length]))=HE at sE hlrE hlsE hdE tdE ⊢;have hSE:=aO sE hS;clear sD VO Tf hd Tu;have Uc:(cV ns (some (13+6*(0+(i:Int)))) (some (18+6*(0+(i:Int))))).length<=5:=by
       rw[show 18+6*(0+(i:Int))=13+6*(0+(i:Int))+5 from by lia];exact A7 ns (by lia) (by decide)
     symm;rename_i lx WL;refine⟨lx,_,_,_,rfl,ar.of aa,by lia,by lia,by lia,λtq lq uq e HG sG htq hlq Vf hq2 tdq e0 e1=>?_⟩;have sX:=(ae WL (o:=.lst ((cV ns (some (13+6*(0+(i:Int)))) (some (18+6*(0+(i:Int))))).map V.int))).trans sG;have hlrG:=sX _ _ hlrE;have hlsG:=sX _ _ hlsE;have hdG:=sX _ _ hdE;have tdG:=tdE.same sX;have hSG:=aO sX hSE;have sH:=sE.trans sX;have huq:uq.length<=21:=by lia
     have he : 0<=e/\e<=1000:=⟨e0,e1⟩
     clear sX sG sE hlrE hlsE hdE tdE hSE WL hq2 Uc e0 e1;symm;have nd0:H d=none:=aG ((ae Wh).trans (ae VF)) nd;refine fY (λj Z HI=>∃ (Vm:List (Int×Int)) (v8 v9:Option V),Z = [some (V.ref a0),some (V.int m),some (V.ref lr),some (V.ref ls),some (V.ref d),some (V.int (0+(i:Int))),some (V.ref lq),some (V.int e),v8,v9,none,none]/\ao H HI/\HI lr=some (.lst us)/\HI ls=some (.lst ((ts++[(us.length:Int)]).map V.int))/\HI lq=some (.lst uq)/\HI d=some (.dK (aw Vm))/\dN Vm/\Vm.length<=21*i+j/\aN fH HI us/\aN fH HI uq) ⟨lns,_,_,rfl,sH,hlrG,hlsG,hlq,hdG,WS,hln,tdG,tdq⟩ ?_ ?_
     . clear sH hlrG hlsG hlq hdG WS hln tdG tdq htq hSG;rintro j Z HI hj ⟨ln2,v8,v9,rfl,sI,hlrI,hlsI,hlqI,hdI,hlgI,hlnI,tdI,tqI⟩;have hSI:=aO sI hS;have cd:D7 (cellAt ns (30+(0+(i:Int)))) (1+5*(0+(j:Int))):=⟨by lia,by lia⟩
       symm;refine⟨_,_,rfl,rfl,cd,?_⟩;symm;refine qE hlqI tqI (by lia) (by lia) λu r ⟨p,hup,hp⟩ ho=>?_;subst hup;symm;refine vo (aI.of hp) (v:=.str r.eU.1) (show cZ (V.str r.eU.1::r.eU.2.map V.int) ((0:Nat):Int)=_ from bF rfl) ?_;symm;have hw : 0<=cellAt ns (30+(0+(i:Int)))/(1+5*(0+(j:Int)))%4/\cellAt ns (30+(0+(i:Int)))/(1+5*(0+(j:Int)))%4<4:=⟨by lia,by lia⟩
       generalize cellAt ns (30+(0+(i:Int)))/(1+5*(0+(j:Int)))%4=way at hw ⊢;have same:∃ (Vm:List (Int×Int)) (v8 v9:Option V),[some (V.ref a0),some (V.int m),some (V.ref lr),some (V.ref ls),some (V.ref d),some (V.int (0+(i:Int))),some (V.ref lq),some (V.int e),some (V.int (0+(j:Int))),some (V.int way),none,none]=[some (V.ref a0),some (V.int m),some (V.ref lr),some (V.ref ls),some (V.ref d),some (V.int (0+(i:Int))),some (V.ref lq),some (V.int e),v8,v9,none,none]/\ao H HI/\HI lr=some (.lst us)/\HI ls=some (.lst ((ts++[(us.length:Int)]).map V.int))/\HI lq=some (.lst uq)/\HI d=some (.dK (aw Vm))/\dN Vm/\Vm.length<=21*i+(j+1)/\aN fH HI us/\aN fH HI uq:=⟨ln2,_,_,rfl,sI,hlrI,hlsI,hlqI,hdI,hlgI,by lia,tdI,tqI⟩
       refine cR (λhc=>?_) (λhc=>?_)
       . symm;refine cR (λhw1=>?_) (λhw1=>?_)
         . obtain⟨tv, htv, hatv⟩ := eF (ns := [0, (us.length : Int) + (0 + (j : Int)) + 1, e, e]) (i := way) hw.1 hw.2;have hatv:cZ [V.int 0,V.int ((us.length:Int)+(0+(j:Int))+1),V.int e,V.int e] way=some (V.int tv):=hatv;have htv2 : -10000<=tv/\tv<=10000:=by
             clear same;simp only[aaP,aaR,or_false] at htv
             lia
           clear same;symm;rename_i l9 n9;obtain⟨V9,e',L',n'⟩:=LJ (c:=(us.length:Int)+(0+(j:Int))) (r:=tv) hlgI (by lia) htv2.1 htv2.2;have hd9:(upd HI l9 (.lst [V.int 0,V.int ((us.length:Int)+(0+(j:Int))+1),V.int e,V.int e])) d=some (.dK (aw ln2)):=ai hdI n9;refine ji hd9 (by unfold aw;rw[aac,aaI];lia) ?_;rw[e'];exact⟨V9,_,_,rfl,bA (sI.trans (ae n9)) nd0,ql (ai hlrI n9) hd9,ql (ai hlsI n9) hd9,ql (ai hlqI n9) hd9,aa,L',by lia,(tdI.same (ae n9)).OO hd9,(tqI.same (ae n9)).OO hd9⟩
         . symm;exact same
       . symm;exact same
     . clear sH hlrG hlsG hlq hdG WS hln tdG tdq htq hSG;rintro Z HI ⟨ln2,v8,v9,rfl,sI,hlrI,hlsI,hlqI,hdI,hlgI,hlnI,tdI,tqI⟩;have hlnI:ln2.length<=21*i+uq.length:=hlnI;symm;rename_i l9 n9
       exact⟨l9, us ++ uq, ts ++ [(us.length : Int)], ln2, _, _, _, _, _, rfl, sI.trans (ae n9), (λz => by rw[z, hlsI] at n9; cases n9), aa, ai hlsI n9, ai hdI n9, hlgI, by lia, by rw[aab]; lia, by rw[aab]; lia, by rw[aab, htl]; rfl, λt ht => by
         rcases List.mem_append.mp ht with z | z
         . exact htb t z
         . rw[List.mem_singleton.mp z];lia,(tdI.app tqI).same (ae n9)⟩
   . rintro Z HD ⟨lr,us,ts,lns,v5,v6,v7,v8,v9,rfl,sD,T9,VO,Tf,hd,WS,hln,Vx,hui,htl,htb,Tu⟩;have hi3:m.toNat<=3:=by lia
     symm;rename_i lf Vu;have nls0:H ls=none:=aG (ae Wh) VF;have sE:=sD.trans (ae Vu (o:=.lst []));refine eZ (K:=K) (a:=lr) (xs:=us) (λi Z HF=>∃ (uf:List V) (V5:Option V),Z = [some (V.ref a0),some (V.int m),some (V.ref lr),some (V.ref ls),some (V.ref d),v5,v6,v7,v8,v9,some (V.ref lf),V5]/\ao HD HF/\HF lf=some (.lst uf)/\uf.length=i/\aN iK HF uf) ⟨[],_,rfl,ae Vu,aa,rfl,aN.nil⟩ (λi Z HF _ ⟨_,_,_,s,_⟩=>ar.of (s _ _ VO)) ?_ ?_
     . rintro i x Z HF hx ⟨uf,V5,rfl,sF,Vg,WV,tdf⟩;obtain⟨r,⟨p,rfl,hp⟩,hr⟩:=Tu x (aak hx);have hi:=(List.getElem?_eq_some_iff.mp hx).1;have hpF:=sF _ _ hp;have hlsF:=sF _ _ Tf;clear sE sD VO Tf hd hp;by_cases hc:(∃ t,r=.call t)∨∃ t,r=.dr t
       . obtain⟨t0, ht0⟩ : ∃ t, r = .call t ∨ r = .dr t := by
           rcases hc with ⟨t,e⟩ | ⟨t,e⟩
           . exact⟨t,.inl e⟩
           . exact⟨t,.inr e⟩
         have UC : 0<m:=by lia
         have z0:=abi (-1 - t0) (show m≠0 by lia);have z1:=aba (-1 - t0) UC;obtain⟨tv,htv,hatv⟩:=eF (ns:=ts) (i:=(-1 - t0)%m) z0 (by lia);have htv2:=htb tv htv;rcases ht0 with rfl | rfl
         . have hpF : HF p = some (.tup [.str "call", V.int t0]) := hpF;symm;refine eI (ar.of aa) rfl rfl ?_;rw[show eV (V.str (aae "call")) [V.str (aae "call"),V.str (aae "jump")]=true from by nofun];symm;rename_i l9 n9 t9 nt9;have tZ:aN iK (upd (upd (upd HF l9 (.lst [.str "call",.str "jump"])) t9 (.tup [.str "call",V.int tv])) lf (.lst (uf++[V.ref t9]))) (uf++[V.ref t9]):=((tdf.same ((ae n9).trans (ae nt9))).app (aN.one (r:=.call tv) ⟨t9,rfl,aa⟩ (by walk_at"A"))).off (ai (ai Vg n9) nt9);exact⟨uf++[V.ref t9],_,rfl,bA (sF.trans ((ae n9).trans (ae nt9))) Vu,aa,by rw[aab,WV];rfl,tZ⟩
         . have hpF : HF p = some (.tup [.str "jump", V.int t0]) := hpF;symm;refine eI (ar.of aa) rfl rfl ?_;rw[show eV (V.str (aae "jump")) [V.str (aae "call"),V.str (aae "jump")]=true from by nofun];symm;rename_i l9 n9 t9 nt9;have tZ:aN iK (upd (upd (upd HF l9 (.lst [.str "call",.str "jump"])) t9 (.tup [.str "jump",V.int tv])) lf (.lst (uf++[V.ref t9]))) (uf++[V.ref t9]):=((tdf.same ((ae n9).trans (ae nt9))).app (aN.one (r:=.dr tv) ⟨t9,rfl,aa⟩ (by walk_at"A"))).off (ai (ai Vg n9) nt9);exact⟨uf++[V.ref t9],_,rfl,bA (sF.trans ((ae n9).trans (ae nt9))) Vu,aa,by rw[aab,WV];rfl,tZ⟩
       . have WU : eV (V.str r.eU.1) [V.str (aae "call"), V.str (aae "jump")] = false := by
           cases r <;> first | exact absurd (.inl ⟨_,rfl⟩) hc | exact absurd (.inr ⟨_,rfl⟩) hc | (simp only[Rw.eU];nofun)
         have hokr:iK r:=by
           rcases hr with z | z | z
           . exact z
           . exact absurd (.inl z) hc
           . exact absurd (.inr z) hc
         symm;refine vo (aI.of hpF) (v:=.str r.eU.1) (show cZ (V.str r.eU.1::r.eU.2.map V.int) ((0:Nat):Int)=_ from bF rfl) ?_;symm;refine eI (ar.of aa) rfl rfl ?_;rw[WU];symm;rename_i l9 n9;exact⟨uf++[V.ref p],_,rfl,bA (sF.trans (ae n9)) Vu,aa,by rw[aab,WV];rfl,((tdf.same (ae n9)).app (aN.one (r:=r) ⟨p,rfl,ai hpF n9⟩ hokr)).off (ai Vg n9)⟩
     . rintro Z HF ⟨uf,V5,rfl,sF,Vg,WV,tdf⟩;have hdF:=sF _ _ hd;symm;rename_i tt TK;exact q tt lf d uf lns _ ((sD.trans sF).trans (ae TK)) aa (aG sD Vu) (aG ((ae Wh).trans (ae VF)) nd) (λz=>by rw[z,hdF] at Vg;cases Vg) (ai Vg TK) (by lia) (by lia) (tdf.same (ae TK)) (ai hdF TK) WS
theorem gM (r:Rw):r.mW.lookup ("keeps" : Str)=none:=by
 cases r <;> (show abC _ (au _ _ _)=none;walk_at"nolk")
theorem fg (T:TX)(hr:r.here):ME 3 (r.cls a) "keeps" (dD a r):=by
 cases r
 . exact(zm T _ _).mono (by decide)
 . exact(yM T _ _).mono (by decide)
 . exact(Bu T _ _ _).mono (by decide)
 . exact hr.elim
 . exact hr.elim
 . exact hr.elim
 . exact(yJ T _).mono (by decide)
 . exact(uW T _).mono (by decide)
 . exact(zQ T _ _).mono (by decide)
 . exact(z_ T _ _).mono (by decide)
 . exact(yt T _).mono (by decide)
 . exact(uF T _ _).mono (by decide)
 . exact(yE T _).mono (by decide)
 . exact(yL T _).mono (by decide)
 . exact(yx T _).mono (by decide)
theorem vw (T:TX):iE P w K mg base (eu P w) 4 "callers" (K_ K a):=by
 refine GY 3 T.EE mT ?_ ?_;ac_nf
 . obtain⟨x, dx, l, d, pk, pp, fJ, ev, es, kn0, pl0, rfl, hx, hl, Tr, hk, hkn0, S9, hpo0, hn0, q, hE⟩ := h;have hel:=Tr.1;walk_at"h";have nd:=mT.nd;refine' aV ?_ ?_;walk_at"x";walk_at"tS";walk_at"n";walk_at"x";walk_at"tS";walk_at"n";walk_at"x";walk_at"tS";walk_at"n";walk_at"x";walk_at"tS";walk_at"n";walk_at"x";walk_at"tS";walk_at"n"
   (with_reducible refine' jB ?_ ?_ ?_)
   exact adA;walk_at"y";walk_at"tT";walk_at"n";walk_at"f";walk_at"y";walk_at"tT";walk_at"m";exact(kD (gR T) (hr.mono (by decide)) rfl (aj (pv 6) aD));exact cL;walk_at"n";exact(c8 (i:=9) mT.nd rfl (Or.inl rfl) (bj (sP T) (hr.mono (by decide)) IF rfl (aj (cD (K:=K) rfl (pv 0)) (aj (pv 6) (aj (pv 7) (aj (pv 8) aD))))));walk_at"n";walk_at"x";walk_at"tS";walk_at"n";walk_at"x";walk_at"tS";walk_at"n";walk_at"x";walk_at"tS";walk_at"m";walk_at"x";walk_at"tS";walk_at"m";walk_at"x";walk_at"tS";walk_at"s";unfold fQ at hx;symm;rename_i pt hpt p1 Ub p2 U0;have n1:=bw Ub;have n2:=bw U0;have n3:=bw n2.1;generalize hW:bp es 5000 fJ kn0 pl0=W at q hE
   refine ⟨λm Z H'=>∃ (at':Int) (kn:List V) (pl:List Int) (vs:List V) (ds:List bK) (pk' Tx:Addr) (cv:Option V),ds.length+m=5000/\W=(ds++(bp es m at' kn pl).1,(bp es m at' kn pl).2)/\Z = [some (.ref x),some (.int fJ),some (.ref pk),some (.ref pp),some (.int ev.length),some (.ref pt),some (.int at'),some (.ref pk'),some (.ref Tx),cv]/\ao H H'/\H' pt=some (.lst vs)/\aZ H' vs ds /\
     H' pk'=some (.lst kn)/\tV kn/\H' Tx=some (.lst (pl.map V.int))/\fO pl/\near at'/\pt≠pk'/\pt≠Tx,⟨5000,fJ,kn0,pl0,[],[],p1,p2,none,rfl,hW.symm.trans (LQ _),rfl,by walk_at"same",by bv_omega,aan,by bv_omega,hkn0,by bv_omega,hpo0,hn0,n1.2.symm,n3.2.symm⟩,?_⟩
   clear hW;rintro m Z H' ⟨at',kn,pl,vs,ds,pk',Tx,cv,hf,hw,rfl,sH,hvs,Vh,hk',hkn,hl',hpo,Ti,ne1,ne2⟩;have S7:=Vh.len;by_cases hhome:at'=ev.length
   . rw[xE (by lia)] at hw;subst hhome;symm;rw[aaL] at hw;subst hw;exact q rfl _ _ _ sH hpt hvs Vh
   have T9:at'≠es.length:=by lia
   symm;refine⟨_,λZ' H' h=>h,?_⟩;by_cases hfull:m=0
   . symm;refine⟨fb (by have:=Ti.1;lia) (by have:=Ti.2;lia),λd hd=>?_⟩;exact hE at' (by rw[hw,xG T9 (.inl hfull)]) d _ (by walk_at"same") aa
   obtain⟨m,rfl⟩:∃ m',m=m'+1:=⟨m - 1,by lia⟩
   symm;refine⟨_,_,_,at',ev,es,kn,pl,rfl,by walk_at"sql",Tr.same (by walk_at"same"),by walk_at"sql",hkn,by walk_at"sql",hpo,Ti,λc v H2 Tj s2 U7=>?_,λTj d H2 s2 hd=>?_⟩
   . obtain ⟨t, qq, rfl, ht, hqq⟩ := id U7;obtain ⟨o1,o2,o3,o4⟩:=K7 hkn hpo Tj;have hvs2:=s2 _ _ hvs;have net:pt≠t:=λz=>by subst z;rw [hvs2] at ht;cases ht
     have neq:pt≠qq:=λz=>by subst z;rw[hvs2] at hqq;cases hqq
     have sH2:ao H H2:=sH.trans s2;have UD:=s2 _ _ hk';have UJ:=s2 _ _ hl';have hcv2:aZ H2 vs ds:=Vh.same s2;symm;rw[fT _ o3];refine⟨m,by lia,c.r,ib c,pl.take c.n.toNat,vs++[.ref t],ds++[c],_,_,_,by rw[aab,aaF];lia,Hl T9 Tj hw,rfl,by walk_at"same",by bv_omega,?_,by bv_omega,o2,by bv_omega,hpo.take _,o1,by walk_at"ne",by walk_at"ne"⟩;refine aZ.same (H:=upd H2 pt (.lst (vs++[.ref t]))) (by walk_at"same") (aZ.snoc ?_ ?_)
     . exact⟨t,qq,rfl,by rw[ak net.symm];exact ht,by rw[ak neq.symm];exact hqq⟩
     . exact aZ.upd hvs2 hcv2
   . exact hE at' (by rw[hw,xG T9 (.inr Tj)]) d H2 (sH.trans s2) hd
theorem jn (T:TX):FE 4 "way_complaint" (Ng K a):=by
 refine ba 3 T.t8 kg ?_ ?_;ac_nf
 . obtain ⟨x, p, l, c, r, e, ev, es, rfl, ⟨dx, hx⟩, ok, hh, he, nn, e0, e4, hs, hl, Tr, hnn, q⟩ := h;obtain ⟨qe,h1,h2⟩:=id he;unfold fE at q;walk_at "h";have nd:=kg.nd;refine' aV ?_ ?_;walk_at "tS";walk_at "c";walk_at "c";walk_at "c";walk_at "n";walk_at "g";exact (Pn (K:=K) rfl rfl T.y_ (aj (f_ (v:=.ref a.iA) rfl T.rQ rfl) (aj (bj (gC T) (hr.mono (by decide)) b_ rfl (aj (pv 1) aD)) (aj (bj (gC T) (hr.mono (by decide)) b_ rfl (aj (pv 4) aD)) aD))));walk_at "tG";walk_at "tB";exact λ_=>rfl;walk_at "m";walk_at "tS";walk_at "s";symm;refine ⟨c,l,ev,rfl,ar.of hl,?_⟩;rw [Tr.1];by_cases hc : 0<=c/\c<(es.length:Int)
   . rw[decide_eq_true hc];rw[if_pos hc] at q;obtain⟨v,oe,T3,Ug,hmem,hv⟩:=Tr.at hc.1 hc.2;rw[Ug,Option.join_some] at q;symm;cases oe with
     | none =>
       cases hv
       symm;exact q _ (ao.refl _)
     | some t =>
       obtain⟨pt,rfl,qt,t1,t2⟩:=id hv;have tn:=hnn t hmem;symm;refine aX hx (lg _) ((iP T hh).mono (by decide)) ?_;symm;refine⟨x,e.h,rfl,⟨dx,hx⟩,?_⟩;obtain⟨z,hg⟩:=Option.isSome_iff_exists.mp hs;have q:∀ H',ao H H'->Q (oV (if r.aE e.h=some t.h then nh r e t else some .aE)) H':=q;rw[hg] at q ⊢;show gG K (V.int t.h) (V.int z) _ _;symm;refine gP (λhz=>?_) (λhz=>?_)
       . rw[if_neg (λy=>hz (aax y).symm)] at q;symm;exact q _ (ao.refl _)
       rw[if_pos (by rw[hz])] at q;symm;refine⟨p,e,rfl,he,λta nta=>?_⟩;symm;refine⟨pt,t,rfl,iy.same ⟨qt,t1,t2⟩ (ae nta),λtb ntb=>?_⟩;symm;have sX:ao H (upd (upd H ta (.tup (e.dI.map V.int))) tb (.tup (t.dI.map V.int))):=(ae nta).trans (ae ntb);have ha:aI K (upd (upd H ta (.tup (e.dI.map V.int))) tb (.tup (t.dI.map V.int))) ta (e.dI.map V.int):=aI.of (ai aa ntb);have hb:aI K (upd (upd H ta (.tup (e.dI.map V.int))) tb (.tup (t.dI.map V.int))) tb (t.dI.map V.int):=aI.of aa;clear nta ntb;generalize (upd (upd H ta (.tup (e.dI.map V.int))) tb (.tup (t.dI.map V.int)))=HX at sX ha hb ⊢;refine⟨a.iA,ta,tb,_,_,_,rfl,T.lD _,ha,hb,?_⟩;unfold nh at q;refine Hv (xs:=[.str "back",.int 4,.int 5,.int 6]) (ys:=e.dI.map V.int) (zs:=t.dI.map V.int) rfl rfl (λi Z H2=>(∃ u1 u2 u3,Z = [some (.ref x),some (.ref p),some (.int c),some (.ref l),some (.ref pt),u1,u2,u3])/\ao HX H2/\(0<i->Bt.wo t.b.toNat (r.keep e.b.toNat e.h)=0)/\(1<i->Bt.wo t.v4.toNat (r.keep e.v4.toNat e.h)=0)/\(2<i->Bt.wo t.v5.toNat (r.keep e.v5.toNat e.h)=0)/\(3<i->Bt.wo t.v6.toNat (r.keep e.v6.toNat e.h)=0)) ⟨⟨_,_,_,rfl⟩,ao.refl _,(λz=>absurd z (by decide)),(λz=>absurd z (by decide)),(λz=>absurd z (by decide)),(λz=>absurd z (by decide))⟩ (λi Z H2 _ ⟨_,s2,_⟩=>⟨T.lD _,ck s2 ha,ck s2 hb⟩) ?_ ?_
       . rintro i v1 v2 v3 T' Z H2 w1 w2 w3 ⟨⟨u1,u2,u3,rfl⟩,s2,z0,z1,z2,z3⟩ nT;have Vd:=(sX.trans s2) _ _ hx;have h12:=ck (sX.trans s2) h1;have s0:=sX.trans s2;clear sX ha hb t1 t2 h1 h2 hl Tr hv he
         match i,w1,w2,w3 with
         | 0,w1,w2,w3 =>
           cases w1;cases w2;cases w3
           have eb:aaJ t.b (aav ((r.keep e.b.toNat e.h:Nat):Int))=((Bt.wo t.b.toNat (r.keep e.b.toNat e.h):Nat):Int):=by rw[<- fV,aa1 tn.1]
           symm;refine aX (ai Vd nT) (gM _) ((fg T hh).mono (by decide)) ?_;symm;refine⟨x,e.b.toNat,e.h,by rw[aa1 nn.1],⟨dx,ai Vd nT⟩,ok,e0,e4,hs,?_⟩;symm;rw[eb];by_cases hw:Bt.wo t.b.toNat (r.keep e.b.toNat e.h)=0
           . rw[hw, show(((0 : Nat) : Int) != 0) = false from rfl];symm;exact⟨⟨_,_,_,rfl⟩,s2.trans (ae nT),(λ_=>rfl),(λz=>absurd z (by decide)),(λz=>absurd z (by decide)),(λz=>absurd z (by decide))⟩
           . rw[show((((Bt.wo t.b.toNat (r.keep e.b.toNat e.h) : Nat) : Int)) != 0) = true from by simp[hw]];symm;rw[if_pos hw] at q;exact q _ (s0.trans (ae nT))
         | 1,w1,w2,w3 =>
           cases w1;cases w2;cases w3
           have eb:aaJ t.v4 (aav ((r.keep e.v4.toNat e.h:Nat):Int))=((Bt.wo t.v4.toNat (r.keep e.v4.toNat e.h):Nat):Int):=by rw[<- fV,aa1 tn.2.1]
           symm;refine aX (ai Vd nT) (gM _) ((fg T hh).mono (by decide)) ?_;symm;refine⟨x,e.v4.toNat,e.h,by rw[aa1 nn.2.1],⟨dx,ai Vd nT⟩,ok,e0,e4,hs,?_⟩;symm;rw[eb];by_cases hw:Bt.wo t.v4.toNat (r.keep e.v4.toNat e.h)=0
           . rw[hw, show(((0 : Nat) : Int) != 0) = false from rfl];symm;exact⟨⟨_,_,_,rfl⟩,s2.trans (ae nT),(λ_=>z0 (by decide)),(λ_=>rfl),(λz=>absurd z (by decide)),(λz=>absurd z (by decide))⟩
           . rw[show((((Bt.wo t.v4.toNat (r.keep e.v4.toNat e.h) : Nat) : Int)) != 0) = true from by simp[hw]];symm;rw[if_neg (λz=>z (z0 (by decide))),if_pos hw] at q;exact q _ (s0.trans (ae nT))
         | 2,w1,w2,w3 =>
           cases w1;cases w2;cases w3
           have eb:aaJ t.v5 (aav ((r.keep e.v5.toNat e.h:Nat):Int))=((Bt.wo t.v5.toNat (r.keep e.v5.toNat e.h):Nat):Int):=by rw[<- fV,aa1 tn.2.2.1]
           symm;refine aX (ai Vd nT) (gM _) ((fg T hh).mono (by decide)) ?_;symm;refine⟨x,e.v5.toNat,e.h,by rw[aa1 nn.2.2.1],⟨dx,ai Vd nT⟩,ok,e0,e4,hs,?_⟩;symm;rw[eb];by_cases hw:Bt.wo t.v5.toNat (r.keep e.v5.toNat e.h)=0
           . rw[hw, show(((0 : Nat) : Int) != 0) = false from rfl];symm;exact⟨⟨_,_,_,rfl⟩,s2.trans (ae nT),(λ_=>z0 (by decide)),(λ_=>z1 (by decide)),(λ_=>rfl),(λz=>absurd z (by decide))⟩
           . rw[show((((Bt.wo t.v5.toNat (r.keep e.v5.toNat e.h) : Nat) : Int)) != 0) = true from by simp[hw]];symm;rw[if_neg (λz=>z (z0 (by decide))),if_neg (λz=>z (z1 (by decide))),if_pos hw] at q;exact q _ (s0.trans (ae nT))
         | 3,w1,w2,w3 =>
           cases w1;cases w2;cases w3
           have eb:aaJ t.v6 (aav ((r.keep e.v6.toNat e.h:Nat):Int))=((Bt.wo t.v6.toNat (r.keep e.v6.toNat e.h):Nat):Int):=by rw[<- fV,aa1 tn.2.2.2]
           symm;refine aX (ai Vd nT) (gM _) ((fg T hh).mono (by decide)) ?_;symm;refine⟨x,e.v6.toNat,e.h,by rw[aa1 nn.2.2.2],⟨dx,ai Vd nT⟩,ok,e0,e4,hs,?_⟩;symm;rw[eb];by_cases hw:Bt.wo t.v6.toNat (r.keep e.v6.toNat e.h)=0
           . rw[hw, show(((0 : Nat) : Int) != 0) = false from rfl];symm;exact⟨⟨_,_,_,rfl⟩,s2.trans (ae nT),(λ_=>z0 (by decide)),(λ_=>z1 (by decide)),(λ_=>z2 (by decide)),(λ_=>rfl)⟩
           . rw[show((((Bt.wo t.v6.toNat (r.keep e.v6.toNat e.h) : Nat) : Int)) != 0) = true from by simp[hw]];symm;rw[if_neg (λz=>z (z0 (by decide))),if_neg (λz=>z (z1 (by decide))),if_neg (λz=>z (z2 (by decide))),if_pos hw] at q;exact q _ (s0.trans (ae nT))
         | i+4,w1,w2,w3=>simp at w1
       . rintro Z H2 ⟨⟨u1,u2,u3,rfl⟩,s2,z0,z1,z2,z3⟩;have z0:=z0 (by decide);have z1:=z1 (by decide);have z2:=z2 (by decide);have z3:=z3 (by decide);rw[if_neg (λz=>z z0),if_neg (λz=>z z1),if_neg (λz=>z z2),if_neg (λz=>z z3)] at q;symm;exact q _ (sX.trans s2)
   . rw[decide_eq_false hc];rw[if_neg hc] at q;symm;exact q _ (ao.refl _)
theorem zA (T:TX):FE 4 "places_of" (P2 K a):=by
 refine ba 3 T.Bd gF ?_ ?_;ac_nf
 . obtain ⟨c, ly, lh, prs, rs, ls, hs, first, rfl, hc, Tq, aA, h0, To, Tf, hwy, hlh, HO', hf, q⟩ := h;have S9:=Tq.1;have hhl:=HO'.len;walk_at "h";have nd:=gF.nd;refine' aV ?_ ?_;exact (fu (i:=4) gF.nd rfl rfl (own:=["row"]) (fr:=[]) rfl ⟨rfl,(by walk_at "clok"),(by walk_at "frok"),rfl,(by nofun),(by nofun),rfl⟩ (dP (K:=K) rfl (pv 0)) (λ_ _ _ _=>(bT (i:=0) (show aa6 [("row" : Str)] from by nofun) rfl (Or.inl rfl))) (λ_ _ _ _=>c9) (λ_ _ _ _=>jT));walk_at "c";walk_at "c";walk_at "n"
   (with_reducible refine' jB ?_ ?_ ?_)
   exact acy;exact(dO JG (cJ Gp rfl T.ja i_ (aj (pv 5) aD)) aW (d9 _));walk_at"n";exact(c8 (i:=6) gF.nd rfl (Or.inl rfl) (pG (DS rfl) rfl T.zZ Bc (aj (pv 5) aD)));walk_at"c";walk_at"m";walk_at"tS";walk_at"m";walk_at"tS";walk_at"s";ac_rfl;refine fW (K:=K) (a:=c) (xs:=prs.map V.ref) (λi ys Z H1=>(∃ v,Z = [v])/\ao H H1/\ys=(aau i (none:Option Nat)).map cA) ⟨⟨_,rfl⟩,ao.refl _,rfl⟩ (λi ys Z H1 hi ⟨_,s1,e⟩=>⟨ar.of (s1 _ _ hc),by rw[e,aac,aaC,aaI];rw[aac] at hi;lia⟩) ?_ ?_
   . rintro i v ys Z H1 hv ⟨⟨u,rfl⟩,s1,rfl⟩;ac_rfl;exact⟨⟨_,rfl⟩,s1,by rw[List.replicate_succ',aaE];rfl⟩
   rintro ys Z H1 ⟨_,s1,rfl⟩ lx WL;rw[aac,S9];have nlxH:H lx=none:=aG s1 WL
   have TJ : ∀ {ss : List (Option Nat)} {ks : List Nat} {HD : Hp} {dc : Addr} {n p : Nat} {Ue : Nat -> Prop} {R : Hp -> Prop}, PI rs ls hs first ss Ue -> ao H HD -> HD lx = some (.lst (ss.map cA)) -> HD dc = some (.dK (bO ks)) -> ks.Nodup -> H dc = none -> (∀ k ∈ ks, ∃ s, ss[k]? = some (some s)) -> (∃ h, hs[n]? = some (some h)) -> p < 2 ^ 4100 -> (∀ g, Cons rs ls hs first g -> Sub (g n) p) ->
       (∀ Tz T2 HE,PI rs ls hs first Tz (λi=>Ue i∨i∈T2)->fB ss Tz->(∀ (i s:Nat),ss[i]? = some (some s)->Tz[i]? = some (some s)∨i∈T2)->ao H HE->(∀ b o,HD b=some o->b≠lx->b≠dc->HE b=some o)->HE lx=some (.lst (Tz.map cA))->HE dc=some (.dK (bO T2))->T2.Nodup->(∀ k∈ks,k∈T2)->(∀ k∈T2,∃ s,Tz[k]? = some (some s))->(∃ s,Tz[n]? = some (some s)/\Sub s p)->bZ Tz<=bZ ss->(T2=ks∨bZ Tz<bZ ss)->R HE) ->
       zE [.ref lx,.ref dc,.int (n:Int),.int (p:Int)] HD (λ_ HE=>R HE) E0:=by
     intro ss ks HD dc n p Ue R I s2 hx hd UI ndc hkk hh hp hg qq;have hn:n<ss.length:=by
       obtain⟨h,e⟩:=hh;rw[I.len,<- hhl];exact(List.getElem?_eq_some_iff.mp e).1
     have ho:ss[n]? = some ss[n]:=aaa hn;have hkl:ks.length<=2000:=by
       have h1:=vJ rs.length ks UI λk hk=>by
         obtain⟨s,e⟩:=hkk k hk;rw[<- I.len];exact(List.getElem?_eq_some_iff.mp e).1
       lia
     refine⟨lx,dc,n,p,ss,ks,ss[n],rfl,hx,hd,by rw[I.len];exact To,hkl,UI,ho,λe=>?_,λe=>?_⟩
     . refine qq ss ks HD (I.weak λi k => .inl k) (fB.refl _) (λi s e => .inl e) s2 (λb o e _ _ => e) hx hd UI (λk hk => hk) hkk ⟨jb ss[n] p, by rw[ho, <- e], ?_⟩ (aag _) (.inl rfl);cases ss[n] with
       | none=>exact Sub.refl p
       | some s=>exact Sub.right s p
     . have WK : lx ≠ dc := λz => by rw [z, hd] at hx; cases hx
       refine qq _ (kj ks n) _ ((I.narrow ho hh hp hg).weak λi k=>?_) (zY ho) (λi s e1=>?_) (λb o e1=>?_) (λb o e1 n1 n2=>by rw[ak n2,ak n1];exact e1) (by rw[ak WK];exact aa) aa (L6 UI n) (λk hk=>by unfold kj;split;exact hk;exact aa5 _ hk) (λk hk=>?_) ⟨_,aaN hn,?_⟩ (adq (C8 ho e hp)) (.inr (C8 ho e hp))
       . rcases k with k | k
         . exact .inl k
         . refine .inr ?_;unfold kj;split
           . rename_i z;rw[k];exact z
           . rw[k];exact aay _ (List.mem_singleton.mpr rfl)
       . by_cases z:n=i
         . refine .inr ?_;unfold kj;split
           . rename_i z2;rw[<- z];exact z2
           . rw[<- z];exact aay _ (List.mem_singleton.mpr rfl)
         . exact .inl (by rw[aaO z];exact e1)
       . rw[ak (ag e1 ndc),ak (ag e1 nlxH)];exact s2 _ _ e1
       . by_cases z:n=k
         . rw[<- z];exact⟨_,aaN hn⟩
         . rw[aaO z];refine hkk k ?_;unfold kj at hk;split at hk
           . exact hk
           . rcases List.mem_append.mp hk with hk | hk
             . exact hk
             . exact absurd (List.mem_singleton.mp hk).symm z
       . cases ss[n] with
         | none=>exact Sub.refl p
         | some s=>exact Sub.right s p
   ac_rfl;rename_i dc ndc;have Ux:∀ (i s:Nat),(aau rs.length (none:Option Nat))[i]? ≠ some (some s):=λi s e=>by rw[abI] at e;split at e <;> cases e
   have I0:PI rs ls hs first (aau rs.length (none:Option Nat)) (λ_=>False):=⟨aaC,λi s e=>absurd e (Ux i s),λi s e=>absurd e (Ux i s),λi _ s h r e=>absurd e (Ux i s),λg _ i s e=>absurd e (Ux i s)⟩
   refine TJ (ks:=[]) (n:=0) (p:=first) I0 (s1.trans ((ae WL).trans (ae ndc))) (ai aa ndc) aa adx (aG s1 (iq ndc).1) (λk hk=>by cases hk) ⟨0,HO'.start⟩ hf (λg cg=>cg.1) λTz T2 HE I2 _ _ s2 _ Vd UM nd2 _ hkk2 st2 _ _=>?_;have ndcH:H dc=none:=aG s1 (iq ndc).1;clear I0 s1 WL ndc Ux;ac_rfl;refine⟨λj Z HQ=>∃ (ss:List (Option Nat)) (ks:List Nat) (dc:Addr) (u6 u7 u8 u9:Option V),ao H HQ/\Z = [some (.ref c),some (.ref ly),some (.ref lh),some (.int (first:Int)),some (.ref lx),some (.ref dc),u6,u7,u8,u9]/\HQ lx=some (.lst (ss.map cA))/\HQ dc=some (.dK (bO ks))/\ks.Nodup/\H dc=none/\(∀ k∈ks,∃ s,ss[k]? = some (some s))/\PI rs ls hs first ss (λi=>i∈ks)/\(∃ s0,ss[0]? = some (some s0)/\Sub s0 first)/\j=2*bZ ss+(if ks=[] then 0 else 1),⟨_,Tz,T2,dc,_,_,_,_,s2,rfl,Vd,UM,nd2,ndcH,hkk2,I2.weak (λi k=>k.resolve_left (λz=>z)),st2,rfl⟩,?_⟩;clear s2 Vd UM nd2 hkk2 I2 st2;rintro j Z HQ ⟨ss,ks,dc,u6,u7,u8,u9,s2,rfl,hx,hd,UI,ndc',hkk,I,st,rfl⟩;ac_rfl;refine⟨dc,bO ks,rfl,hd,?_⟩;have hkl:=vJ rs.length ks UI λk hk=>by
     obtain⟨s,e⟩:=hkk k hk;rw[<- I.len];exact(List.getElem?_eq_some_iff.mp e).1
   have htl:(bO ks).length=ks.length:=by unfold bO;rw[aac]
   rw[htl];by_cases hz:ks=[]
   . subst hz;ac_rfl;exact q lx ss HQ s2 nlxH hx ⟨I.weak (λi k=>by cases k),st⟩
   . have U6 : 0 < ks.length := List.length_pos_iff.mpr hz;rw [if_neg hz];ac_rfl;refine ⟨_,λZ' H' h=>h,?_⟩;ac_rfl;refine Mf hd (Fm ks) λlw VE=>?_;ac_rfl;rename_i dn ndn;have Wf:H lw=none:=aG s2 VE;have ndnH:H dn=none:=aG s2 (iq ndn).1;have nwd:lw≠dn:=λz=>(iq ndn).2 z.symm;have nwx:lw≠lx:=λz=>by rw [z,hx] at VE;cases VE
     have ndx:dn≠lx:=λz=>by have:=(iq ndn).1;rw[z,hx] at this;cases this
     have s3:=s2.trans ((ae (o:=.lst ((ks.map λk:Nat=>(k:Int)).map V.int)) VE).trans (ae (o:=.dK []) ndn));have hx3:=ai (o:=.dK []) (ai (o:=.lst ((ks.map λk:Nat=>(k:Int)).map V.int)) hx VE) ndn;have hw3:=ai (o:=.dK []) (aa (H:=HQ) (a:=lw) (o:=.lst ((ks.map λk:Nat=>(k:Int)).map V.int))) ndn;have W3:(upd (upd HQ lw (.lst ((ks.map λk:Nat=>(k:Int)).map V.int))) dn (.dK [])) dn=some (.dK (bO [])):=aa;generalize (upd (upd HQ lw (.lst ((ks.map λk:Nat=>(k:Int)).map V.int))) dn (.dK []))=HF at s3 hx3 hw3 W3 ⊢;clear s2 hx hd ndn VE;refine eZ (K:=K) (a:=lw) (xs:=(ks.map λk:Nat=>(k:Int)).map V.int) (λi Z HD=>∃ (Tz:List (Option Nat)) (T2:List Nat) (u7 u8 u9:Option V),ao H HD/\HD lw=some (.lst ((ks.map λk:Nat=>(k:Int)).map V.int))/\Z = [some (.ref c),some (.ref ly),some (.ref lh),some (.int (first:Int)),some (.ref lx),some (.ref dn),some (.ref lw),u7,u8,u9]/\HD lx=some (.lst (Tz.map cA))/\HD dn=some (.dK (bO T2))/\T2.Nodup/\(∀ k∈T2,∃ s,Tz[k]? = some (some s))/\PI rs ls hs first Tz (λi'=>i'∈T2∨i'∈ks.drop i)/\fB ss Tz/\(∃ s0,Tz[0]? = some (some s0)/\Sub s0 first)/\bZ Tz<=bZ ss/\(T2=[]∨bZ Tz<bZ ss)) ⟨ss,[],_,_,_,s3,hw3,rfl,hx3,W3,adx,(λk hk=>by cases hk),I.weak (λi k=>.inr k),fB.refl _,st,aag _,.inl rfl⟩ (λi Z HD _ ⟨_,_,_,_,_,_,e,_⟩=>ar.of e) ?_ ?_
     . rintro i v Z HD hv ⟨Tz,T2,u7,u8,u9,s4,hw4,rfl,hx4,hd4,nd4,hkk4,I4,le4,st4,tt4,hor4⟩;obtain⟨k,hki,rfl⟩:∃ k:Nat,ks[i]? = some k/\v=.int (k:Int):=by
         rw[aah,aah] at hv;obtain⟨p,hp,e⟩:=Option.map_eq_some_iff.mp hv;obtain⟨k,hk,e2⟩:=Option.map_eq_some_iff.mp hp;exact⟨k,hk,by rw[<- e,<- e2]⟩
       have hil:=(List.getElem?_eq_some_iff.mp hki).1;have hdrop:ks.drop i=k::ks.drop (i+1):=by
         rw[<- (List.getElem?_eq_some_iff.mp hki).2,List.getElem_cons_drop]
       obtain⟨s0',e0'⟩:=hkk k (aak hki);obtain⟨s,hsk,_⟩:=le4 k s0' e0';obtain⟨h,hhk⟩:=I4.rd k s hsk;have hkl2:k<rs.length:=by rw[<- hhl];exact(List.getElem?_eq_some_iff.mp hhk).1
       have Ve:rs[k]? = some rs[k]:=aaa hkl2;have hpk:prs[k]? = some prs[k]:=aaa (by rw[S9];exact hkl2);have Te:=Tq.2 k _ _ hpk Ve;have Uy:=aA _ (aaX hkl2);generalize rs[k]=r at Ve Te Uy;generalize prs[k]=p0 at hpk Te;obtain⟨h',hh',hcl'⟩:=HO'.cl k h r hhk Ve;have Vz:=QF aA (HO'.rh k h hhk);have WT:=L5 (r:=r) Uy.1 Vz.1 Vz.2 (I4.bd k s hsk);obtain⟨T8,hwl0,hwl2,hwl3⟩:=id hwy;have hwk:T8[k]? = some T8[k]:=aaa (by rw[hwl2];exact hkl2);have Uq:=hwl3 k _ hwk;generalize T8[k]=pw at hwk Uq;have T3:cZ (prs.map V.ref) (k:Int)=some (.ref p0):=bF (by rw[aah,hpk];rfl);have hat2:cZ (hs.map bM) (k:Int)=some (.int h):=bF (by rw[aah,hhk];rfl);have hat3:cZ (T8.map V.ref) (k:Int)=some (.ref pw):=bF (by rw[aah,hwk];rfl);have hat4:cZ (Tz.map cA) (k:Int)=some (.int (s:Int)):=bF (by rw[aah,hsk];rfl);have hc4:=s4 _ _ hc;have T5:=s4 _ _ hlh;have hwl4:=s4 _ _ hwl0;have hway4:=s4 _ _ Uq;have WB:=Te.same s4;obtain⟨dx,U2⟩:=id WB;ac_rfl;refine aX U2 (gM _) ((fg T Uy.2).mono (by decide)) ?_;ac_rfl;refine⟨p0,s,h,rfl,WB,Uy.1,Vz.1,Vz.2,by rw[hh'];rfl,?_⟩;have hcg:∀ g,Cons rs ls hs first g->∀ w∈dB rs ls k,Sub (g w.toNat) (r.keep s h):=λg cg w hw=>((cg.2 k h r hhk Ve).1 w hw).trans (Jo r h (I4.up g cg k s hsk))
       generalize hkept:r.keep s h=kept at WT hcg ⊢;clear hv hx3 hw3 W3 s3;ac_rfl;refine eZ (K:=K) (a:=pw) (xs:=(dB rs ls k).map V.int) (λm Z HE=>∃ (Vs:List (Option Nat)) (WM:List Nat) (u9:Option V),ao H HE/\HE lw=some (.lst ((ks.map λk:Nat=>(k:Int)).map V.int))/\Z = [some (.ref c),some (.ref ly),some (.ref lh),some (.int (first:Int)),some (.ref lx),some (.ref dn),some (.ref lw),some (.int (k:Int)),some (.int (kept:Int)),u9]/\HE lx=some (.lst (Vs.map cA))/\HE dn=some (.dK (bO WM))/\WM.Nodup/\(∀ k∈WM,∃ s,Vs[k]? = some (some s))/\PI rs ls hs first Vs (λi'=>i'∈WM∨i'∈ks.drop i)/\fB Tz Vs/\(∀ (i' s':Nat),Tz[i']? = some (some s')->Vs[i']? = some (some s')∨i'∈WM)/\(∀ w∈(dB rs ls k).take m,∃ s',Vs[w.toNat]? = some (some s')/\Sub s' kept)/\bZ Vs<=bZ Tz/\(WM=T2∨bZ Vs<bZ Tz)) ⟨Tz,T2,_,s4,hw4,rfl,hx4,hd4,nd4,hkk4,I4,fB.refl _,λi' s' e=>.inl e,(λw hw=>by rw[List.take_zero] at hw;cases hw),aag _,.inl rfl⟩ (λm Z HE _ ⟨_,_,_,s5,_⟩=>ar.of (s5 _ _ Uq)) ?_ ?_
       . rintro m v Z HE hv ⟨Vs,WM,u9,s5,hw5,rfl,hx5,W0,nd5,hkk5,I5,le5,un5,cl5,tt5,hor5⟩;obtain⟨w,hxw,rfl⟩:∃ w,(dB rs ls k)[m]? = some w/\v=.int w:=by
           rw[aah] at hv;obtain⟨p,hp,e⟩:=Option.map_eq_some_iff.mp hv;exact⟨p,hp,e.symm⟩
         have hwm:=aak hxw;obtain⟨hw0,hwh⟩:=hcl' w hwm;ac_rfl;rw[show w=((w.toNat:Nat):Int) by lia];refine TJ I5 s5 hx5 W0 nd5 ndnH hkk5 ⟨_,hwh⟩ WT (λg cg=>hcg g cg w hwm) λVr ks6 HG I6 le6 un6 s6 kp6 hx6 hd6 nd6 Vk Ws cl6 tt6 Wl=>?_;refine⟨Vr,ks6,_,s6,kp6 _ _ hw5 nwx nwd,by rw[show((w.toNat:Nat):Int)=w by lia],hx6,hd6,nd6,Ws,I6.weak (λi' k'=>?_),le5.trans le6,λi' s' e=>?_,λw' hw'=>?_,aaK tt6 tt5,?_⟩
         . rcases k' with (k' | k') | k'
           . exact .inl (Vk _ k')
           . exact .inr k'
           . exact .inl k'
         . rcases un5 i' s' e with e | e
           . exact un6 i' s' e
           . exact .inr (Vk _ e)
         . rw[abF,hxw,abx] at hw';rcases List.mem_append.mp hw' with hw' | hw'
           . obtain⟨s', e1, e2⟩ := cl5 w' hw';obtain⟨s'',f1,f2⟩:=le6 _ _ e1;exact⟨s'',f1,f2.trans e2⟩
           . rw[List.mem_singleton.mp hw'];exact cl6
         . rcases Wl with e | e
           . rcases hor5 with e2 | e2
             . exact .inl (e.trans e2)
             . exact .inr (by lia)
           . exact .inr (by lia)
       . rintro Z HE ⟨Vs,WM,u9,s5,hw5,rfl,hx5,W0,nd5,hkk5,I5,le5,un5,cl5,tt5,hor5⟩;rw[aac,aa0] at cl5;have hc5:=s5 _ _ hc;have hrow5:=Te.same s5;clear hc4 T5 hwl4 hway4 WB U2;obtain⟨t',ty1,ty2,_⟩:=lJ T Uy.2 hrow5
         have Td : ∀ {Vr : List (Option Nat)} {ks6 : List Nat} {HG : Hp} {u8 u9 : Option V}, PI rs ls hs first Vr (λi' => i' ∈ ks6 ∨ i' ∈ ks.drop i) -> fB Vs Vr -> (∀ (i' s' : Nat), Vs[i']? = some (some s') -> Vr[i']? = some (some s') ∨ i' ∈ ks6) -> (∀ k' ∈ WM, k' ∈ ks6) -> ao H HG -> HG lw = some (.lst ((ks.map λk : Nat => (k : Int)).map V.int)) -> HG lx = some (.lst (Vr.map cA)) -> HG dn = some (.dK (bO ks6)) -> ks6.Nodup -> (∀ k ∈ ks6, ∃ s, Vr[k]? = some (some s)) -> bZ Vr <= bZ Vs -> (ks6 = WM ∨ bZ Vr < bZ Vs) -> (∀ t, r = .call t -> ∃ s', Vr[t.toNat]? = some (some s') /\ Sub s' first) ->
             ∃ (Tz:List (Option Nat)) (T2:List Nat) (u7' u8' u9':Option V),ao H HG/\HG lw=some (.lst ((ks.map λk:Nat=>(k:Int)).map V.int))/\[some (V.ref c),some (.ref ly),some (.ref lh),some (.int (first:Int)),some (.ref lx),some (.ref dn),some (.ref lw),some (.int (k:Int)),u8,u9]=[some (.ref c),some (.ref ly),some (.ref lh),some (.int (first:Int)),some (.ref lx),some (.ref dn),some (.ref lw),u7',u8',u9']/\HG lx=some (.lst (Tz.map cA))/\HG dn=some (.dK (bO T2))/\T2.Nodup/\(∀ k∈T2,∃ s,Tz[k]? = some (some s))/\PI rs ls hs first Tz (λi'=>i'∈T2∨i'∈ks.drop (i+1))/\fB ss Tz/\(∃ s0,Tz[0]? = some (some s0)/\Sub s0 first)/\bZ Tz<=bZ ss/\(T2=[]∨bZ Tz<bZ ss):=by
           intro Vr ks6 HG u8 u9 I6 le6 un6 Vk s6 hw6 hx6 hd6 nd6 Ws tt6 Wl tg6;refine⟨Vr,ks6,_,_,_,s6,hw6,rfl,hx6,hd6,nd6,Ws,I6.done (λi' UK=>?_),(le4.trans le5).trans le6,?_,by lia,?_⟩
           . by_cases z:i'=k
             . subst z;refine .inr λs1 h1 r1 e1 e2 e3=>?_;rw[hhk] at e2;cases e2;rw[Ve] at e3;cases e3;have T9:i' ∉ ks6:=λz=>UK (.inl z);have e4:Vr[i']? = some (some s):=by
                 rcases un5 i' s hsk with e | e
                 . exact(un6 i' s e).resolve_right T9
                 . exact absurd (Vk _ e) T9
               rw[e4] at e1;cases e1;refine⟨λw hw=>?_,tg6⟩;obtain⟨s',f1,f2⟩:=cl5 w hw;obtain⟨s'',g1,g2⟩:=le6 _ _ f1;exact⟨s'',g1,by rw[hkept];exact g2.trans f2⟩
             . refine .inl λhp=>UK ?_;rcases hp with hp | hp
               . exact .inl hp
               . rw[hdrop] at hp;exact .inr ((List.mem_cons.mp hp).resolve_left z)
           . obtain⟨a0, b0, c0⟩ := st4;obtain⟨a1,b1,c1⟩:=(le5.trans le6) _ _ b0;exact⟨a1,b1,c1.trans c0⟩
           . rcases Wl with e | e
             . rcases hor5 with e2 | e2
               . rcases hor4 with e3 | e3
                 . exact .inl (by rw[e,e2,e3])
                 . exact .inr (by lia)
               . exact .inr (by lia)
             . exact .inr (by lia)
         ac_rfl;refine eX (λz=>nomatch z) ty1 ty2 ?_;cases hcall:r.isCall with
         | false =>
           ac_rfl;exact Td I5 (fB.refl _) (λi' s' e=>.inl e) (λk' h=>h) s5 hw5 hx5 W0 nd5 hkk5 (aag _) (.inl rfl) (λt ht=>by rw[ht] at hcall;cases hcall)
         | true =>
           obtain⟨t,rfl⟩:∃ t,r=.call t:=by
             cases r <;> first | exact⟨_,rfl⟩ | (cases hcall)
           obtain⟨dxD,Ww⟩:=hrow5;have Ww:HE p0=some (.ins a.aY dxD (au "target" (.int t) [])):=Ww;obtain⟨ht0,hth⟩:=HO'.tg k h t hhk Ve;ac_rfl;rw[show t=((t.toNat:Nat):Int) by lia];refine TJ I5 s5 hx5 W0 nd5 ndnH hkk5 ⟨_,hth⟩ hf (λg cg=>(cg.2 k h (.call t) hhk Ve).2 t rfl) λVr ks6 HG I6 le6 un6 s6 kp6 hx6 hd6 nd6 Vk Ws cl6 tt6 Wl=>?_;refine Td (I6.weak (λi' k'=>?_)) le6 un6 Vk s6 (kp6 _ _ hw5 nwx nwd) hx6 hd6 nd6 Ws tt6 Wl (λt2 UW=>by cases UW;exact cl6);rcases k' with (k' | k') | k'
           . exact .inl (Vk _ k')
           . exact .inr k'
           . exact .inl k'
     . rintro Z HD ⟨Tz,T2,u7,u8,u9,s4,hw4,rfl,hx4,hd4,nd4,hkk4,I4,le4,st4,tt4,hor4⟩;rw [aac,aac,List.drop_length] at I4;refine ⟨2*bZ Tz+(if T2=[] then 0 else 1),?_,Tz,T2,dn,_,_,_,_,s4,rfl,hx4,hd4,nd4,ndnH,hkk4,I4.weak (λi k=>k.resolve_right (by simp)),st4,rfl⟩;split
       . lia
       . rename_i T9
         have:=hor4.resolve_left T9
         lia
end
section
theorem kz (x:V)(r:List V):fR (x::r) (some 1) none=r:=by
 unfold fR;have e1:HT.bg (x::r).length 0 (some 1)=1:=by
   rw[show HT.bg (x::r).length 0 (some 1)=min 1 (x::r).length from HT.jg _ _ 1,aaG];lia
 have e2:HT.bg (x::r).length (x::r).length none=(x::r).length:=rfl;rw[e1,e2,aaG,List.drop_succ_cons,List.drop_zero,Nat.add_sub_cancel,aa0]
theorem gq (x:V)(r:List V) : ¬ (HT.bg (x::r).length 0 (some 1)=0/\HT.bg (x::r).length (x::r).length none=(x::r).length):=by
 intro z;have e1:HT.bg (x::r).length 0 (some 1)=1:=by
   rw[show HT.bg (x::r).length 0 (some 1)=min 1 (x::r).length from HT.jg _ _ 1,aaG];lia
 rw[e1] at z;exact absurd z.1 (by decide)
local macro_rules | `(tactic| walk_at "gt") => `(tactic| repeat (first | (with_reducible refine vW ?_) | (with_reducible refine Ak ?_) | (refine' r_gN ?x ?_; (case x => simp only [List.set_cons_succ, List.set_cons_zero]; rfl))))
theorem D9 (T:TX):FE 4 "_law_row" (G2 a):=by
 refine ba 3 T.Du vC ?_ ?_;ac_nf
 . obtain⟨u, r, rfl, ⟨p, rfl, hp⟩, ⟨⟨ok, here⟩, gz⟩, q⟩ := h;clear gz;walk_at"h";have nd:=vC.nd;walk_at"v";cases r
   all_goals (try exact aaV here)
   case set b n =>
     have TC:H p=some (.tup [.str "set",.int b,.int n]):=hp;clear hp;symm;rename_i l1 n1;refine bS (b:=true) aa rfl rfl (by nofun) λH1 s1=>?_;have S1:ao H H1:=((ae n1).trans s1)
     have Ub:=S1 _ _ TC;clear s1 n1;symm;refine y8 (aI.of Ub) (gq _ _) (λlt Tb=>?_);rw[kz];have S2:=S1.trans (ae Tb (o:=.tup [V.int b,V.int n]));clear S1;symm;exact Bi (a:=a) ok rfl (λx H5 s np z=>q x H5 (S2.trans s) (aG S2 np) z)
   case copy b n =>
     have TC:H p=some (.tup [.str "copy",.int b,.int n]):=hp;clear hp;symm;rename_i l1 n1;refine bS (b:=true) aa rfl rfl (by nofun) λH1 s1=>?_;have S1:ao H H1:=((ae n1).trans s1)
     have Ub:=S1 _ _ TC;clear s1 n1;symm;refine y8 (aI.of Ub) (gq _ _) (λlt Tb=>?_);rw[kz];have S2:=S1.trans (ae Tb (o:=.tup [V.int b,V.int n]));clear S1;symm;exact Bi (a:=a) ok rfl (λx H5 s np z=>q x H5 (S2.trans s) (aG S2 np) z)
   case add b n m =>
     have TC:H p=some (.tup [.str "add",.int b,.int n,.int m]):=hp;clear hp;symm;rename_i l1 n1;refine bS (b:=false) aa rfl rfl (by nofun) λH1 s1=>?_;have S1:ao H H1:=((ae n1).trans s1)
     have Ub:=S1 _ _ TC;clear s1 n1;symm;exact Mp (a:=a) ok rfl (λx H5 s np z=>q x H5 (S1.trans s) (aG S1 np) z)
   case grow b =>
     have TC:H p=some (.tup [.str "grow",.int b]):=hp;clear hp;symm;rename_i l1 n1;refine bS (b:=false) aa rfl rfl (by nofun) λH1 s1=>?_;have S1:ao H H1:=((ae n1).trans s1)
     have Ub:=S1 _ _ TC;clear s1 n1;symm;rename_i l2 n2;refine bS (b:=true) aa rfl rfl (by nofun) λH2 s2=>?_;have S2:ao H H2:=S1.trans ((ae n2).trans s2);have U0:=S2 _ _ TC;clear s2 n2 S1 Ub;symm;have Vb:=ok;simp only[Rw.ok,aH,aF,aM] at Vb;intro r7 Uo m7 g7 _;refine⟨r7,Uo,_,rfl,⟨by first | decide | lia,by first | decide | lia⟩,aa,λH7 Uj Ul=>⟨rfl,?_⟩⟩;have s7:ao H2 H7:=λb o e=>Uj b o (by rw[ak (ag e m7),ak (ag e g7)];exact e) (ag e m7);have w7:bC a H7 r7 (.grow _):=⟨Uo,Ul⟩
     clear Uj Ul;symm;intro r8 Um m8 g8 _;refine⟨r8,Um,_,rfl,⟨by first | decide | lia,by first | decide | lia⟩,aa,λH8 Ui Uk=>⟨rfl,?_⟩⟩;have s8:ao H7 H8:=λb o e=>Ui b o (by rw[ak (ag e m8),ak (ag e g8)];exact e) (ag e m8);have w8:bC a H8 r8 (.shrink _):=⟨Um,Uk⟩
     clear Ui Uk;symm;rename_i l9 n9;rw[show decide (V.str (aae "grow")=V.str (aae "shrink"))=false from by nofun];refine .inr ⟨_,rfl,?_⟩;rw[if_neg (show ¬ (false=true) by decide)];refine b9 (ar.of aa) (v:=.ref r7) rfl ?_;exact q r7 _ (S2.trans (s7.trans (s8.trans (ae n9)))) (aG S2 m7) (w7.same (s8.trans (ae n9)))
   case shrink b =>
     have TC:H p=some (.tup [.str "shrink",.int b]):=hp;clear hp;symm;rename_i l1 n1;refine bS (b:=false) aa rfl rfl (by nofun) λH1 s1=>?_;have S1:ao H H1:=((ae n1).trans s1)
     have Ub:=S1 _ _ TC;clear s1 n1;symm;rename_i l2 n2;refine bS (b:=true) aa rfl rfl (by nofun) λH2 s2=>?_;have S2:ao H H2:=S1.trans ((ae n2).trans s2);have U0:=S2 _ _ TC;clear s2 n2 S1 Ub;symm;have Vb:=ok;simp only[Rw.ok,aH,aF,aM] at Vb;intro r7 Uo m7 g7 _;refine⟨r7,Uo,_,rfl,⟨by first | decide | lia,by first | decide | lia⟩,aa,λH7 Uj Ul=>⟨rfl,?_⟩⟩;have s7:ao H2 H7:=λb o e=>Uj b o (by rw[ak (ag e m7),ak (ag e g7)];exact e) (ag e m7);have w7:bC a H7 r7 (.grow _):=⟨Uo,Ul⟩
     clear Uj Ul;symm;intro r8 Um m8 g8 _;refine⟨r8,Um,_,rfl,⟨by first | decide | lia,by first | decide | lia⟩,aa,λH8 Ui Uk=>⟨rfl,?_⟩⟩;have s8:ao H7 H8:=λb o e=>Ui b o (by rw[ak (ag e m8),ak (ag e g8)];exact e) (ag e m8);have w8:bC a H8 r8 (.shrink _):=⟨Um,Uk⟩
     clear Ui Uk;symm;rename_i l9 n9;rw[show decide (V.str (aae "shrink")=V.str (aae "shrink"))=true from by nofun];refine .inr ⟨_,rfl,?_⟩;rw[if_pos rfl];refine b9 (ar.of aa) (v:=.ref r8) rfl ?_;exact q r8 _ (S2.trans (s7.trans (s8.trans (ae n9)))) (aG (S2.trans s7) m8) (w8.same (ae n9))
   case put b n =>
     have TC:H p=some (.tup [.str "put",.int b,.int n]):=hp;clear hp;symm;rename_i l1 n1;refine bS (b:=true) aa rfl rfl (by nofun) λH1 s1=>?_;have S1:ao H H1:=((ae n1).trans s1)
     have Ub:=S1 _ _ TC;clear s1 n1;symm;refine y8 (aI.of Ub) (gq _ _) (λlt Tb=>?_);rw[kz];have S2:=S1.trans (ae Tb (o:=.tup [V.int b,V.int n]));clear S1;symm;have Vb:=ok;simp only[Rw.ok,aH,aF,aM] at Vb;intro r7 Uo m7 g7 _;refine⟨r7,Uo,_,_,rfl,⟨⟨by first | decide | lia,by first | decide | lia⟩,⟨by first | decide | lia,by first | decide | lia⟩⟩,aa,λH7 Uj Ul=>⟨rfl,?_⟩⟩;have s7:ao (upd H1 lt (.tup [V.int b,V.int n])) H7:=λb o e=>Uj b o (by rw[ak (ag e m7),ak (ag e g7)];exact e) (ag e m7);have w7:bC a H7 r7 (.put _ _):=⟨Uo,Ul⟩
     clear Uj Ul;symm;intro r8 Um m8 g8 _;refine⟨r8,Um,_,_,rfl,⟨⟨by first | decide | lia,by first | decide | lia⟩,⟨by first | decide | lia,by first | decide | lia⟩⟩,aa,λH8 Ui Uk=>⟨rfl,?_⟩⟩;have s8:ao H7 H8:=λb o e=>Ui b o (by rw[ak (ag e m8),ak (ag e g8)];exact e) (ag e m8);have w8:bC a H8 r8 (.get _ _):=⟨Um,Uk⟩
     clear Ui Uk;symm;rename_i l9 n9;rw[show decide (V.str (aae "put")=V.str (aae "get"))=false from by nofun];refine .inr ⟨_,rfl,?_⟩;rw[if_neg (show ¬ (false=true) by decide)];refine b9 (ar.of aa) (v:=.ref r7) rfl ?_;exact q r7 _ (S2.trans (s7.trans (s8.trans (ae n9)))) (aG S2 m7) (w7.same (s8.trans (ae n9)))
   case get b n =>
     have TC:H p=some (.tup [.str "get",.int b,.int n]):=hp;clear hp;symm;rename_i l1 n1;refine bS (b:=true) aa rfl rfl (by nofun) λH1 s1=>?_;have S1:ao H H1:=((ae n1).trans s1)
     have Ub:=S1 _ _ TC;clear s1 n1;symm;refine y8 (aI.of Ub) (gq _ _) (λlt Tb=>?_);rw[kz];have S2:=S1.trans (ae Tb (o:=.tup [V.int b,V.int n]));clear S1;symm;have Vb:=ok;simp only[Rw.ok,aH,aF,aM] at Vb;intro r7 Uo m7 g7 _;refine⟨r7,Uo,_,_,rfl,⟨⟨by first | decide | lia,by first | decide | lia⟩,⟨by first | decide | lia,by first | decide | lia⟩⟩,aa,λH7 Uj Ul=>⟨rfl,?_⟩⟩;have s7:ao (upd H1 lt (.tup [V.int b,V.int n])) H7:=λb o e=>Uj b o (by rw[ak (ag e m7),ak (ag e g7)];exact e) (ag e m7);have w7:bC a H7 r7 (.put _ _):=⟨Uo,Ul⟩
     clear Uj Ul;symm;intro r8 Um m8 g8 _;refine⟨r8,Um,_,_,rfl,⟨⟨by first | decide | lia,by first | decide | lia⟩,⟨by first | decide | lia,by first | decide | lia⟩⟩,aa,λH8 Ui Uk=>⟨rfl,?_⟩⟩;have s8:ao H7 H8:=λb o e=>Ui b o (by rw[ak (ag e m8),ak (ag e g8)];exact e) (ag e m8);have w8:bC a H8 r8 (.get _ _):=⟨Um,Uk⟩
     clear Ui Uk;symm;rename_i l9 n9;rw[show decide (V.str (aae "get")=V.str (aae "get"))=true from by nofun];refine .inr ⟨_,rfl,?_⟩;rw[if_pos rfl];refine b9 (ar.of aa) (v:=.ref r8) rfl ?_;exact q r8 _ (S2.trans (s7.trans (s8.trans (ae n9)))) (aG (S2.trans s7) m8) (w8.same (ae n9))
   case dr b =>
     have TC:H p=some (.tup [.str "jump",.int b]):=hp;clear hp;symm;rename_i l1 n1;refine bS (b:=false) aa rfl rfl (by nofun) λH1 s1=>?_;have S1:ao H H1:=((ae n1).trans s1)
     have Ub:=S1 _ _ TC;clear s1 n1;symm;rename_i l2 n2;refine bS (b:=false) aa rfl rfl (by nofun) λH2 s2=>?_;have S2:ao H H2:=S1.trans ((ae n2).trans s2);have U0:=S2 _ _ TC;clear s2 n2 S1 Ub;symm;rename_i l3 n3;refine bS (b:=false) aa rfl rfl (by nofun) λH3 s3=>?_;have S3:ao H H3:=S2.trans ((ae n3).trans s3);have hp3:=S3 _ _ TC;clear s3 n3 S2 U0;symm;have Vb:=ok;simp only[Rw.ok,aH,aF,aM] at Vb;intro r7 Uo m7 g7 _;refine⟨r7,Uo,_,rfl,⟨by first | decide | lia,by first | decide | lia⟩,aa,λH7 Uj Ul=>⟨rfl,?_⟩⟩;have s7:ao H3 H7:=λb o e=>Uj b o (by rw[ak (ag e m7),ak (ag e g7)];exact e) (ag e m7);have w7:bC a H7 r7 (.dr _):=⟨Uo,Ul⟩
     clear Uj Ul;symm;intro r8 Um m8 g8 _;refine⟨r8,Um,_,rfl,⟨by first | decide | lia,by first | decide | lia⟩,aa,λH8 Ui Uk=>⟨rfl,?_⟩⟩;have s8:ao H7 H8:=λb o e=>Ui b o (by rw[ak (ag e m8),ak (ag e g8)];exact e) (ag e m8);have w8:bC a H8 r8 (.call _):=⟨Um,Uk⟩
     clear Ui Uk;symm;rename_i l9 n9;rw[show decide (V.str (aae "jump")=V.str (aae "call"))=false from by nofun];refine .inr ⟨_,rfl,?_⟩;rw[if_neg (show ¬ (false=true) by decide)];refine b9 (ar.of aa) (v:=.ref r7) rfl ?_;exact q r7 _ (S3.trans (s7.trans (s8.trans (ae n9)))) (aG S3 m7) (w7.same (s8.trans (ae n9)))
   case branch b n =>
     have TC:H p=some (.tup [.str "branch",.int b,.int n]):=hp;clear hp;symm;rename_i l1 n1;refine bS (b:=false) aa rfl rfl (by nofun) λH1 s1=>?_;have S1:ao H H1:=((ae n1).trans s1)
     have Ub:=S1 _ _ TC;clear s1 n1;symm;exact Bi (a:=a) ok rfl (λx H5 s np z=>q x H5 (S1.trans s) (aG S1 np) z)
   case call b =>
     have TC:H p=some (.tup [.str "call",.int b]):=hp;clear hp;symm;rename_i l1 n1;refine bS (b:=false) aa rfl rfl (by nofun) λH1 s1=>?_;have S1:ao H H1:=((ae n1).trans s1)
     have Ub:=S1 _ _ TC;clear s1 n1;symm;rename_i l2 n2;refine bS (b:=false) aa rfl rfl (by nofun) λH2 s2=>?_;have S2:ao H H2:=S1.trans ((ae n2).trans s2);have U0:=S2 _ _ TC;clear s2 n2 S1 Ub;symm;rename_i l3 n3;refine bS (b:=false) aa rfl rfl (by nofun) λH3 s3=>?_;have S3:ao H H3:=S2.trans ((ae n3).trans s3);have hp3:=S3 _ _ TC;clear s3 n3 S2 U0;symm;have Vb:=ok;simp only[Rw.ok,aH,aF,aM] at Vb;intro r7 Uo m7 g7 _;refine⟨r7,Uo,_,rfl,⟨by first | decide | lia,by first | decide | lia⟩,aa,λH7 Uj Ul=>⟨rfl,?_⟩⟩;have s7:ao H3 H7:=λb o e=>Uj b o (by rw[ak (ag e m7),ak (ag e g7)];exact e) (ag e m7);have w7:bC a H7 r7 (.dr _):=⟨Uo,Ul⟩
     clear Uj Ul;symm;intro r8 Um m8 g8 _;refine⟨r8,Um,_,rfl,⟨by first | decide | lia,by first | decide | lia⟩,aa,λH8 Ui Uk=>⟨rfl,?_⟩⟩;have s8:ao H7 H8:=λb o e=>Ui b o (by rw[ak (ag e m8),ak (ag e g8)];exact e) (ag e m8);have w8:bC a H8 r8 (.call _):=⟨Um,Uk⟩
     clear Ui Uk;symm;rename_i l9 n9;rw[show decide (V.str (aae "call")=V.str (aae "call"))=true from by nofun];refine .inr ⟨_,rfl,?_⟩;rw[if_pos rfl];refine b9 (ar.of aa) (v:=.ref r8) rfl ?_;exact q r8 _ (S3.trans (s7.trans (s8.trans (ae n9)))) (aG (S3.trans s7) m8) (w8.same (ae n9))
   case back b =>
     have TC:H p=some (.tup [.str "back",.int b]):=hp;clear hp;symm;rename_i l1 n1;refine bS (b:=false) aa rfl rfl (by nofun) λH1 s1=>?_;have S1:ao H H1:=((ae n1).trans s1)
     have Ub:=S1 _ _ TC;clear s1 n1;symm;rename_i l2 n2;refine bS (b:=false) aa rfl rfl (by nofun) λH2 s2=>?_;have S2:ao H H2:=S1.trans ((ae n2).trans s2);have U0:=S2 _ _ TC;clear s2 n2 S1 Ub;symm;rename_i l3 n3;refine bS (b:=true) aa rfl rfl (by nofun) λH3 s3=>?_;have S3:ao H H3:=S2.trans ((ae n3).trans s3);have hp3:=S3 _ _ TC;clear s3 n3 S2 U0;symm;have Vb:=ok;simp only[Rw.ok,aH,aF,aM] at Vb;intro r7 Uo m7 g7 _;refine⟨r7,Uo,_,rfl,⟨by first | decide | lia,by first | decide | lia⟩,aa,λH7 Uj Ul=>⟨rfl,?_⟩⟩;have s7:ao H3 H7:=λb o e=>Uj b o (by rw[ak (ag e m7),ak (ag e g7)];exact e) (ag e m7);have w7:bC a H7 r7 (.back _):=⟨Uo,Ul⟩
     clear Uj Ul;symm;intro r8 Um m8 g8 _;refine⟨r8,Um,_,rfl,⟨by first | decide | lia,by first | decide | lia⟩,aa,λH8 Ui Uk=>⟨rfl,?_⟩⟩;have s8:ao H7 H8:=λb o e=>Ui b o (by rw[ak (ag e m8),ak (ag e g8)];exact e) (ag e m8);have w8:bC a H8 r8 (.drop _):=⟨Um,Uk⟩
     clear Ui Uk;symm;rename_i l9 n9;rw[show decide (V.str (aae "back")=V.str (aae "drop"))=false from by nofun];refine .inr ⟨_,rfl,?_⟩;rw[if_neg (show ¬ (false=true) by decide)];refine b9 (ar.of aa) (v:=.ref r7) rfl ?_;exact q r7 _ (S3.trans (s7.trans (s8.trans (ae n9)))) (aG S3 m7) (w7.same (s8.trans (ae n9)))
   case drop b =>
     have TC:H p=some (.tup [.str "drop",.int b]):=hp;clear hp;symm;rename_i l1 n1;refine bS (b:=false) aa rfl rfl (by nofun) λH1 s1=>?_;have S1:ao H H1:=((ae n1).trans s1)
     have Ub:=S1 _ _ TC;clear s1 n1;symm;rename_i l2 n2;refine bS (b:=false) aa rfl rfl (by nofun) λH2 s2=>?_;have S2:ao H H2:=S1.trans ((ae n2).trans s2);have U0:=S2 _ _ TC;clear s2 n2 S1 Ub;symm;rename_i l3 n3;refine bS (b:=true) aa rfl rfl (by nofun) λH3 s3=>?_;have S3:ao H H3:=S2.trans ((ae n3).trans s3);have hp3:=S3 _ _ TC;clear s3 n3 S2 U0;symm;have Vb:=ok;simp only[Rw.ok,aH,aF,aM] at Vb;intro r7 Uo m7 g7 _;refine⟨r7,Uo,_,rfl,⟨by first | decide | lia,by first | decide | lia⟩,aa,λH7 Uj Ul=>⟨rfl,?_⟩⟩;have s7:ao H3 H7:=λb o e=>Uj b o (by rw[ak (ag e m7),ak (ag e g7)];exact e) (ag e m7);have w7:bC a H7 r7 (.back _):=⟨Uo,Ul⟩
     clear Uj Ul;symm;intro r8 Um m8 g8 _;refine⟨r8,Um,_,rfl,⟨by first | decide | lia,by first | decide | lia⟩,aa,λH8 Ui Uk=>⟨rfl,?_⟩⟩;have s8:ao H7 H8:=λb o e=>Ui b o (by rw[ak (ag e m8),ak (ag e g8)];exact e) (ag e m8);have w8:bC a H8 r8 (.drop _):=⟨Um,Uk⟩
     clear Ui Uk;symm;rename_i l9 n9;rw[show decide (V.str (aae "drop")=V.str (aae "drop"))=true from by nofun];refine .inr ⟨_,rfl,?_⟩;rw[if_pos rfl];refine b9 (ar.of aa) (v:=.ref r8) rfl ?_;exact q r8 _ (S3.trans (s7.trans (s8.trans (ae n9)))) (aG (S3.trans s7) m8) (w8.same (ae n9))
end
section
def Q0 (H:Hp)(i:Int)(v:V)(o:Int×Option Wt):Prop:=∃ q,v=.ref q/\H q=some (.tup [.int i,.int o.1,oV o.2])
def eJ (H:Hp)(i:Int)(vs:List V)(os:List (Int×Option Wt)):Prop:=vs.length=os.length/\∀ (k:Nat) (o:Int×Option Wt),os[k]? = some o->∃ v,vs[k]? = some v/\Q0 H i v o
theorem eJ.to {os:List (Int×Option Wt)}(h:eJ H i vs os)(s:∀ b xs,H b=some (.tup xs)->H' b=some (.tup xs)):eJ H' i vs os:=⟨h.1,λk o e=>let ⟨v,e1,q,e2,e3⟩:=h.2 k o e;⟨v,e1,q,e2,s _ _ e3⟩⟩
theorem eJ.same {os:List (Int×Option Wt)}(h:eJ H i vs os)(s:ao H H'):eJ H' i vs os:=h.to λ_ _ e=>s _ _ e
theorem eJ.nil:eJ H i [] []:=⟨rfl,λi c e=>by simp at e⟩
theorem eJ.app {cs ds:List (Int×Option Wt)}(h:eJ H i vs cs)(k:eJ H i us ds):eJ H i (vs++us) (cs++ds):=by
 refine⟨by rw[aab,aab,h.1,k.1],λj o e=>?_⟩;by_cases hi:j<cs.length
 . rw[aas hi] at e;obtain⟨u,e1,e2⟩:=h.2 j o e;exact⟨u,by rw[aas (by rw[h.1];exact hi)];exact e1,e2⟩
 . rw[aaq (by lia)] at e;obtain⟨u,e1,e2⟩:=k.2 _ o e;exact⟨u,by rw[aaq (by rw[h.1];lia),h.1];exact e1,e2⟩
theorem eJ.one {v:V}{o:Int×Option Wt}(h:Q0 H i v o):eJ H i [v] [o]:=⟨rfl,λk c' e=>by
 cases k with
 | zero=>simp at e;subst e;exact⟨v,rfl,h⟩
 | succ k=>simp at e⟩
theorem E1 (h:ek r e=none) : 0<=e.h/\e.h<=4000/\(r.aE e.h).isSome=true:=by
 unfold ek at h;split at h
 . cases h
 . rename_i hw;unfold du at hw;simp only[Bool.not_eq_true,Bool.or_eq_false_iff,decide_eq_false_iff_not] at hw;split at h
   . cases h
   . rename_i hg;exact⟨by omega,by omega,by cases hx:r.aE e.h with | none=>exact absurd hx hg | some z=>rfl⟩
theorem HK (r:Rw)(i:Int):(r.dz i).length<=4000:=by cases r <;> exact aa2 rfl
theorem JE (r:Rw)(i:Int):(once (r.dz i)).length<=9:=by
 cases r <;> simp[Rw.dz,once]
 split <;> simp
theorem qZ (T:TX):FE 5 "row_complaints" (Po K a):=by
 refine ba 4 T.qX fF ?_ ?_;ac_nf
 . obtain ⟨c, l, i, prs, rs, ev, es, rfl, hc, Tq, hl, Tr, E', hi, hre, q⟩ := h;have S9:=Tq.1;have hri:rs[i]? = some rs[i]:=aaa hi;obtain ⟨p,hp⟩:∃ p,prs[i]? = some p:=⟨_,aaa (by lia)⟩
   obtain⟨dx,hx⟩:=Tq.2 i p _ hp hri;obtain⟨ok,hh⟩:=E'.ok _ (aaX hi);obtain⟨v,oe,T3,Ug,hmem,hv⟩:=Tr.at (c:=(i:Int)) (by lia) (by lia)
   rw[aaD] at Ug;have hatp:cZ (prs.map V.ref) (i:Int)=some (.ref p):=bF (by rw[aah,hp];rfl);unfold m6 at q;rw[hri,Ug,Option.join_some] at q;generalize rs[i]=r at *;walk_at"h";have nd:=fF.nd;refine' aV ?_ ?_;walk_at"tS";walk_at"c";walk_at"c";walk_at"c";walk_at"c";walk_at"n";exact(fu (i:=6) fF.nd rfl rfl (own:=["coming"]) (fr:=[("entries",1),("at",2),("row",3),("entry",4)]) rfl ⟨rfl,(by walk_at"clok"),(by walk_at"frok"),rfl,(by nofun),(by nofun),rfl⟩ (dP (K:=K) rfl (bj (AR T) (hr.mono (by decide)) b_ rfl (aj (AU (P:=P) (w:=w) (K:=K) (mg:=mg) (base:=base) (k:=1) ⟨rfl,rfl,rfl,rfl,rfl⟩ (pv 3) (hr.mono (by decide)) b_ (aj (pv 2) aD)) aD))) (λ_ _ _ _=>(bT (i:=0) (show aa6 [("coming" : Str),("entries" : Str),("at" : Str),("row" : Str),("entry" : Str)] from by nofun) rfl (Or.inl rfl))) (λ_ _ _ _=>c9) (λ_ _ _ _=>(oR (aj (pv 2) (aj (pv 0) (aj (bj (jn T) (hr.mono (by decide)) b_ rfl (aj (pv 3) (aj (pv 4) (aj (pv 0) (aj (pv 1) aD))))) aD))))));walk_at"c";walk_at"m";exact(iD (fw (own:=["complaint"]) (fr:=[]) rfl ⟨rfl,(by walk_at"clok"),(by walk_at"frok"),rfl,(by nofun),(by nofun),rfl⟩ (dP (K:=K) rfl (pv 6)) (λ_ _ _ _=>(bT (i:=0) (show aa6 [("complaint" : Str)] from by nofun) rfl (Or.inl rfl))) (λ_ _ _ _=>(wy (dO ze (cC (di (K:=K) rfl) (pv 0) aW (λ_ _=>rfl)) jT (d9 _)))) (λ_ _ _ _=>(pv 0))));walk_at"s";symm;cases oe with
   | none =>
     cases hv
     symm;rename_i l1 US;exact q l1 [] _ (ae US) aa cy.nil US
   | some e =>
     have q:∀ p us H',ao H H'->H' p=some (.lst us)->cy H' us (pU r e i es)->H p=none->Q (.ref p) H':=q;obtain⟨pe,rfl,he⟩:=id hv;have nn:=E'.nn e hmem;symm;refine⟨p,pe,r,e,rfl,⟨dx,hx⟩,ok,hh,he,λH1 s1=>?_⟩;have VJ:=s1 _ _ hx;have he1:=he.same s1;have hl1:=s1 _ _ hl;have hev1:=Tr.same s1;unfold pU at q;cases ho:ek r e with
     | some w =>
       rw[ho] at q;show be 5 w.v _ _ _;symm;rename_i t nt l1 US;exact q l1 [.ref t] _ (s1.trans (by walk_at"same")) aa (cy.one ⟨t,rfl,by bv_omega⟩) (aG s1 (by walk_at"none"))
     | none =>
       rw[ho] at q;show be 5 V.aC _ _ _;have hnw : 0<=e.h/\e.h<=4000/\(r.aE e.h).isSome=true:=E1 ho;obtain⟨e0,e4,hs⟩:=hnw;have nl0:∀ b,H1 b=none->H b=none:=λb z=>aG s1 z;symm;refine aX VJ (xX _) ((rY T hh).mono (by decide)) ?_;symm;refine⟨p,(i:Int),rfl,⟨dx,VJ⟩,λg ng=>?_⟩;symm;refine⟨g,r.dz i,rfl,ar.of aa,HK r i,λq1 H2 s2 Vf=>?_⟩;have Uu:=(ae (o:=.lst ((r.dz i).map V.int)) ng).trans s2;have n2:∀ b,H2 b=none->H b=none:=λb z=>nl0 b (aG Uu z);have s02:=s1.trans Uu;have Vd:=Uu _ _ VJ;have he2:=he1.same Uu;have UJ:=Uu _ _ hl1;have hev2:=hev1.same Uu;clear Uu s2 ng s1 VJ he1 hl1 hev1 hx hl Tr he hv nl0 hc Tq;symm;have hol:=JE r i;refine fW (K:=K) (a:=q1) (xs:=(once (r.dz i)).map V.int) (λk ys Z H3=>(∃ u,Z = [u,some (.ref l),some (.int (i:Int)),some (.ref p),some (.ref pe)])/\ao H2 H3/\eJ H3 i ys (((once (r.dz i)).take k).map λc=>(c,fE r e c es))) ⟨⟨_,rfl⟩,ao.refl _,eJ.nil⟩ (λk ys Z H3 hk ⟨_,s3,e3⟩=>⟨ar.of (s3 _ _ Vf),by have:=e3.1;rw[aac,aaA] at this;rw[aaI];lia⟩) ?_ ?_
       . rintro k v ys Z H3 hk ⟨⟨u,rfl⟩,s3,ho3⟩;obtain⟨cc,hcc,rfl⟩:∃ n,(once (r.dz i))[k]? = some n/\v=.int n:=by
           rw[aah] at hk;obtain⟨p,hp,e⟩:=Option.map_eq_some_iff.mp hk;exact⟨p,hp,e.symm⟩
         symm;refine⟨p,pe,l,cc,r,e,ev,es,rfl,⟨dx,s3 _ _ Vd⟩,ok,hh,he2.same s3,nn,e0,e4,hs,s3 _ _ UJ,hev2.same s3,E'.nn,λH4 s4=>?_⟩;symm;rename_i t nt;refine⟨⟨_,rfl⟩,(s3.trans s4).trans (ae nt),?_⟩;rw[abF,hcc,abx,aaE];exact((ho3.same s4).same (ae nt)).app (eJ.one ⟨t,rfl,aa⟩)
       rintro ys Z H3 ⟨_,s3,ho3⟩;rw[aac,aa0] at ho3;symm;rename_i lf Vu;have sn:=s3.trans (ae (o:=.lst ys) Vu);have Vg:(upd H3 lf (.lst ys)) lf=some (.lst ys):=aa;have ho4:=ho3.same (ae (o:=.lst ys) Vu);have n4:H lf=none:=n2 lf (aG s3 Vu);clear s3 Vu ho3;generalize upd H3 lf (.lst ys)=H4 at sn Vg ho4 ⊢;have s04:=s02.trans sn;have hx4:=sn _ _ Vd;have hl4:=sn _ _ UJ;have hev4:=hev2.same sn;clear sn s02 Vd he2 UJ hev2 Vf n2;have kk:∀ (lf:Addr) (H5:Hp),(∃ us os,ao H H5/\H5 lf=some (.lst us)/\eJ H5 i us os/\os.length<=10/\(os.filterMap λo=>o.2.map λw=>Cm.mk i o.1 w)=((once (r.dz i)).filterMap λc=>(fE r e c es).map λw=>Cm.mk i c w)++tR r i es)->iz (x_ K lf) (be 0) (dC (bq kB (bq (bI K) (az 0) (tC (V.int 2))) (tC V.aC))) (az 0) (λys H3=>∀ p,H3 p=none->Q (V.ref p) (upd H3 p (HO.lst ys))) [none] H5:=by
         rintro lf H5 ⟨us,os,s5,Vg,ho5,h10,hfm⟩;rw[<- hfm] at q;clear hfm;have Vx:=ho5.1;refine fW (K:=K) (a:=lf) (xs:=us) (λk ys Z H6=>(∃ u,Z = [u])/\H6=H5/\cy H5 ys ((os.take k).filterMap λo=>o.2.map λw=>Cm.mk i o.1 w)/\ys.length<=k) ⟨⟨_,rfl⟩,rfl,cy.nil,aag _⟩ (λk ys Z H6 hk ⟨_,e6,_,e7⟩=>⟨by rw[e6];exact ar.of Vg,by rw[aaI];lia⟩) ?_ ?_
         . rintro k v ys Z H6 hk ⟨⟨u,rfl⟩,rfl,VP,VI⟩;have UD:k<os.length:=by rw [<- Vx];exact (List.getElem?_eq_some_iff.mp hk).1
           obtain⟨v',hv',qq,e1,e2⟩:=ho5.2 k _ (aaa UD);rw[hk] at hv';cases hv'
           subst e1;rw[abF,aaa UD,abx,List.filterMap_append];generalize os[k]=o at e2 ⊢;obtain⟨cc,ow⟩:=o;symm;cases ow with
           | none =>
             show kB V.aC V.aC _ _;symm;exact⟨⟨_,rfl⟩,rfl,by rw[show List.filterMap (λo:Int×Option Wt=>o.2.map λw=>Cm.mk i o.1 w) [(cc,none)]=[] from rfl,aaL];exact VP,by lia⟩
           | some w =>
             show kB w.v V.aC _ _;symm;exact⟨⟨_,rfl⟩,rfl,VP.app (cy.one (c:=⟨i,cc,w⟩) ⟨qq,rfl,e2⟩),by rw[aab];show _+1<=_+1;lia⟩
         . rintro ys Z H6 ⟨_,rfl,VP,VI⟩;rw[Vx,aa0] at VP;intro p1 np1;exact q p1 ys _ (s5.trans (ae np1)) aa (VP.same (ae np1)) (aG s5 np1)
       obtain⟨t',ty,kc,kb⟩:=lJ T hh ⟨dx,hx4⟩;cases hC:r.isCall with
       | false =>
         rw[hC] at kc
         with_reducible refine(?_:iU _ _ _ _)
         refine eX (λz=>by cases z) ty kc ?_;symm;refine kk lf H4 ⟨ys,_,s04,Vg,ho4,by rw[aac];lia,?_⟩;rw[adP,show tR r i es=[] from(by cases r <;> first | rfl | cases hC),aaL];rfl
       | true =>
         obtain⟨t,hrt⟩:∃ t,r=.call t:=by cases r <;> first | exact⟨_,rfl⟩ | cases hC
         rw[hC] at kc
         with_reducible refine(?_:iU _ _ _ _)
         refine eX (b:=true) (λz=>by cases z) ty kc ?_;rw[hrt] at hx4
         change H4 p=some (.ins a.aY dx (au "target" (.int t) [])) at hx4
         symm;refine⟨p,l,t,ev,es,rfl,⟨dx,hx4⟩,hl4,hev4,λH5 s5=>?_⟩;have hlf5:=s5 _ _ Vg;have ho5:=ho4.same s5;have VI:ys.length<=10:=by rw[ho4.1,aac];lia
         symm;rename_i tt TK;have ho6:=(ho5.same (ae (o:=.tup [.int (i:Int),.int t,oV (eC t es)]) TK)).app (eJ.one (i:=i) (o:=(t,eC t es)) ⟨tt,rfl,aa⟩);have kb6:∀ (b:Addr) (xs:List V),(upd H5 tt (.tup [.int (i:Int),.int t,oV (eC t es)])) b=some (.tup xs)->(upd (upd H5 tt (.tup [.int (i:Int),.int t,oV (eC t es)])) lf (.lst (ys++[.ref tt]))) b=some (.tup xs):=λb xs e=>by
           rw[ak (λz=>by subst z;rw[ai hlf5 TK] at e;cases e)];exact e
         have ho7:=ho6.to kb6;have s07:ao H (upd (upd H5 tt (.tup [.int (i:Int),.int t,oV (eC t es)])) lf (.lst (ys++[.ref tt]))):=λb o e=>by
           rw[ak (ag e n4)];exact(s04.trans (s5.trans (ae TK))) b o e
         have hlf7:(upd (upd H5 tt (.tup [.int (i:Int),.int t,oV (eC t es)])) lf (.lst (ys++[.ref tt]))) lf=some (.lst (ys++[.ref tt])):=aa;clear kb6 ho6 ho5 hlf5;generalize (upd (upd H5 tt (.tup [.int (i:Int),.int t,oV (eC t es)])) lf (.lst (ys++[.ref tt])))=H7 at ho7 s07 hlf7 ⊢;refine kk lf H7 ⟨_,_,s07,hlf7,ho7,by rw[aab,aac];show _+1<=10;lia,?_⟩;rw[List.filterMap_append,adP,show tR r i es=((eC t es).map λw=>Cm.mk i t w).toList from by rw[hrt];rfl];show _++(List.filterMap _ [(t,eC t es)])=_++((eC t es).map λw=>Cm.mk i t w).toList;cases eC t es <;> rfl
theorem DG (h:ek r e=none) : 0<=e.h/\e.h<=4000/\(r.aE e.h).isSome=true:=by
 unfold ek at h;split at h
 . cases h
 . rename_i hw;unfold du at hw;simp only[Bool.not_eq_true,Bool.or_eq_false_iff,decide_eq_false_iff_not] at hw;split at h
   . cases h
   . rename_i hg;exact⟨by omega,by omega,by cases hx:r.aE e.h with | none=>exact absurd hx hg | some z=>rfl⟩
theorem mX (T:TX):FE 5 "landing_complaint" (LU K a):=by
 refine ba 4 T.nu gk ?_ ?_;ac_nf
 . obtain⟨c, l, i, z, prs, rs, ev, es, rfl, hc, Tq, hl, Tr, E', hre, q⟩ := h;have S9:=Tq.1;unfold mS at q;walk_at"h";have nd:=gk.nd;walk_at"v";symm;refine⟨i,l,ev,rfl,ar.of hl,?_⟩;rw[Tr.1];by_cases V3 : 0<=i/\i<(es.length:Int)
   . rw [decide_eq_true V3];rw [if_pos V3] at q;have hi:i.toNat<rs.length:=by omega
     have hri:rs[i.toNat]? = some rs[i.toNat]:=aaa hi;obtain⟨p,hp⟩:∃ p,prs[i.toNat]? = some p:=⟨_,aaa (by omega)⟩
     obtain⟨dx,hx⟩:=Tq.2 _ p _ hp hri;obtain⟨ok,hh⟩:=E'.ok _ (aaX hi);obtain⟨v,oe,T3,Ug,hmem,hv⟩:=Tr.at V3.1 V3.2;have hatp:cZ (prs.map V.ref) i=some (.ref p):=by
       rw[show i=((i.toNat:Nat):Int) from by omega];exact bF (by rw[aah,hp];rfl)
     rw[hri,Ug,Option.join_some] at q;generalize rs[i.toNat]=r at *;have q:∀ H',ao H H'->Q (oV (y4 r oe z es)) H':=q;unfold y4 at q;symm;obtain⟨t',ty,kc,kb⟩:=lJ T hh ⟨dx,hx⟩;refine eX (λz=>by cases z) ty kc ?_;cases hC:r.isCall with
     | false =>
       rw[hC] at q;symm;exact q _ (ao.refl _)
     | true =>
       rw[hC] at q;symm;cases oe with
       | none =>
         cases hv
         symm;exact q _ (ao.refl _)
       | some e =>
         have q:∀ H',ao H H'->Q (oV (if (ek r e).isSome=true then none else fE r e z es)) H':=q;obtain⟨pe,rfl,he⟩:=id hv;symm;refine⟨p,pe,r,e,rfl,⟨dx,hx⟩,ok,hh,he,λH1 s1=>?_⟩;cases ho:ek r e with
         | some w =>
           rw[ho] at q;symm;show kB w.v V.aC _ _;symm;exact q _ s1
         | none =>
           rw[ho] at q;obtain⟨e0,e4,hs⟩:=DG ho;have VJ:=s1 _ _ hx;have W6:=s1 _ _ hc;symm;show kB V.aC V.aC _ _;symm;exact⟨p,pe,l,z,r,e,ev,es,rfl,⟨dx,VJ⟩,ok,hh,he.same s1,E'.nn e hmem,e0,e4,hs,s1 _ _ hl,Tr.same s1,E'.nn,λH2 s2=>q _ (s1.trans s2)⟩
   . rw[decide_eq_false V3];rw[if_neg V3] at q;symm;exact q _ (ao.refl _)
theorem yy (T:TX):iE P w K mg base (eQ P w) 5 "entries_of" (M_ K a):=by
 refine zD 4 T.yC eN ?_ ?_;ac_nf
 . obtain ⟨c, d, prs, rs, ls, rfl, hc, Tq, aA, To, Tf, hd, qe, q⟩ := h;have S9:=Tq.1;walk_at "h";have nd:=eN.nd;refine' aV ?_ ?_;walk_at "x";walk_at "tS";walk_at "n";walk_at "x";exact (c8 (i:=2) eN.nd rfl (Or.inr rfl) (fw (own:=["at"]) (fr:=[("code",0),("landings",1)]) rfl ⟨rfl,(by walk_at "clok"),(by walk_at "frok"),rfl,(by nofun),(by nofun),rfl⟩ (e_ rfl T.fU (aj (cJ (ez (K:=K) rfl) rfl T.ja i_ (aj (pv 0) aD)) aD)) (λ_ _ _ _=>(bT (i:=0) (show aa6 [("at" : Str),("code" : Str),("landings" : Str)] from by nofun) rfl (Or.inl rfl))) (λ_ _ _ _=>c9) (λ_ _ _ _=>(bj (Eg T) (hr.mono (by decide)) b_ rfl (aj (pv 1) (aj (pv 2) (aj (pv 0) aD)))))));walk_at "n";exact (c8 (i:=3) eN.nd rfl (Or.inr rfl) (bj (yS T) (hr.mono (by decide)) lQ rfl (aj (pv 0) (aj (pv 2) aD))));walk_at "n";walk_at "x";exact (fu (i:=4) eN.nd rfl rfl (own:=["first"]) (fr:=[("code",0),("ways",2),("heights",3)]) rfl ⟨rfl,(by walk_at "clok"),(by walk_at "frok"),rfl,(by nofun),(by nofun),rfl⟩ (dP (K:=K) rfl (bj (gC T) (hr.mono (by decide)) b_ rfl (aj (f_ (v:=V.ref a.jk) rfl T.lL rfl) aD))) (λ_ _ _ _=>(bT (i:=0) (show aa6 [("first" : Str),("code" : Str),("ways" : Str),("heights" : Str)] from by nofun) rfl (Or.inl rfl))) (λ_ _ _ _=>c9) (λ_ _ _ _=>(bj (zA T) (hr.mono (by decide)) b_ rfl (aj (pv 1) (aj (pv 2) (aj (pv 3) (aj (pv 0) aD)))))));walk_at "n";walk_at "x";walk_at "tS";walk_at "n";walk_at "x";walk_at "g";exact (NT (K:=K) rfl rfl T.y_ (aj (pv 3) (aj (cC (di (K:=K) rfl) (pv 4) aW (λ_ _=>rfl)) (aj (cC (di (K:=K) rfl) (pv 4) aW (λ_ _=>rfl)) (aj (cC (di (K:=K) rfl) (pv 4) aW (λ_ _=>rfl)) (aj (cC (di (K:=K) rfl) (pv 4) aW (λ_ _=>rfl)) aD))))));walk_at "tG";walk_at "tB";exact λ_=>rfl;walk_at "m";walk_at "x";walk_at "tS";walk_at "s";ac_rfl;refine dU (ar.of hc) ?_;rw [aac,S9];by_cases hz:rs=[]
   . subst hz;ac_rfl;rename_i l nl;exact q l [] [] _ (ae nl) nl aa ⟨rfl,λi oe e=>by simp at e⟩ ⟨rfl,λz=>absurd z (abB 0)⟩
   . have U6 : 0 < rs.length := List.length_pos_iff.mpr hz;ac_rfl;refine dU (ar.of hc) ?_;rw [aac,S9];ac_rfl;rw [aaD];refine eE (λi ys Z H1=>(∃ v,Z = [v,some (V.ref c),some (V.ref d)])/\ao H H1/\∃ T8:List Addr,ys=T8.map V.ref/\T8.length=i/\∀ (j:Nat) (p:Addr),T8[j]? = some p->H1 p=some (.lst ((dB rs ls j).map V.int))) ⟨⟨_,rfl⟩,ao.refl _,[],rfl,rfl,λj p e=>by simp at e⟩ ?_ ?_ ?_
     . rintro i ys Z H1 hi ⟨_,_,T8,rfl,e,_⟩;rw[aac,e,aaI];lia
     . rintro i ys Z H1 hi ⟨⟨v,rfl⟩,s1,T8,rfl,hl,hw⟩;ac_rfl;refine ⟨c,d,i,prs,rs,ls,by rw [Int.zero_add],s1 _ _ hc,Tq.same s1,aA,s1 _ _ hd,Tf.1,hi,λp H2 s2 np hp=>?_⟩;refine ⟨⟨_,rfl⟩,s1.trans s2,T8++[p],by rw [aaE];rfl,by rw [aab,hl];rfl,λj p' e=>?_⟩;by_cases hj:j<i
       . rw[aas (by lia)] at e;exact s2 _ _ (hw j p' e)
       . rw[aaq (by lia)] at e;cases hjj:j - T8.length with
         | zero =>
           rw[hjj] at e
           have:p=p':=by simpa using e
           subst this;rw[show j=i by lia];exact hp
         | succ m=>rw[hjj] at e;simp at e
     rintro ys Z H1 ⟨_,s1,T8,rfl,hl,hw⟩ ly nly;have s2:=s1.trans (ae (o:=.lst (T8.map V.ref)) nly);have hwy:qL (upd H1 ly (.lst (T8.map V.ref))) ly rs ls:=⟨T8,aa,hl,λi p e=>ai (hw i p e) nly⟩
     generalize (upd H1 ly (.lst (T8.map V.ref)))=H2 at s2 hwy ⊢;clear s1 nly hl hw;obtain⟨qs',Tj,hst2⟩:=T.lI;ac_rfl;refine⟨c,ly,prs,rs,ls,rfl,s2 _ _ hc,Tq.same s2,aA,U6,To,Tf,hwy,λhb H' s'=>qe ⟨U6,hb⟩ _ (s2.trans s'),λlh hs H3 s3 VH hlh hO=>?_⟩;have s23:=s2.trans s3;have hwy3:=hwy.same s3;clear s2 hwy s3 VH;ac_rfl;refine⟨a.jk,⟨0,128,16,32,64⟩,rfl,⟨qs',Tj _,hst2 _⟩,λtt TK=>?_⟩;have s4:=s23.trans (ae (o:=.tup (abX V.int (Ent.mk 0 128 16 32 64).dI)) TK);have T5:=ai (o:=.tup (abX V.int (Ent.mk 0 128 16 32 64).dI)) hlh TK;have hwy4:=hwy3.same (ae (o:=.tup (abX V.int (Ent.mk 0 128 16 32 64).dI)) TK);have htt:(upd H3 tt (.tup (abX V.int (Ent.mk 0 128 16 32 64).dI))) tt=some (.tup (firstsD.map λf:Nat=>V.int (f:Int))):=aa;generalize (upd H3 tt (.tup (abX V.int (Ent.mk 0 128 16 32 64).dI)))=H4 at s4 T5 hwy4 htt ⊢;clear TK s23;ac_rfl;refine zf (xs:=firstsD.map λf:Nat=>V.int (f:Int)) (λi ys Z H5=>(∃ v,Z = [v,some (V.ref c),some (V.ref ly),some (V.ref lh)])/\ao H4 H5/\∃ ps:List Addr,ys=ps.map V.ref/\ps.length=i/\∀ (j:Nat) (p:Addr) (f:Nat),ps[j]? = some p->firstsD[j]? = some f->∃ ss,H5 p=some (.lst (ss.map cA))/\qk rs ls hs f ss) ⟨⟨_,rfl⟩,ao.refl _,[],rfl,rfl,λj p f e=>by simp at e⟩ ?_ ?_ ?_
     . rintro i ys Z H5 hi ⟨_,s5,ps,rfl,e,_⟩;refine⟨aI.of (s5 _ _ htt),?_⟩
       have:i<=4:=hi
       rw[aac,e,aaI];lia
     . rintro i x ys Z H5 hx ⟨⟨v,rfl⟩,s5,ps,rfl,hl,hps⟩;rw[aah] at hx;obtain⟨f,hf,rfl⟩:=Option.map_eq_some_iff.mp hx;have hfb:f<2 ^ 4100:=by
         have hm:=aak hf
         have:f<=128:=by
           simp only[firstsD,aaP,aaR,or_false] at hm
           lia
         exact abk this (by decide)
       have s45:=s4.trans s5;ac_rfl;refine⟨c,ly,lh,prs,rs,ls,hs,f,rfl,s45 _ _ hc,Tq.same s45,aA,U6,To,Tf,hwy4.same s5,s5 _ _ T5,hO,hfb,λp ss H6 s6 np hp hP=>?_⟩;refine⟨⟨_,rfl⟩,s5.trans s6,ps++[p],by rw[aaE];rfl,by rw[aab,hl];rfl,λj p' f' e ef=>?_⟩;by_cases hj:j<i
       . rw[aas (by lia)] at e;obtain⟨ss',e1,e2⟩:=hps j p' f' e ef;exact⟨ss',s6 _ _ e1,e2⟩
       . rw[aaq (by lia)] at e;cases hjj:j - ps.length with
         | zero =>
           rw[hjj] at e
           have:p=p':=by simpa using e
           subst this;obtain rfl:j=i:=by lia
           rw[hf] at ef;cases ef;exact⟨ss,hp,hP⟩
         | succ m=>rw[hjj] at e;simp at e
     rintro ys Z H5 ⟨_,s5,ps,rfl,hl,hps⟩ lf Vu;obtain⟨p0,p4,p5,p6,rfl⟩:∃ p0 p4 p5 p6,ps=[p0,p4,p5,p6]:=by
       match ps,hl with
       | [p0,p4,p5,p6],_=>exact⟨_,_,_,_,rfl⟩
     obtain⟨sb,hb,Pb⟩:=hps 0 p0 128 rfl rfl;obtain⟨s4',h4,P4⟩:=hps 1 p4 16 rfl rfl;obtain⟨s5',h5,P5⟩:=hps 2 p5 32 rfl rfl;obtain⟨s6',h6,P6⟩:=hps 3 p6 64 rfl rfl;have sn:=ae (o:=.lst ([p0,p4,p5,p6].map V.ref)) Vu;have Vg:(upd H5 lf (.lst ([p0,p4,p5,p6].map V.ref))) lf=some (.lst [V.ref p0,V.ref p4,V.ref p5,V.ref p6]):=aa;have s6:=(s4.trans s5).trans sn;have hlh6:=sn _ _ (s5 _ _ T5);have hb6:=sn _ _ hb;have h46:=sn _ _ h4;have h56:=sn _ _ h5;have h66:=sn _ _ h6;generalize (upd H5 lf (.lst ([p0,p4,p5,p6].map V.ref)))=H6 at s6 Vg hlh6 hb6 h46 h56 h66 ⊢;clear hps sn hb h4 h5 h6 Vu s5 s4 T5 hwy4 htt hwy3 hlh;ac_rfl
     with_reducible refine Oc ?_
     ac_rfl;rename_i le Uh;have V1:∀ {b:Addr} {o:HO},H6 b=some o->b≠le:=λe z=>by subst z;rw[Uh] at e;cases e
     have sn:=ae (o:=.lst []) Uh;refine⟨lh,p0,p4,p5,p6,_,_,_,_,_,rfl,ar.of (sn _ _ hlh6),ar.of (sn _ _ hb6),ar.of (sn _ _ h46),ar.of (sn _ _ h56),ar.of (sn _ _ h66),?_⟩;have nleH:H le=none:=aG s6 Uh;have S7:=hO.len
     refine Hz (by rw [aac, aac, Pb.pi.len, S7]) (by rw [aac, aac, P4.pi.len, S7]) (by rw [aac, aac, P5.pi.len, S7]) (by rw [aac, aac, P6.pi.len, S7])
       (λi Z HD=>ao H6 HD/\∃ (ev:List V) (u1 u2 u3 u4 u5:Option V),Z = [some (V.ref c),some (V.ref d),some (V.ref ly),some (V.ref lh),some (V.ref lf),some (V.ref le),u1,u2,u3,u4,u5]/\HD le=some (.lst ev)/\nH HD ev ((ab_ i).map (gO hs sb s4' s5' s6')))
       ⟨sn,[],_,_,_,_,_,rfl,aa,nH.nil⟩ (λi Z HD hi ⟨s,_⟩=>⟨ar.of (s _ _ hlh6),ar.of (s _ _ hb6),ar.of (s _ _ h46),ar.of (s _ _ h56),ar.of (s _ _ h66)⟩) ?_ ?_
     . rintro i x1 x2 x3 x4 x5 tn Z HD e1 e2 e3 e4 e5 ⟨s,ev,u1,u2,u3,u4,u5,rfl,Tr,hE⟩ nT;rw[aah] at e1 e2 e3 e4 e5;obtain⟨oh,f1,rfl⟩:=Option.map_eq_some_iff.mp e1;obtain⟨ob,f2,rfl⟩:=Option.map_eq_some_iff.mp e2;obtain⟨o4,f3,rfl⟩:=Option.map_eq_some_iff.mp e3;obtain⟨o5,f4,rfl⟩:=Option.map_eq_some_iff.mp e4;obtain⟨o6,f5,rfl⟩:=Option.map_eq_some_iff.mp e5;clear e1 e2 e3 e4 e5;have hi:i<hs.length:=(List.getElem?_eq_some_iff.mp f1).1;have hz:ev.length<aal:=by
         rw[hE.1,aac,List.length_range,aaI];lia
       have hr:(ab_ (i+1)).map (gO hs sb s4' s5' s6')=(ab_ i).map (gO hs sb s4' s5' s6')++[gO hs sb s4' s5' s6' i]:=by
         rw[List.range_succ,aaE];rfl
       have hnT:tn≠le:=λz=>by subst z;rw[Tr] at nT;cases nT
       have Wv:(upd HD tn (.tup [bM oh,cA ob,cA o4,cA o5,cA o6])) le=some (.lst ev):=ai Tr nT;have sT:=s.trans (ae (o:=.tup [bM oh,cA ob,cA o4,cA o5,cA o6]) nT);have hET:=hE.to (H':=upd HD tn (.tup [bM oh,cA ob,cA o4,cA o5,cA o6])) (λb xs e=>ai e nT);cases oh with
       | none =>
         have U1:gO hs sb s4' s5' s6' i=none:=by unfold gO;rw[f1];rfl
         simp only[bM] at Wv sT hET ⊢;ac_rfl;refine sW Wv hz ?_;refine⟨bA sT Uh,ev++[V.aC],_,_,_,_,_,rfl,aa,?_⟩;rw[hr,U1];exact(hET.to (qo Wv)).snoc rfl
       | some h =>
         obtain⟨b,g2⟩:=za hO Pb f1;obtain⟨b4,g3⟩:=za hO P4 f1;obtain⟨b5,g4⟩:=za hO P5 f1;obtain⟨b6,g5⟩:=za hO P6 f1;rw[f2] at g2;rw[f3] at g3;rw[f4] at g4;rw[f5] at g5;cases g2;cases g3;cases g4;cases g5
         have U1:gO hs sb s4' s5' s6' i=some ⟨h,b,b4,b5,b6⟩:=by
           unfold gO gN;rw[f1,f2,f3,f4,f5];rfl
         simp only[bM,cA] at Wv sT hET ⊢;ac_rfl;rename_i tq ntq tp ntp;have k1:=ai (o:=.tup [V.int (b4:Int),V.int (b5:Int),V.int (b6:Int)]) Wv ntq;have k2:=ai (o:=.tup [V.int h,V.int (b:Int),V.ref tq]) k1 ntp;have s1:=sT.trans ((ae (o:=.tup [V.int (b4:Int),V.int (b5:Int),V.int (b6:Int)]) ntq).trans (ae (o:=.tup [V.int h,V.int (b:Int),V.ref tq]) ntp));refine sW k2 hz ?_;refine⟨bA s1 Uh,ev++[V.ref tp],_,_,_,_,_,rfl,aa,?_⟩;rw[hr,U1];refine((hET.to (λb xs e=>ai (ai e ntq) ntp)).to (qo k2)).snoc ⟨tp,tq,rfl,qo k2 _ _ aa,qo k2 _ _ (ai aa ntp)⟩
     . rintro Z HD ⟨s,ev,u1,u2,u3,u4,u5,rfl,Tr,hE⟩;ac_rfl;refine q le ev _ HD (s6.trans s) nleH Tr hE.ents ⟨?_,λ_=>⟨hs,sb,s4',s5',s6',⟨hO,Pb,P4,P5,P6⟩,λi hi=>?_⟩⟩
       . rw[aac,List.length_range,aac,S7]
       . rw[aah,List.getElem?_range (by rw[aac,S7];exact hi)];rfl
theorem Jf {K:W.Frag}{b:Addr}{g:TG}{tb:TS}{D:Ends}(Pv:Nat->L2.St->Hp->Prop)(h0:Pv 0 Z H)(hl:∀ i Z H,i<=xs.length->Pv i Z H->ar K H b xs)
   (hs:∀ i x T Z H,xs[i]? = some x->Pv i Z H->H T=none->g (.ref T) Z (upd H T (.tup [.int ((i:Int)+1),x])) λZ2 H2=>tb { D with nx:=Pv (i+1),ct:=Pv (i+1),bk:=D.nx } Z2 H2) (hd:∀ Z H,Pv xs.length Z H->D.nx Z H):zO (Kq K b) g tb D Z H:=by
 refine⟨λi m Z H=>m=xs.length - i/\i<=xs.length/\Pv i Z H,⟨xs.length,by simp,aaT _,h0⟩,?_⟩;rintro i m Z H ⟨rfl,hi,p⟩;have q1:=hl i Z H hi p;by_cases Tb:i<xs.length
 . refine .inr ⟨⟨xs, xs[i], q1, by simp[Tb]⟩, Pv (i + 1), λZ' H' p' => ⟨xs.length - (i + 1), by omega, rfl, Tb, p'⟩, λx H' y => ?_⟩;obtain⟨T,x',rfl,hT,rfl,hxy⟩:=y;exact hs i x' T Z H (hxy _ q1) p hT
 . have e : i = xs.length := by omega
   subst e;exact .inl ⟨⟨xs,q1,aag _⟩,hd Z H p⟩
theorem aZ.at2:∀ {vs:List V} {cs:List bK} {i:Nat} {v:V},aZ H vs cs->vs[i]? = some v->∃ c,cs[i]? = some c/\iQ H v c
 | [],cs,i,v,_,e=>by simp at e
 | u::vs,[],i,v,h,_=>h.elim
 | u :: vs, c :: cs, 0, v, h, e => by
   cases e
   exact⟨c,rfl,h.1⟩
 | u::vs,c::cs,i+1,v,h,e=>aZ.at2 (vs:=vs) (cs:=cs) (i:=i) h.2 (by simpa using e)
theorem vF (T:TX):ME 5 a.ax "drop" (NS K a):=by
 refine aB 4 T.cu T.vZ gL ?_ ?_;ac_nf
 . obtain⟨m, pk, pt, v, S, es, kvs, rfl, MM, O, TT, LO, Tb, Uc, q⟩ := h;obtain⟨ev,TI,EV⟩:=id TT;obtain⟨dx,pc,ph,pl,fs,prs,cs,M⟩:=id MM;obtain⟨dt,l,d,ht,hl,hd,WR⟩:=id TI;have f1:=M.f.av;have f2:=M.f.held;have f3:=M.f.cells;have f5:=M.f.aS;have f6:=M.f.table;have fl:=M.f.len;have fn:=M.f.no;have hm:=M.hm;have hh:=M.hh;have Tf:=M.hl;have hmany:=O.many;have ha0:=O.fJ;have hwl:=A3 5000 S.av (S.held.map V.int) S.cells (es:=es);have hwv:=O.walk es;unfold MS.walk at hwv;unfold MS.dropped at q;walk_at"h";have nd:=gL.nd;refine' aV ?_ ?_
   exact (HV rfl rfl rfl (LL (i := 2) gL.nd rfl (Or.inl rfl) (KP (vw T) (hr.mono (by decide)) rfl (aj (cD (K := K) rfl (pv 0)) (aj (cD (K := K) rfl (pv 0)) (aj (cD (K := K) rfl (pv 0)) (aj (cD (K := K) rfl (pv 0)) aD)))))) T.xo.choose_spec rfl (λea => (aV (wx (K := K) rfl (pv 0) gA)
     (fv Dd))))
   walk_at"n";walk_at"g";exact(Mg (K:=K) rfl rfl T.BZ (aj (pv 2) aD) aW);walk_at"tG";walk_at"m";walk_at"f";exact(PW.pt (mG (dO (mj (K:=K) rfl hr.units) (cC (di (K:=K) rfl) (pv 4) aW (λ_ _=>rfl)) (cD (K:=K) rfl (pv 0)) (d9 _)) (mq (zw (A5 (jf hr) (cT l7 (cC (di (K:=K) rfl) (pv 4) aW (λ_ _=>rfl)) aW) (cD (K:=K) rfl (cD (K:=K) rfl (pv 0))))))));walk_at"tB";exact cL;exact λ_=>rfl;walk_at"c";walk_at"m";walk_at"tS";walk_at"s";symm;refine⟨pt,dt,l,d,ph,pl,S.av,ev,es,S.held.map V.int,S.cells,rfl,ht,hl,EV,ar.of hh,O.kn,ar.of Tf,O.pl,⟨by lia,by lia⟩,λhW p us H1 s1 np hp Vh=>?_,λr hW d1 H1 s1 Vy=>⟨rfl,d1,rfl,?_⟩⟩
   . rw [hW] at q;dsimp only at q;have UC:=s1 _ _ hm;have M1:=M.to s1;have Vy:=s1 _ _ hd;have ht1:=s1 _ _ ht;unfold fQ at ht1;generalize hcals:(bp es 5000 S.av (S.held.map V.int) S.cells).1=cals at q Vh hwl hwv;symm;refine ⟨p,us,rfl,rfl,ar.of hp,?_⟩;refine Jf (xs:=us) (λi Z H2=>(∃ u w,Z = [some (.ref m),some (.int v),some (.ref p),u,w])/\ao H1 H2/\∀ j c,j<i->cals[j]? = some c->landAt S.rows.length kvs c=false) ⟨⟨_,_,rfl⟩,ao.refl _,λj c hj=>absurd hj (acg _)⟩ (λi Z H2 _ ⟨_,s,_⟩=>ar.of (s _ _ hp)) ?_ ?_
     . rintro i x T1 Z H2 hx ⟨⟨u,w,rfl⟩,s2,VN⟩ hT;obtain⟨c,hc,U7⟩:=aZ.at2 Vh hx;obtain⟨t,q',rfl,Vf,hq2⟩:=id U7;have T_:=s2 _ _ UC;have UM:=s2 _ _ Vy;have UW:=s2 _ _ ht1;have hq12:=s2 _ _ Vf;have inv:landAt S.rows.length kvs c=false->∀ j c',j<i+1->cals[j]? = some c'->landAt S.rows.length kvs c'=false:=λhf j c' hj e=>by
         rcases Nat.lt_or_ge j i with z | z
         . exact VN j c' z e
         . have : j = i := by lia
           subst this;rw[hc] at e;cases e;exact hf
       by_cases hr1:c.r=(S.rows.length:Int)
       . symm;exact⟨⟨_,_,rfl⟩,by walk_at"same",inv (by unfold landAt;rw[decide_eq_false (λz=>z hr1)];rfl)⟩
       . symm;refine Ee ?_;symm;refine Ab (by walk_at"hlk") ?_;cases hv:cP kvs (.inl (c.r - 1)) with
         | none =>
           symm;exact⟨⟨_,_,rfl⟩,by walk_at"same",inv (by unfold landAt;rw[hv,Bool.and_comm];rfl)⟩
         | some val =>
           obtain⟨n,rfl⟩:=LO _ _ hv;have hfi:cals.findIdx? (landAt S.rows.length kvs)=some i:=by
             rw[List.findIdx?_eq_some_iff_getElem];have hi:i<cals.length:=(List.getElem?_eq_some_iff.mp hc).1;have hci:cals[i]=c:=(List.getElem?_eq_some_iff.mp hc).2;refine⟨hi,?_,λj hj=>?_⟩
             . rw[hci];unfold landAt;rw[hv,decide_eq_true hr1];rfl
             . have hj' : j < cals.length := by lia
               have:=VN j cals[j] hj (aaa hj')
               rw[this];exact aap
           rw[hfi] at q;dsimp only at q;rw[hc] at q;dsimp only at q;have hln:vb kvs c=some n:=by unfold vb;rw[hv]
           rw[hln] at q;dsimp only at q;rw[adE];symm;refine aX (by walk_at"hlk") (fn _ (by nofun)) ((uU T).mono (by decide)) ?_;symm;have Uu:ao H (upd H2 T1 (.tup [.int ((i:Int)+1),.ref t])):=s1.trans (s2.trans (ae hT));refine⟨m,pk,pt,t,v,n,i+1,c,S,es,kvs,rfl,MM.to Uu,O,TT.same Uu,(U7.same s2).same (ae hT),(hwv c (aak hc)).2.2.2,Uc,hv,λH' k M'=>?_⟩;symm;exact q H' ((aP.of_same Uu).trans k) M'
     . rintro Z H2 ⟨⟨u,w,rfl⟩,s2,VN⟩;have T_:=s2 _ _ UC;have hfi:cals.findIdx? (landAt S.rows.length kvs)=none:=by
         rw[List.findIdx?_eq_none_iff];intro c hc;obtain⟨j,hj,e⟩:=List.mem_iff_getElem.mp hc;have S7:=Vh.len;exact VN j c (by lia) (by rw[aaa hj,e])
       rw[hfi] at q;symm;rw[iB];exact q _ (aP.ny (aP.of_same (s1.trans s2))) ⟨dx,pc,ph,pl,_,prs,cs,(M1.to s2).xg aP.refl T_ (M1.to s2).hh (M1.to s2).hl (M1.to s2).hk ((M1.to s2).clsAt aP.refl) M.n2 M.n3 ((M.f.setState _).O2 _)⟩
   . rw[hW] at q;have UC:=s1 _ _ hm;symm;exact q _ (aP.ny (aP.of_same s1)) (M.qP s1 _)
theorem BP (T:TX):FE 5 "_law_held" (hJ K a):=by
 refine ba 4 T.BK kY ?_ ?_;ac_nf
 . obtain⟨m, t, lb0, pk, pt, S, es, ls, us, rfl, MM, O, ⟨ev, TI, EV⟩, hb, hcb, R, hc, q⟩ := h;obtain⟨dx,pc,ph,pl,fs,prs,cs,M⟩:=id MM;obtain⟨dt,l,d,ht,hl,hd,WR⟩:=TI;have f1:=M.f.av;have f2:=M.f.held;have f3:=M.f.cells;have fn:=M.f.no;have hm:=M.hm;have hh:=M.hh;have Tf:=M.hl;have ha0:=O.fJ;have hmany:=O.many;have hW:=w_ R O hc;have Vz:=zP R.act;have hrl:=R.lb.len;walk_at"h";have nd:=kY.nd;refine' aV ?_ ?_;exact(c8 (i:=3) kY.nd rfl (Or.inl rfl) (bj (vw T) (hr.mono (by decide)) Hy rfl (aj (pv 1) (aj (kN (P:=P) (w:=w) (K:=K) (mg:=mg) (base:=base) (k:=1) ⟨rfl,rfl,rfl,rfl,rfl⟩ (pv 0) (hr.mono (by decide)) b_) (aj (kN (P:=P) (w:=w) (K:=K) (mg:=mg) (base:=base) (k:=1) ⟨rfl,rfl,rfl,rfl,rfl⟩ (pv 0) (hr.mono (by decide)) b_) (aj (kN (P:=P) (w:=w) (K:=K) (mg:=mg) (base:=base) (k:=1) ⟨rfl,rfl,rfl,rfl,rfl⟩ (pv 0) (hr.mono (by decide)) b_) aD))))));walk_at"m";walk_at"tS";walk_at"s";symm;refine aX hm (fn _ (by nofun)) ((nP T).mono (by decide)) ?_;symm;refine⟨m,dx,fs,_,rfl,hm,f1,?_⟩;symm;refine aX hm (fn _ (by nofun)) ((jM T).mono (by decide)) ?_;symm;refine⟨m,dx,ph,fs,_,rfl,hm,f2,hh,λlb nlb=>?_⟩;symm;refine aX (ai hm nlb) (fn _ (by nofun)) ((kI T).mono (by decide)) ?_;symm;refine⟨m,dx,pl,fs,_,rfl,ai hm nlb,f3,ai Tf nlb,λlp VG=>?_⟩;symm;have s0:ao H (upd (upd H lb (.lst (S.held.map V.int))) lp (.lst (S.cells.map V.int))):=(ae nlb).trans (ae VG);refine⟨t,dt,l,d,lb,lp,S.av,ev,es,S.held.map V.int,S.cells,rfl,s0 _ _ ht,s0 _ _ hl,EV.same s0,ar.of (ai aa VG),O.kn,ar.of aa,O.pl,⟨by lia,by lia⟩,λ_ p W_ H1 s1 np hp Vh=>?_,λr hr=>by rw[hW] at hr;cases hr⟩;rw[hW] at Vh;have Vh:aZ H1 W_ S.bk:=Vh;have S1:=s0.trans s1;have hb1:=S1 _ _ hb;have hcb1:=hcb.same S1;have UC:=S1 _ _ hm;have hk1:=S1 _ _ M.hk;have hcl1:ClsAt H1 cs S.calls:=M.calls.to λb xs e=>S1 _ _ e;have f4:=M.f.calls;clear s0 s1 nlb VG hb hcb;symm;refine Kr (.list (S.bk.map mM)) (ju (ar.of hp) Vh.dp) (ju (ar.of hb1) hcb1.dp) (r6 _) ?_;symm;refine aX UC (fn _ (by nofun)) ((vq T).mono (by decide)) ?_;symm;refine⟨m,dx,pk,fs,cs,rfl,UC,f4,hk1,λl9 n9=>?_⟩;symm;have s9:ao H1 (upd H1 l9 (.lst cs.reverse)):=ae n9;refine Kr (.list (S.bk.map mM)) (ju (ar.of aa) (by rw[QE];exact(hcl1.rev.to λb xs e=>s9 _ _ e).dp)) (ju (ar.of (s9 _ _ hb1)) (hcb1.same s9).dp) (r6 _) ?_;exact q _ (S1.trans s9)
theorem cy.to {cs:List Cm}(h:cy H vs cs)(s:∀ b xs,H b=some (.tup xs)->H' b=some (.tup xs)):cy H' vs cs:=⟨h.1,λk o e=>let ⟨v,e1,q,e2,e3⟩:=h.2 k o e;⟨v,e1,q,e2,s _ _ e3⟩⟩
theorem Lp {D PP:Addr->Hp->Prop}{G:Prop}(key:∀ lf H3,D lf H3->PP lf H3)(use:(∀ lf H3,D lf H3->PP lf H3)->G):G:=use key
theorem Am {HX:Hp}{R:Hp->Prop}{b:Addr}{cs:List Cm}(h:ao H HX)(hb:HX b=some (.lst xs))(hc:cy HX xs cs)(k:∀ H9,ao H H9->H9 b=some (.lst xs)->cy H9 xs cs->R H9):R HX:=k HX h hb hc
variable {l:Addr}
theorem wN (h:H l=some (.lst ys))(b:Addr)(xs:List V)(e:H b=some (.tup xs)):(upd H l o) b=some (.tup xs):=by
 rw[ak (λz=>by subst z;rw[h] at e;cases e)];exact e
theorem uw (T:TX):FE 6 "checked" (wI K a):=by
 refine ba 5 T.D2 mQ ?_ ?_;ac_nf
 . obtain ⟨c, t, prs, rs, ev, es, ls, rfl, hc, Tq, ⟨dt, l, d, ht, hl, hd⟩, Tr, E', UI, h64, q⟩ := h;have S9:=Tq.1;have hel:=Tr.1;have en:=E'.ne;have rn:=E'.nr;unfold fQ at ht;walk_at "h";have nd:=mQ.nd;refine' aV ?_ ?_;walk_at "tS";walk_at "c";walk_at "c";walk_at "c";walk_at "n";walk_at "g";walk_at "tI";walk_at "tG";walk_at "m";exact (f7 (Ac (K:=K) rfl abG PySem.F.slot_list_extend PySem.F.type_list_extend Ha (pv 3) (aj (bj (qZ T) (hr.mono (by decide)) b_ rfl (aj (pv 0) (aj (pv 2) (aj (pv 4) aD)))) aD)));exact λ_=>rfl;walk_at "n";walk_at "g";exact (dP (K:=K) rfl (cJ (A9 rfl) rfl T.IB IG (aj (cD (K:=K) rfl (pv 1)) aD)));walk_at "tG";walk_at "n";exact (c8 (i:=5) mQ.nd rfl (Or.inl rfl) (wW (jf hr) (cD (K:=K) rfl (pv 1)) (pv 4) (λ_ _=>rfl)));walk_at "c";walk_at "m";walk_at "tS";exact λ_=>rfl;walk_at "m";walk_at "tS";walk_at "s";symm;rw [show (abX V.ref prs).length=rs.length from by rw [aac,S9]];refine gP (λhh=>?_) (λhh=>?_)
   . symm;rename_i t1 Vt l1 US;have hck:dG rs es ls []=[⟨-1,-1,.length⟩]:=by unfold dG;rw [if_neg (by lia)]
     exact q l1 [.ref t1] [] _ (by walk_at"same") aa (λz=>absurd z (by lia)) (by rw[hck];exact cy.one ⟨t1,rfl,by bv_omega⟩)
   have hre:es.length=rs.length:=by lia
   have hck:∀ ks,dG rs es ls ks=dF rs es++gE rs es rs.length++js rs es ls ks:=λks=>by unfold dG;rw[if_pos hre]
   refine' Lp (D:=λlcm H1=>∃ us,H lcm=none/\ao H H1/\H1 lcm=some (.lst us)/\cy H1 us (dF rs es)) (PP:=?PP) ?key (λkk=>?use)
   case use =>
     symm;rename_i lcm V8;refine cR (λh1=>?_) (λh1=>?_)
     . have h1' : 0 < rs.length := by rw [aac] at h1; lia
       obtain⟨v,oe,T3,Ug,hmem,hv⟩:=Tr.at (c:=0) (acJ _) (by lia)
       obtain⟨qs,st1,st2⟩:=T.lI;symm;refine QD oe mC (hv.same (ae V8)).dp (AL (st1 _) (st2 _)) ?_;have Ug:es[0]? = some oe:=Ug;have Tj:dF rs es=if kM oe mC=true then [] else [⟨-1,0,.start⟩]:=by unfold dF;rw[if_pos h1',Ug];rfl
       cases hb:kM oe mC with
       | true =>
         rw[hb,if_pos rfl] at Tj;ac_rfl;refine dU (ar.of (by walk_at"hlk")) ?_;clear h1 h1' T3 Ug;symm;refine Am (H:=H) (b:=lcm) (cs:=dF rs es) (by walk_at"same") aa (by rw[Tj];exact cy.nil) (λH9 s9 hb9 hc9=>?_);exact kk lcm H9 ⟨_,V8,s9,hb9,hc9⟩
       | false =>
         rw[hb,if_neg (by decide)] at Tj;ac_rfl;rename_i t1 Vt;refine dU (ar.of (by walk_at"hlk")) ?_;clear h1 h1' T3 Ug;symm;refine Am (H:=H) (b:=lcm) (cs:=dF rs es) (by walk_at"same") aa ?_ (λH9 s9 hb9 hc9=>?_)
         . rw[Tj];exact(cy.one ⟨t1,rfl,aa⟩).to (wN (by walk_at"hlk"))
         . exact kk lcm H9 ⟨_,V8,s9,hb9,hc9⟩
     . have Tj : dF rs es = [] := by unfold dF; rw [if_neg (by rw [aac] at h1; lia)]
       symm;refine Am (H:=H) (b:=lcm) (cs:=dF rs es) (by walk_at"same") aa (by rw[Tj];exact cy.nil) (λH9 s9 hb9 hc9=>?_);exact kk lcm H9 ⟨_,V8,s9,hb9,hc9⟩
   case key =>
     rintro lcm H1 ⟨us,V8,s1,hlc,VP⟩;have sf:=Ez rs es;refine fY (λi Z H2=>(∃ u1 u2 u3,Z = [some (.ref c),some (.ref t),some (.ref l),some (.ref lcm),u1,u2,u3])/\ao H H2/\∃ us,H2 lcm=some (.lst us)/\cy H2 us (dF rs es++gE rs es i)) ⟨⟨_,_,_,rfl⟩,s1,us,hlc,by rw[show gE rs es 0=[] from rfl,aaL];exact VP⟩ ?_ ?_
     . rintro i Z H2 hi ⟨⟨u1,u2,u3,rfl⟩,s2,us2,UN,Uz⟩;rw[aac] at hi;clear s1 hlc VP;symm;refine⟨c,l,i,prs,rs,ev,es,by rw[Int.zero_add],s2 _ _ hc,Tq.same s2,s2 _ _ hl,Tr.same s2,E',by lia,hre.symm,λp1 W_ H3 s3 Ub hcm3 np1=>?_⟩;have VT:=s3 _ _ UN;have hcl2:=Uz.1;have hcl3:=hcm3.1;have f1:=mV rs es i;have f2:=xC rs es i;rw[aab] at hcl2;symm;refine Jx VT Ub (by rw[aaI];lia) ?_;refine⟨⟨_,_,_,rfl⟩,λb o e=>by rw[ak (ag e V8)];exact(s2.trans s3) b o e,_,aa,?_⟩;rw[su,<- aco];exact((Uz.same s3).app hcm3).to (wN VT)
     rintro Z H2 ⟨⟨u1,u2,u3,rfl⟩,s2,us2,UN,Uz⟩;rw[show(((abX V.ref prs).length:Nat):Int).toNat=rs.length from by rw[aac,S9];lia] at Uz;clear s1 hlc VP;have UW:=s2 _ _ ht;have UM:=s2 _ _ hd;have f1:=mV rs es rs.length;symm;refine L4 UM (GQ ls) (by rw[aac];exact h64) λks pp WD hpw hpp=>?_;have hkl:ks.length<64:=by rw[WD.length_eq,aac];exact h64
     symm;refine eZ (K:=K) (a:=pp) (xs:=ks.map V.int) (λi Z H4=>(∃ u1 u2 u3,Z = [some (.ref c),some (.ref t),some (.ref l),some (.ref lcm),u1,u2,u3])/\ao H H4/\H4 pp=some (.lst (ks.map V.int))/\∃ us,H4 lcm=some (.lst us)/\us.length<=21000+i/\cy H4 us (dF rs es++gE rs es rs.length++js rs es ls (ks.take i))) ⟨⟨_,_,_,rfl⟩,s2.trans (ae hpp),aa,us2,ai UN hpp,by rw[Uz.1,aab];lia,by rw[List.take_zero,show js rs es ls []=[] from rfl,aaL];exact Uz.same (ae hpp)⟩ (λi Z H4 _ ⟨_,_,h4,_⟩=>ar.of h4) ?_ ?_
     . rintro i v Z H4 hvi ⟨⟨u1,u2,u3,rfl⟩,s4,hpp4,us4,hlc4,hul4,hcm4⟩;obtain⟨k,hk,rfl⟩:∃ n,ks[i]? = some n/\v=.int n:=by
         rw[aah] at hvi;obtain⟨p,hp,e⟩:=Option.map_eq_some_iff.mp hvi;exact⟨p,hp,e.symm⟩
       have hi:i<ks.length:=(List.getElem?_eq_some_iff.mp hk).1;obtain⟨kv,hkv,hke⟩:=List.mem_map.mp (WD.mem_iff.mp (aak hk));obtain⟨hv1,hv2⟩:=g6 UI kv hkv;rw[hke] at hv1 hv2;rw[<- hv2] at hv1;have ht4:=s4 _ _ ht;have hd4:=s4 _ _ hd;have hnp:pp≠lcm:=λz=>by rw[z] at hpp;rw[UN] at hpp;cases hpp
       clear UW UM UN Uz s2;have htk:js rs es ls (ks.take (i+1))=js rs es ls (ks.take i)++((mS rs es k (lv ls k)).map λw=>Cm.mk k (lv ls k) w).toList:=by
         unfold js;rw[abF,hk,abx,List.flatMap_append];simp
       rw[htk];symm;refine As ?_;symm;have dg:=gH.k (k:=.inl k) hd4;rw[hv1] at dg;refine⟨d,_,rfl,dg,?_⟩;symm;refine⟨c,l,k,lv ls k,prs,rs,ev,es,rfl,s4 _ _ hc,Tq.same s4,s4 _ _ hl,Tr.same s4,E',hre.symm,λH5 s5=>?_⟩;have Wq:=s5 _ _ hlc4;have hcm5:=hcm4.same s5;have s05:=s4.trans s5;have hpp5:=s5 _ _ hpp4;cases hw:mS rs es k (lv ls k) with
       | none =>
         show be 6 V.aC _ _ _;symm;exact⟨⟨_,_,_,rfl⟩,s05,hpp5,us4,Wq,by lia,by show cy _ _ (_++(_++[]));rw[aaL];exact hcm5⟩
       | some w =>
         show be 6 w.v _ _ _;symm;rename_i t1 Vt;refine⟨⟨_,_,_,rfl⟩,λb o e=>by rw[ak (ag e V8)];exact(s05.trans (ae Vt)) b o e,by rw[ak hnp];exact ai hpp5 Vt,_,aa,by rw[aab];show _+1<=_;lia,?_⟩;rw[<- aco];exact((hcm5.same (ae Vt)).app (cy.one (c:=⟨k,lv ls k,w⟩) ⟨t1,rfl,aa⟩)).to (wN (ai Wq Vt))
     . rintro Z H4 ⟨⟨u1,u2,u3,rfl⟩,s4,hpp4,us4,hlc4,hul4,hcm4⟩;rw[aac,aa0] at hcm4;symm;exact q lcm us4 ks H4 s4 hlc4 (λ_=>⟨WD,hpw⟩) (by rw[hck];exact hcm4)
theorem uK (T:TX):ME 6 a.ax "step" (Lf K a):=by
 refine aB 5 T.cu T.wB kr ?_ ?_;ac_nf
 . obtain⟨m, pk, pt, S, es, kvs, rfl, MM, O, TT, LO, Uc, q⟩ := h;obtain⟨dx,pc,ph,pl,fs,prs,cs,M⟩:=id MM;have f0:=M.f.state;have f1:=M.f.av;have f2:=M.f.code;have f3:=M.f.held;have fn:=M.f.no;have hm:=M.hm;have hc:=M.hc;have hh:=M.hh;have h8:=O.h8;unfold MS.bV at q;walk_at"h";have nd:=kr.nd;walk_at"v";by_cases hs:V.str S.state=V.str "runs"
   . have V0 : S.state = "runs" := by injection hs
     rw[if_pos V0] at q;obtain⟨r,hr0,hmem⟩:=O.row V0;rw[hr0] at q;dsimp only at q;obtain⟨rok,rh0⟩:=O.ok r hmem;have a0:=O.fJ;have a1:=O.q_ V0;have hl:S.av.toNat<prs.length:=by rw[M.rows.1];lia
     have hp:prs[S.av.toNat]? = some prs[S.av.toNat]:=aaa hl;generalize prs[S.av.toNat]=p at hp;obtain⟨dxr,Te⟩:=M.rows.2 _ _ _ hp hr0;have T3:cZ (prs.map V.ref) S.av=some (.ref p):=by
       rw[show S.av=((S.av.toNat:Nat):Int) by lia];exact bF (by rw[aah,hp];rfl)
     symm;cases hD:r.dR with
     | false =>
       have rh:=rh0 hD;rw[CM hD] at q;obtain⟨t1,ty1,kd,_,_⟩:=wM T rh ⟨dxr,Te⟩
       with_reducible refine(?_:iU _ _ _ _)
       refine eX (λz=>by cases z) ty1 kd ?_;rw[hD];symm;refine aX hm (fn _ (by nofun)) ((yG T).mono (by decide)) ?_;symm;refine⟨m,p,pk,pt,r,S,rfl,MM,O,⟨dxr,Te⟩,hmem,hD,M.n4 p (aak hp),a1,Uc,λH' k M'=>?_⟩;symm;exact q H' k M'
     | true =>
       obtain⟨b,rfl⟩:∃ b,r=.drop b:=by cases r <;> first | exact⟨_,rfl⟩ | cases hD
       change H p=some (.ins a.bc dxr (au "box" (.int b) [])) at Te
       obtain⟨b0,b1⟩:aH b:=rok
       with_reducible refine(?_:iU _ _ _ _)
       refine eX (λz=>by cases z) (.ins Te T.fZ T.jh.1 T.eP T.eO T.jh.2) T.jw ?_;symm;refine aX hm (fn _ (by nofun)) ((vF T).mono (by decide)) ?_;symm;refine⟨m,pk,pt,gI S.held b,S,es,kvs,rfl,MM,O,TT,LO,a1,Uc,λH' k M'=>?_⟩;symm;exact q H' k M'
   . have V0 : ¬ S.state = "runs" := λz => hs (by rw[z]);rw[if_neg V0] at q;symm;exact q H aP.refl MM
theorem GS (T:TX):iE P w K mg base (eQ P w) 7 "guess" (w4 K a)/\Q2 P w K mg base (eQ P w) 7 "guess" (w4 K a):=by
 refine Lo 6 T.IU sO ?_ ?_;ac_nf
 . obtain ⟨c, lvv, prs, rs, ls, rfl, hc, Tq, aA, To, Tf, hlv, qe, q⟩ := h;walk_at "h";have nd:=sO.nd;refine' aV ?_ ?_;walk_at "x";walk_at "tS";walk_at "n";exact (c8 (i:=3) sO.nd rfl (Or.inl rfl) (zC (Al T) (hr.mono (by decide)) b_ rfl (aj (bj (yy T) (hr.mono (by decide)) lQ rfl (aj (pv 0) (aj (pv 2) aD))) (aj (pv 2) aD))));walk_at "n";walk_at "f";walk_at "y";walk_at "tT";walk_at "m";exact (ni T.iL rfl (aj gA aD));exact cL;walk_at "m";walk_at "x";walk_at "tS";walk_at "s";rcases hlv with ⟨rfl,rfl⟩ | ⟨d,rfl,hd⟩
   . ac_rfl;rename_i d nd;have s1:=ae (o:=.dK []) nd;have Vy:(upd H d (.dK [])) d=some (.dK (aw [])):=aa;generalize (upd H d (.dK []))=H1 at s1 Vy ⊢;have W6:=s1 _ _ hc;have hrs1:=Tq.same s1;ac_rfl;refine ⟨c,d,prs,rs,([]:List (Int×Int)),rfl,W6,hrs1,aA,To,Tf,Vy,λhb H' s'=>qe (.inl hb) _ (s1.trans s'),λle ev es H2 s2 Uh V1 Tr G=>?_⟩;have Uu:=s1.trans s2;have UM:=s2 _ _ Vy;clear Uh;ac_rfl;intro xt dxt V7 U4 nne;refine' uZ (kvs:=aw ([]:List (Int×Int))) (xs:=ev) V7 U4 ?h1 ?h2 ?q;(case h1=>exact ar.of V1)
     (case h2=>exact .inr ⟨d,rfl,UM⟩)
     (case q =>
       intro l8 d8 H8 s8 nl8 nd8 n12 nxl WK WN V2 hd8;refine⟨rfl,?_⟩;have s18:=Uu.trans s8;have nxtH:H xt=none:=aG Uu V7;have UP:=Tr.same s8;have nl8H:H l8=none:=aG Uu nl8;have nd8H:H d8=none:=aG Uu nd8;have Wj:TabOf K a H8 xt ev ([]:List (Int×Int)):=⟨dxt,l8,d8,WN,V2,hd8⟩
       clear s8 nl8 nd8 n12 nxl WK V7 U4 nne;ac_rfl;refine⟨c,xt,prs,rs,ev,es,([]:List (Int×Int)),rfl,s18 _ _ hc,Tq.same s18,Wj,UP,⟨aA,DU G,To,by rw[G.len];exact To⟩,Tf.1,Tf.2.1,λp us ks H9 s9 hp hks VP=>?_⟩;have Wr:=(hks G.len).1;ac_rfl;refine dU (ar.of hp) ?_;rw[VP.1];have s19:=s18.trans s9;by_cases hz:dG rs es ([]:List (Int×Int)) ks=[]
       . rw[hz];ac_rfl;exact q xt ev es ks H9 s19 nxtH ⟨dxt,l8,d8,nl8H,nd8H,s9 _ _ WN,s9 _ _ V2,s9 _ _ hd8⟩ (UP.same s9) G Wr hz
       . have : 0 < (dG rs es ([] : List (Int × Int)) ks).length := List.length_pos_iff.mpr hz;ac_rfl;refine jj ?_;ac_rfl;exact⟨by show 1<=1000;decide,qe (.inr ⟨es,ks,G,Wr,hz⟩) _ s19⟩)
   . have s1 := ao.refl H;have Vy:=hd;have W6:=s1 _ _ hc;have hrs1:=Tq.same s1;ac_rfl;refine ⟨c,d,prs,rs,ls,rfl,W6,hrs1,aA,To,Tf,Vy,λhb H' s'=>qe (.inl hb) _ (s1.trans s'),λle ev es H2 s2 Uh V1 Tr G=>?_⟩;have Uu:=s1.trans s2;have UM:=s2 _ _ Vy;clear Uh;ac_rfl;intro xt dxt V7 U4 nne;refine' uZ (kvs:=aw ls) (xs:=ev) V7 U4 ?h1 ?h2 ?q;(case h1=>exact ar.of V1)
     (case h2=>exact .inr ⟨d,rfl,UM⟩)
     (case q =>
       intro l8 d8 H8 s8 nl8 nd8 n12 nxl WK WN V2 hd8;refine⟨rfl,?_⟩;have s18:=Uu.trans s8;have nxtH:H xt=none:=aG Uu V7;have UP:=Tr.same s8;have nl8H:H l8=none:=aG Uu nl8;have nd8H:H d8=none:=aG Uu nd8;have Wj:TabOf K a H8 xt ev ls:=⟨dxt,l8,d8,WN,V2,hd8⟩
       clear s8 nl8 nd8 n12 nxl WK V7 U4 nne;ac_rfl;refine⟨c,xt,prs,rs,ev,es,ls,rfl,s18 _ _ hc,Tq.same s18,Wj,UP,⟨aA,DU G,To,by rw[G.len];exact To⟩,Tf.1,Tf.2.1,λp us ks H9 s9 hp hks VP=>?_⟩;have Wr:=(hks G.len).1;ac_rfl;refine dU (ar.of hp) ?_;rw[VP.1];have s19:=s18.trans s9;by_cases hz:dG rs es ls ks=[]
       . rw[hz];ac_rfl;exact q xt ev es ks H9 s19 nxtH ⟨dxt,l8,d8,nl8H,nd8H,s9 _ _ WN,s9 _ _ V2,s9 _ _ hd8⟩ (UP.same s9) G Wr hz
       . have : 0 < (dG rs es ls ks).length := List.length_pos_iff.mpr hz;ac_rfl;refine jj ?_;ac_rfl;exact⟨by show 1<=1000;decide,qe (.inr ⟨es,ks,G,Wr,hz⟩) _ s19⟩)
theorem Ik (T:TX):iE P w K mg base (eQ P w) 7 "guess" (w4 K a):=(GS T).1
theorem Aq (T:TX):FE 8 "_law_table" (yW K a):=by
 refine ba 7 T.Ao gr ?_ ?_;ac_nf
 . obtain ⟨a0, c, d, ns, prs, rs, ls, rfl, hS, U9, hc, Tq, aA, r1, r450, Tf, hd, qn, q⟩ := h;walk_at "h";have nd:=gr.nd;refine' aV ?_ ?_;walk_at "tS";walk_at "n";exact (Lh rfl rfl rfl (OS (i:=3) gr.nd rfl (Or.inl rfl) (Ik T) (hr.mono (by decide)) rfl (aj (pv 1) (aj (pv 2) aD))) T.iL rfl (λea=>(fv (c8 (i:=3) gr.nd rfl (Or.inl rfl) jT))));walk_at "c";walk_at "c";walk_at "c";walk_at "c";walk_at "m";walk_at "tS";walk_at "s";ac_rfl
   with_reducible refine LR ?_
   ac_rfl;refine⟨c,V.ref d,prs,rs,ls,rfl,hc,Tq,aA,by lia,Tf,.inr ⟨d,rfl,hd⟩,λ_ H1 s1=>⟨rfl,?_⟩,λt ev es ks H1 s1 nt Wj Tr G hks hz=>?_⟩
   . ac_rfl;exact qn H1 s1
   . obtain⟨dt, l, dd, nl, ndd, ht, hl, hdd⟩ := Wj;have L:=Kn hz hks;have hS1:=aO s1 hS;have Vy:=s1 _ _ hd;have hel:=G.len;have hevl:=Tr.1;have hE:=MP L (DU G);refine(?_:Ends.nx _ [_,_,_,_,_,_] _);ac_rfl
     with_reducible refine eW (λhh=>?_) (λhh=>?_)
     . ac_rfl;exact q t H1 s1 ⟨dt,l,dd,ev,es,ht,hl,hdd,Tr,hel,λoe ho e he=>((hE oe ho) e he).1⟩
     . have m1 : Fg H H1 := ⟨s1⟩
       clear s1 nl ndd nt;have hl0 : 0<(ev.length:Int):=by lia
       have z0:=abi (cellAt ns 3) (show(ev.length:Int)≠0 by lia);have z1:=aba (cellAt ns 3) hl0;obtain⟨vf,oef,af,bf,mf,cf⟩:=Tr.at (c:=cellAt ns 3%(ev.length:Int)) z0 (by lia);ac_rfl;refine CZ (ar.of hl) λle Uh=>?_;have hen0:=Tr.same (ae Uh (o:=.lst ev));have cf0:=cf.same (ae Uh (o:=.lst ev));ac_rfl;refine dU (ar.of aa) ?_;ac_rfl;refine⟨vf,oef,_,rfl,cf0,hE _ mf,λu oe' H2 s2 hu ho=>?_⟩;have hle2:=s2 _ _ (show(upd H1 le (.lst ev)) le=some (.lst ev) from aa);have hen2:=hen0.same s2;have UM:=s2 _ _ (ai Vy Uh);have m2:Fg H1 H2:=⟨(ae Uh).trans s2⟩
       clear s2;ac_rfl;refine lT hle2 (A1 z0 z1) ?_;have Wp:(upd H2 le (.lst (ev.set (cellAt ns 3%(ev.length:Int)).toNat u))) le=some (.lst (ev.set (cellAt ns 3%(ev.length:Int)).toNat u)):=aa;have W3:(upd H2 le (.lst (ev.set (cellAt ns 3%(ev.length:Int)).toNat u))) d=some (.dK (aw ls)):=by rw[ak (λz=>by rw[z,hle2] at UM;cases UM)];exact UM
       have VU:=(hen2.set (j:=(cellAt ns 3%(ev.length:Int)).toNat) hu).off (o':=.lst (ev.set (cellAt ns 3%(ev.length:Int)).toNat u)) hle2 (.inl ⟨_,rfl⟩);have m3:Fg H (upd H2 le (.lst (ev.set (cellAt ns 3%(ev.length:Int)).toNat u))):=⟨bA (m1.s.trans m2.s) (aG m1.s Uh)⟩
       have hE3:∀ oe∈es.set (cellAt ns 3%(ev.length:Int)).toNat oe',EN oe:=λoe h=>by
         rcases acU h with z | z
         . exact λe he=>((hE oe z) e he).1
         . rw[z];exact ho
       have hel3:(es.set (cellAt ns 3%(ev.length:Int)).toNat oe').length=rs.length:=by rw[aaZ];exact hel
       generalize ev.set (cellAt ns 3%(ev.length:Int)).toNat u=ev3 at Wp W3 VU m3 ⊢;generalize es.set (cellAt ns 3%(ev.length:Int)).toNat oe'=es3 at VU hE3 hel3;generalize upd H2 le (HO.lst ev3)=H3 at Wp W3 VU m3 ⊢;clear hle2 hen2 UM hen0 cf0 m2 m1 Vy Uh hS1;ac_rfl;intro x dx nx ndx WK;refine' uZ (kvs:=aw ls) (xs:=ev3) nx ndx ?h1 ?h2 ?q;(case h1=>exact ar.of Wp)
       (case h2=>exact .inr ⟨d,rfl,W3⟩)
       (case q =>
         intro l8 d8 H8 s8 nl8 nd8 n12 nxl WK WN V2 hd8;refine⟨rfl,?_⟩;exact q x H8 (m3.s.trans s8) ⟨dx,l8,d8,ev3,es3,WN,V2,hd8,VU.same s8,hel3,hE3⟩)
theorem t_ (T:TX):FE 9 "_law_any_table" (yW K a):=by
 refine ba 8 T.ub ke ?_ ?_;ac_nf
 . obtain ⟨a0, c, d, ns, prs, rs, ls, rfl, hS, U9, hc, Tq, aA, r1, r450, Tf, hd, qn, q⟩ := h;walk_at "h";have nd:=ke.nd;walk_at "v";symm;refine eW (λhh=>?_) (λhh=>?_)
   . symm;exact⟨a0,c,d,ns,prs,rs,ls,rfl,hS,U9,hc,Tq,aA,r1,r450,Tf,hd,qn,q⟩
   clear qn hh;symm;rename_i t1 Vt t2 nt2 le Uh;have hrl:=Tq.1;have S9:((prs.map V.ref).length:Int)=rs.length:=by rw[aac];lia
   refine⟨1,_,rfl,⟨by decide,by decide,by rw[S9];lia,by rw[S9];lia⟩,?_⟩;have en0:bJ K (upd (upd (upd H t1 (HO.tup [V.int 16,V.int 32,V.int 64])) t2 (HO.tup [V.int 0,V.int 128,V.ref t1])) le (HO.lst [V.ref t2])) [V.ref t2] [some ⟨0,128,16,32,64⟩]:=bJ.nil.snoc ⟨t2,rfl,t1,aI.of (ai aa Uh),aI.of (ai (ai aa nt2) Uh)⟩;have sB:ao H (upd (upd H t1 (HO.tup [V.int 16,V.int 32,V.int 64])) t2 (HO.tup [V.int 0,V.int 128,V.ref t1])):=(ae Vt).trans (ae nt2);generalize upd (upd H t1 (HO.tup [V.int 16,V.int 32,V.int 64])) t2 (HO.tup [V.int 0,V.int 128,V.ref t1])=HB at en0 sB Uh ⊢;have hdB:=sB _ _ hd;have hSB:=aO sB hS;clear Vt nt2 hd hS hc Tq;refine fY (λi Z HD=>∃ (ev:List V) (es:List (Option Ent)) (v:Option V),Z = [some (.ref a0),some (.ref c),some (.ref d),some (.ref le),v]/\ao HB HD/\HD le=some (.lst ev)/\bJ K HD ev es/\es.length=1+i/\∀ oe∈es,KJ oe) ⟨[.ref t2],[some ⟨0,128,16,32,64⟩],_,rfl,ae Uh,aa,en0,rfl,λoe ho=>?_⟩ ?_ ?_
   . have e : oe = some ⟨0, 128, 16, 32, 64⟩ := by simpa using ho
     rw[e];exact λe' z=>by cases z;exact⟨⟨by decide,by decide,by decide,by decide⟩,by decide,by decide⟩
   . rintro i Z HD hi ⟨ev,es,v,rfl,sD,V1,U1,hes,hE⟩;have hSD:=aO sD hSB;clear sB;symm;refine ⟨_,rfl,λu oe H3 s3 hu ho=>?_⟩;have Wp:=s3 _ _ V1;have hevl:=U1.1;have s4:=sD.trans s3;have VU:=U1.same s3;clear sD s3;symm;refine ⟨ev++[u],es++[oe],_,rfl,bA s4 Uh,aa,(VU.snoc hu).off Wp (.inl ⟨_,rfl⟩),by rw [aab,hes];rfl,λo VM=>?_⟩;rcases List.mem_append.mp VM with z | z
     . exact hE o z
     . have e : o = oe := by simpa using z
       rw[e];exact ho
   rintro Z HD ⟨ev,es,v,rfl,sD,V1,U1,hes,hE⟩;have hdD:=sD _ _ hdB;have SD:=sB.trans sD;have hesr:es.length=rs.length:=by rw[S9] at hes;lia
   clear sD sB hdB hSB en0 Uh S9 hes;symm;intro x dx nx ndx WK;refine' uZ (kvs:=aw ls) (xs:=ev) nx ndx ?h1 ?h2 ?q;(case h1=>exact ar.of V1)
   (case h2=>exact .inr ⟨d,rfl,hdD⟩)
   (case q =>
     intro l8 d8 H8 s8 nl8 nd8 n12 nxl WK WN V2 hd8;refine⟨rfl,?_⟩;exact q x H8 (SD.trans s8) ⟨dx,l8,d8,ev,es,WN,V2,hd8,U1.same s8,hesr,λoe h e he=>((hE oe h) e he).1⟩)
variable {ls:List (Int×Int)}
theorem Ji (T:TX){a0 d lc t lb xm pt pd:Addr}{b:Bool}{v4:Option V}{H:Hp}{dv:List V}{es:List (Option Ent)}{ns:List Int}{S:MS}(q:∀ (H':Hp),Q (V.bl true) H')(aA:∀ r∈rs,iK r)(Vx:us.length=rs.length)(S9:prs.length=rs.length)(Tf:dN ls)(nck:lc≠pk)(nrk:l≠pk)
   (MM:cX a H xm pk pt S) (O:c5 S) (hSr:S.rows=rs) (R:Run S es ls) (Uc:S.calls.length<=1) (hce:S.cells.length<=0) (TP:TabAt K a H pt pk es (aw ls)) (TT:TabAt K a H t pk es (aw ls)) (hl:H l=some (.lst us)) (Wa:pN H us rs) (hc:H lc=some (.lst (prs.map V.ref))) (hpd:H pd=some (.lst dv)) (hdv:aZ H dv S.bk) (jd:pd≠pk) :
   zO (qj 0 (1+cellAt ns 11%40).toNat) (be 10) (bY (eB (EF (wm K (cj (hJ K a) E0 (ay (az 8) (ay (az 6) (ay (az 9) aQ)))))) (iT (tC (V.bl false))) dJ) (bY (eB (dC (bq (gG K) (cH P w K mg base cb 1 (aae "word") E0 (az 8) aQ) (tC (V.str (aae "runs"))))) (iT (tC (V.bl true))) dJ) (bY (dk (cH P w K mg base cb 1 (aae "at") E0 (az 8) aQ) (be 11)) (bY (dk (cH P w K mg base cb 1 (aae "boxes") E0 (az 8) aQ) (be 12)) (bY (dk (n_ (iW K) (ay (cH P w K mg base cb 1 (aae "pile") E0 (az 8) aQ) aQ)) (be 13)) (bY (yZ (cH P w K mg base cb 6 (aae "step") E0 (az 8) aQ)) (bY (eB (dC (bq (gf K) (bq (bI K) (bq (bI K) (az 2) (az 11)) (tC (V.int 0))) (tC (V.str (aae "call"))))) (dk (bq (eK K) (pj (ay (j9 (ay (bq (eK K) (az 11) (tC (V.int 1))) (ay (j9 (ay (bq (bI K) (az 12) (tC (V.int 4))) (ay (bq (bI K) (az 12) (tC (V.int 5))) (ay (bq (bI K) (az 12) (tC (V.int 6))) aQ)))) (ay (az 13) aQ)))) aQ)) (az 9)) (be 9)) dJ) (bY (eB (dC (bq (gf K) (bq (bI K) (bq (bI K) (az 2) (az 11)) (tC (V.int 0))) (tC (V.str (aae "back"))))) (dk (Aa (jY K) (az 9) (m9 (tC (V.int 1))) g9) (be 9)) dJ) (eB (dC (bq (gf K) (bq (bI K) (bq (bI K) (az 2) (az 11)) (tC (V.int 0))) (tC (V.str (aae "drop"))))) (dk (Aa (jY K) (az 9) (m9 (cj qA E0 (ay (az 9) (ay (Bh K (az 6) (aae "landings")) (ay (n_ (iW K) (ay (az 5) aQ)) aQ))))) g9) (be 9)) dJ))))))))) { nx:=iT (cj (hJ K a) E0 (ay (az 8) (ay (az 6) (ay (az 9) aQ)))) { nx:=λx H'=>Q V.aC H',rt:=Q },rt:=({ nx:=λx H'=>Q V.aC H',rt:=Q }:Ends).rt } [some (V.ref a0),some (V.bl b),some (V.ref l),some (V.ref d),v4,some (V.ref lc),some (V.ref t),some (V.ref lb),some (V.ref xm),some (V.ref pd),none,none,none,none] H:=by
 refine fY (λi Z H'=>∃ (S:MS) (pd:Addr) (dv:List V) (v10 V5 v12 v13:Option V),Z = [some (.ref a0),some (.bl b),some (.ref l),some (.ref d),v4,some (.ref lc),some (.ref t),some (.ref lb),some (.ref xm),some (.ref pd),v10,V5,v12,v13]/\cX a H' xm pk pt S/\c5 S/\S.rows=rs/\Run S es ls/\S.calls.length<=1+i/\S.cells.length<=5*i/\TabAt K a H' pt pk es (aw ls)/\TabAt K a H' t pk es (aw ls)/\H' l=some (.lst us)/\pN H' us rs/\H' lc=some (.lst (prs.map V.ref))/\H' pd=some (.lst dv)/\aZ H' dv S.bk/\pd≠pk) ⟨S,pd,dv,_,_,_,_,rfl,MM,O,hSr,R,Uc,hce,TP,TT,hl,Wa,hc,hpd,hdv,jd⟩ ?_ ?_
 . clear MM O hSr R Uc hce TP TT hl Wa hc hpd hdv jd;rintro i Z H1 hi ⟨S,pd,dv,v10,V5,v12,v13,rfl,MM1,O,hSr,R,Uc,hce,TP1,TT1,hl1,htd1,W6,Wk,Wx,jd⟩;have hi40:i<40:=by lia
   ac_rfl;refine⟨xm,t,pd,pk,pt,S,es,ls,dv,rfl,MM1,O,TT1,Wk,Wx,R,by lia,λH2 s2=>?_⟩;have MM2:cX a H2 xm pk pt S:=MM1.to s2;have TP2:=TP1.same s2;have TT2:=TT1.same s2;have UJ:=s2 _ _ hl1;have hc2:=s2 _ _ W6;have hpd2:=s2 _ _ Wk;have hdv2:=Wx.same s2;have htd2:=htd1.to (λb xs e=>s2 b (.tup xs) e);clear s2 MM1 TP1 TT1 hl1 W6 Wk Wx htd1;obtain⟨dx2,pc2,ph2,pl2,fs2,prs2,cs2,N⟩:=id MM2;have gn:=N.f.no;have T_:=N.hm;ac_rfl;refine aX T_ (gn _ (by nofun)) ((vn T).mono (by decide)) ?_;ac_rfl;refine⟨xm,dx2,fs2,_,rfl,T_,N.f.state,?_⟩;by_cases hs:V.str S.state=V.str "runs"
   . have V0 : S.state = "runs" := by injection hs
     obtain⟨r,hr0,hmem⟩:=O.row V0;have a1:=O.q_ V0;have a2:=O.fJ;have hr1:rs[S.av.toNat]? = some r:=by rw[<- hSr];exact hr0
     obtain⟨⟨rok,rh⟩,rg⟩:=aA r (aak hr1);have g0:=Og rok;have Tb:S.av.toNat<us.length:=by rw[Vx,<- hSr];lia
     obtain⟨pu,hpu,Te⟩:=htd2 _ _ _ (aaa Tb) hr1;have T3:cZ us S.av=some (.ref pu):=by
       rw[show S.av=((S.av.toNat:Nat):Int) by lia];exact bF (by rw[aaa Tb,hpu])
     have h8:=O.h8;obtain⟨R5,VQ,hcl5⟩:=II R O Tf V0 hr0 (by lia) (by lia) g0;ac_rfl;refine aX T_ (gn _ (by nofun)) ((nP T).mono (by decide)) ?_;ac_rfl;refine⟨xm,dx2,fs2,_,rfl,T_,N.f.av,?_⟩;ac_rfl;refine aX T_ (gn _ (by nofun)) ((jM T).mono (by decide)) ?_;ac_rfl;refine⟨xm,dx2,ph2,fs2,_,rfl,T_,N.f.held,N.hh,λlh VH=>?_⟩;ac_rfl;refine aX (ai T_ VH) (gn _ (by nofun)) ((kI T).mono (by decide)) ?_;ac_rfl;refine⟨xm,dx2,pl2,fs2,_,rfl,ai T_ VH,N.f.cells,ai N.hl VH,λlp VG=>?_⟩;ac_rfl;have x1:lh≠xm:=(ag T_ VH).symm;have x2:lh≠pk:=(ag N.hk VH).symm;have s4:ao H2 (upd (upd H2 lh (.lst (S.held.map V.int))) lp (.lst (S.cells.map V.int))):=(ae VH).trans (ae VG);have h4:upd (upd H2 lh (.lst (S.held.map V.int))) lp (.lst (S.cells.map V.int)) lh=some (.lst (S.held.map V.int)):=ai aa VG
     try refine dU (ar.of aa) ?_
     try rw[aac]
     ac_rfl;generalize upd (upd H2 lh (.lst (S.held.map V.int))) lp (.lst (S.cells.map V.int))=H4 at s4 h4 ⊢;have hm4:=s4 _ _ T_;have hk4:=s4 _ _ N.hk;refine aX hm4 (gn _ (by nofun)) ((uK T).mono (by decide)) ?_;ac_rfl;refine⟨xm,pk,pt,S,es,aw ls,rfl,MM2.to s4,O,TP2.same s4,FW ls,by lia,λH5 k5 M5=>?_⟩;have kt5:∀ (b:Addr) (xs:List V),H2 b=some (.tup xs)->H5 b=some (.tup xs):=λb xs e=>k5 _ _ (s4 _ _ e) (λz=>by rw[z,T_] at e;cases e) (λz=>by rw[z,N.hk] at e;cases e);have q1:H5 l=some (.lst us):=k5 _ _ (s4 _ _ UJ) (λz=>by rw[z,T_] at UJ;cases UJ) nrk;have q2:H5 lh=some (.lst (S.held.map V.int)):=k5 _ _ h4 x1 x2;have q3:H5 pd=some (.lst dv):=k5 _ _ (s4 _ _ hpd2) (λz=>by rw[z,T_] at hpd2;cases hpd2) jd;have q4:=htd2.to kt5;have q5:aZ H5 dv S.bk:=aZ.kept k5 hm4 hk4 (hdv2.same s4);have q6:=kt5 _ _ Te;have q7:H5 lc=some (.lst (prs.map V.ref)):=k5 _ _ (s4 _ _ hc2) (λz=>by rw[z,T_] at hc2;cases hc2) nck;have TP5:=(TP2.same s4).kept (MM2.to s4) k5;have TT5:=(TT2.same s4).kept (MM2.to s4) k5;clear VH VG s4 h4 k5 kt5 hm4 hk4 MM2 TP2 TT2 UJ hc2 hpd2 hdv2 htd2 Te T_ N x1 x2;obtain⟨dx5,pc5,ph5,pl5,fs5,prs5,cs5,N5⟩:=id M5;have hk5:=N5.hk;have stc:=BJ S es (aw ls);have hrws:(S.bV es (aw ls)).rows=rs:=by rw[EW];exact hSr
     have tc:=Ho rh;have tb:=Fo rh;have td:=E6 rh;have hdl:dv.length<=41:=by rw[q5.len];unfold MS.bk;rw[aa7,aac];lia
     have hce5:(S.bV es (aw ls)).cells.length<=5*(i+1):=by lia
     have hz0:cZ (V.str r.eU.1::r.eU.2.map V.int) 0=some (V.str r.eU.1):=bF (xs:=V.str r.eU.1::r.eU.2.map V.int) (j:=0) rfl;clear hs;ac_rfl;rw[tc];cases hC:r.isCall with
     | true =>
       obtain⟨tt,rfl⟩:∃ tt,r=.call tt:=by cases r <;> first | exact⟨_,rfl⟩ | cases hC
       ac_rfl;rw[tb,show(Rw.call tt).d7=false from rfl];rename_i k1 nk1 t1 Vt l1 US VD Up;have sZ:ao H5 (upd (upd (upd (upd H5 k1 (.tup [.int (gI S.held 4),.int (gI S.held 5),.int (gI S.held 6)])) t1 (.tup [.int (S.av+1),.ref k1,.int (S.cells.length:Int)])) l1 (.lst [.ref t1])) VD (.lst ([.ref t1]++dv))):=(ae nk1).trans ((ae Vt).trans ((ae US).trans (ae Up)));have jd1:VD≠pk:=(ag (ai (ai (ai hk5 nk1) Vt) US) Up).symm;have z0:upd (upd (upd (upd H5 k1 (.tup [.int (gI S.held 4),.int (gI S.held 5),.int (gI S.held 6)])) t1 (.tup [.int (S.av+1),.ref k1,.int (S.cells.length:Int)])) l1 (.lst [.ref t1])) VD (.lst ([.ref t1]++dv)) VD=some (.lst ([.ref t1]++dv)):=aa;have z1:upd (upd (upd (upd H5 k1 (.tup [.int (gI S.held 4),.int (gI S.held 5),.int (gI S.held 6)])) t1 (.tup [.int (S.av+1),.ref k1,.int (S.cells.length:Int)])) l1 (.lst [.ref t1])) VD (.lst ([.ref t1]++dv)) t1=some (.tup [.int (S.av+1),.ref k1,.int (S.cells.length:Int)]):=ai (ai aa US) Up;have z2:upd (upd (upd (upd H5 k1 (.tup [.int (gI S.held 4),.int (gI S.held 5),.int (gI S.held 6)])) t1 (.tup [.int (S.av+1),.ref k1,.int (S.cells.length:Int)])) l1 (.lst [.ref t1])) VD (.lst ([.ref t1]++dv)) k1=some (.tup [.int (gI S.held 4),.int (gI S.held 5),.int (gI S.held 6)]):=ai (ai (ai aa Vt) US) Up;generalize upd (upd (upd (upd H5 k1 (.tup [.int (gI S.held 4),.int (gI S.held 5),.int (gI S.held 6)])) t1 (.tup [.int (S.av+1),.ref k1,.int (S.cells.length:Int)])) l1 (.lst [.ref t1])) VD (.lst ([.ref t1]++dv))=H6 at sZ z0 z1 z2 ⊢;have q16:=sZ _ _ q1;have q66:=sZ _ _ q6;have F6:∀ (v10 V5 v12 v13:Option V),∃ (S':MS) (pd':Addr) (dv':List V) (w10 w11 w12 w13:Option V),[some (.ref a0),some (.bl b),some (.ref l),some (.ref d),v4,some (.ref lc),some (.ref t),some (.ref lb),some (.ref xm),some (.ref VD),v10,V5,v12,v13]=[some (V.ref a0),some (V.bl b),some (V.ref l),some (V.ref d),v4,some (V.ref lc),some (V.ref t),some (V.ref lb),some (V.ref xm),some (V.ref pd'),w10,w11,w12,w13]/\cX a H6 xm pk pt S'/\c5 S'/\S'.rows=rs/\Run S' es ls/\S'.calls.length<=1+(i+1)/\S'.cells.length<=5*(i+1)/\TabAt K a H6 pt pk es (aw ls)/\TabAt K a H6 t pk es (aw ls)/\H6 l=some (.lst us)/\pN H6 us rs/\H6 lc=some (.lst (prs.map V.ref))/\H6 pd'=some (.lst dv')/\aZ H6 dv' S'.bk/\pd'≠pk:=λv10 V5 v12 v13=>⟨S.bV es (aw ls),VD,[.ref t1]++dv,v10,V5,v12,v13,rfl,M5.to sZ,O.bV,hrws,R5,by lia,hce5,TP5.same sZ,TT5.same sZ,q16,q4.to (λb xs e=>sZ b (.tup xs) e),sZ _ _ q7,z0,by rw[VQ];exact⟨⟨t1,k1,rfl,z1,z2⟩,q5.same sZ⟩,jd1⟩;clear sZ nk1 Vt US Up q1 q2 q3 q4 q5 q6 q7 M5 N5 TP5 TT5 z0 z1 z2;ac_rfl;rw[td,show(Rw.call tt).dR=false from rfl];ac_rfl;exact F6 _ _ _ _
     | false =>
       ac_rfl;rw[tb];cases hB:r.d7 with
       | true =>
         obtain⟨tt,rfl⟩:∃ tt,r=.back tt:=by cases r <;> first | exact⟨_,rfl⟩ | cases hB
         ac_rfl;rename_i VD Up;rw[td,show(Rw.back tt).dR=false from rfl];ac_rfl;rw[show fR dv (some 1) none=dv.drop 1 from xS dv 1] at *;have sZ:=ae (o:=HO.lst (dv.drop 1)) Up;exact⟨S.bV es (aw ls),VD,dv.drop 1,_,_,_,_,rfl,M5.to sZ,O.bV,hrws,R5,by lia,hce5,TP5.same sZ,TT5.same sZ,sZ _ _ q1,q4.to (λb xs e=>sZ b (.tup xs) e),sZ _ _ q7,aa,by rw[VQ];exact(q5.ET 1).same sZ,(ag hk5 Up).symm⟩
       | false =>
         ac_rfl;rw[td];cases hD:r.dR with
         | true =>
           obtain⟨tt,rfl⟩:∃ tt,r=.drop tt:=by cases r <;> first | exact⟨_,rfl⟩ | cases hD
           obtain⟨ev5,⟨dt5,l5,d5,ht5,hlt5,W0,_⟩,_⟩:=id TT5;ac_rfl
           try refine dU (ar.of q7) ?_
           try rw[aac,S9]
           ac_rfl;refine⟨pd,d5,_,dv,S.bk,aw ls,rfl,q3,q5,by lia,W0,?_⟩;have hx:=@LB S.bk (rs.length:Int) (aw ls);have hbk2:(S.bV es (aw ls)).bk=S.bk.drop (ka S.bk (rs.length:Int) (aw ls)).toNat:=by rw[VQ,GV,hSr]
           generalize ka S.bk (rs.length:Int) (aw ls)=ix at hx hbk2 ⊢;obtain⟨kx,rfl⟩:=abc hx;ac_rfl;rename_i VD Up;rw[xS dv kx] at *;have sZ:=ae (o:=HO.lst (dv.drop kx)) Up;exact⟨S.bV es (aw ls),VD,dv.drop kx,_,_,_,_,rfl,M5.to sZ,O.bV,hrws,R5,by lia,hce5,TP5.same sZ,TT5.same sZ,sZ _ _ q1,q4.to (λb xs e=>sZ b (.tup xs) e),sZ _ _ q7,aa,by rw[hbk2,aaD];exact(q5.ET kx).same sZ,(ag hk5 Up).symm⟩
         | false =>
           ac_rfl;exact⟨S.bV es (aw ls),pd,dv,_,_,_,_,rfl,M5,O.bV,hrws,R5,by lia,hce5,TP5,TT5,q1,q4,q7,q3,by rw[VQ,FU hC hB hD];exact q5,jd⟩
   . ac_rfl;exact q _
 . clear MM O hSr R Uc hce TP TT hl Wa hc hpd hdv jd;rintro Z H1 ⟨S,pd,dv,v10,V5,v12,v13,rfl,MM1,O,hSr,R,Uc,hce,TP1,TT1,hl1,htd1,W6,Wk,Wx,jd⟩;ac_rfl;exact⟨xm,t,pd,pk,pt,S,es,ls,dv,rfl,MM1,O,TT1,Wk,Wx,R,by lia,λH2 s2=>q H2⟩
variable {ns:List Int}
theorem Di (T:TX){a0 d lc:Addr}{b:Bool}{v4:Option V}(q:∀ (H':Hp),Q (V.bl true) H')(hS:ar K H a0 (ns.map V.int))(U9:ns.length<=63)(hc:H lc=some (.lst (prs.map V.ref)))(hr:bL a H prs rs)(aA:∀ r∈rs,iK r)(r1 : 1<=rs.length)(r450:rs.length<=450)(hl:H l=some (.lst us))(Wa:pN H us rs)(Vx:us.length=rs.length)(Tf:dN ls)(TR:MD K a H t rs ls) :
   (λx H1=>be 6 x [some (V.ref a0),some (V.bl b),some (V.ref l),some (V.ref d),v4,some (V.ref lc),none,none,none,none,none,none,none,none] H1 ({ nx:=bY (eB (KH (dC (bq oZ (az 6) (tC V.aC))) (dC (bq (λx y H Q=>gG K x y H Q∨mB K x y H Q) (cj (wI K a) E0 (ay (az 5) (ay (az 6) aQ))) (pj aQ)))) (iT (tC (V.bl true))) dJ) (bY (uh 7 [aae "_law_k"] [(aae "_law_script",0)] (mP (ay (tC (V.int 7)) aQ)) (be 0) y9 (cj IT E0 (ay (cj (hV K) E0 (ay (az 1) (ay (bq (eK K) (tC (V.int 4)) (az 0)) aQ))) aQ))) (bY (dk (vd a.ax (V.int 0) (mL a) E0 (ay (az 5) (ay (az 6) (ay (az 7) aQ)))) (be 8)) (bY (dk (pj (ay (j9 (ay (n_ (iW K) (ay (az 5) aQ)) (ay (j9 (ay (bq (bI K) (az 7) (tC (V.int 4))) (ay (bq (bI K) (az 7) (tC (V.int 5))) (ay (bq (bI K) (az 7) (tC (V.int 6))) aQ)))) (ay (tC (V.int 0)) aQ)))) aQ)) (be 9)) (bY (Jr (mP (ay (bq (eK K) (tC (V.int 1)) (bq (rI (λx j=>0<j) λi j=>V.int (i%j)) (cj (hV K) E0 (ay (az 0) (ay (tC (V.int 11)) aQ))) (tC (V.int 40)))) aQ)) (be 10) (bY (eB (EF (wm K (cj (hJ K a) E0 (ay (az 8) (ay (az 6) (ay (az 9) aQ)))))) (iT (tC (V.bl false))) dJ) (bY (eB (dC (bq (gG K) (cH P w K mg base cb 1 (aae "word") E0 (az 8) aQ) (tC (V.str (aae "runs"))))) (iT (tC (V.bl true))) dJ) (bY (dk (cH P w K mg base cb 1 (aae "at") E0 (az 8) aQ) (be 11)) (bY (dk (cH P w K mg base cb 1 (aae "boxes") E0 (az 8) aQ) (be 12)) (bY (dk (n_ (iW K) (ay (cH P w K mg base cb 1 (aae "pile") E0 (az 8) aQ) aQ)) (be 13)) (bY (yZ (cH P w K mg base cb 6 (aae "step") E0 (az 8) aQ)) (bY (eB (dC (bq (gf K) (bq (bI K) (bq (bI K) (az 2) (az 11)) (tC (V.int 0))) (tC (V.str (aae "call"))))) (dk (bq (eK K) (pj (ay (j9 (ay (bq (eK K) (az 11) (tC (V.int 1))) (ay (j9 (ay (bq (bI K) (az 12) (tC (V.int 4))) (ay (bq (bI K) (az 12) (tC (V.int 5))) (ay (bq (bI K) (az 12) (tC (V.int 6))) aQ)))) (ay (az 13) aQ)))) aQ)) (az 9)) (be 9)) dJ) (bY (eB (dC (bq (gf K) (bq (bI K) (bq (bI K) (az 2) (az 11)) (tC (V.int 0))) (tC (V.str (aae "back"))))) (dk (Aa (jY K) (az 9) (m9 (tC (V.int 1))) g9) (be 9)) dJ) (eB (dC (bq (gf K) (bq (bI K) (bq (bI K) (az 2) (az 11)) (tC (V.int 0))) (tC (V.str (aae "drop"))))) (dk (Aa (jY K) (az 9) (m9 (cj qA E0 (ay (az 9) (ay (Bh K (az 6) (aae "landings")) (ay (n_ (iW K) (ay (az 5) aQ)) aQ))))) g9) (be 9)) dJ)))))))))) (iT (cj (hJ K a) E0 (ay (az 8) (ay (az 6) (ay (az 9) aQ))))))))) { nx:=λx H'=>Q V.aC H',rt:=Q },rt:=({ nx:=λx H'=>Q V.aC H',rt:=Q }:Ends).rt }:Ends).nx) (V.ref t) H:=by
 obtain⟨dt,lt,dd,ev,es,ht,Tb,hdd,Tr,hel,hEN⟩:=TR;have Wm:∀ r∈rs,r.ok/\r.here:=λr hr=>(aA r hr).1;have hevl:=Tr.1;have hrl:=hr.1;symm;refine⟨lc,t,prs,rs,ev,es,ls,rfl,hc,hr,⟨dt,lt,dd,ht,Tb,hdd⟩,Tr,⟨Wm,λe he=>hEN (some e) he e rfl,by lia,by lia⟩,Tf.1,Tf.2.1,λp2 us2 T2 HG sG U0 hks2 Uz=>?_⟩;by_cases hu:us2=[]
 . subst hu;have hz:dG rs es ls T2=[]:=List.length_eq_zero_iff.mp Uz.1.symm;have L:=Kn hz (hks2 hel).1;clear Uz hks2;symm;rename_i lz nlz;refine Dm (ai U0 nlz) aa ?_;have sZ:ao H (upd HG lz (.lst [])):=sG.trans (ae nlz);generalize upd HG lz (HO.lst [])=HZ at sZ ⊢;clear sG nlz U0;have hSZ:=aO sZ hS;have hcZ:=sZ _ _ hc;have hrZ:=hr.same sZ;have hlZ:=sZ _ _ hl;have htdZ:=Wa.to (λb xs e=>sZ b (.tup xs) e);have htZ:=sZ _ _ ht;have hltZ:=sZ _ _ Tb;have hddZ:=sZ _ _ hdd;have hevZ:=Tr.same sZ;clear hS hc hr hl Wa ht Tb hdd Tr;clear sZ;symm;refine eE (λi ys Z H2=>ao HZ H2/\(∃ v,Z = [v,some (.ref a0)])/\∃ bs:List Int,ys=bs.map V.int/\bs.length=i/\∀ x∈bs,isVal x) ⟨ao.refl _,⟨_,rfl⟩,[],rfl,rfl,λx hx=>(nomatch hx)⟩ ?_ ?_ ?_
   . rintro i ys Z H2 hi ⟨_,_,bs,rfl,hl,_⟩;rw[aac];walk_at"small"
   . rintro i ys Z H2 hi ⟨s2,⟨v,rfl⟩,bs,rfl,hbl,hbv⟩;have hS2:=aO s2 hSZ;symm;refine ⟨_,rfl,λv9 H3 s3 hv=>⟨s2.trans s3,⟨_,rfl⟩,bs++[v9],by rw [aaE];rfl,by rw [aab,hbl];rfl,λy hy=>?_⟩⟩;rcases List.mem_append.mp hy with z | z
     . exact hbv y z
     . have e := List.mem_singleton.mp z;subst e;exact hv
   rintro ys Z H2 ⟨s2,_,bs,rfl,hb7,hbv⟩;rw[show(7:Int).toNat=7 from rfl] at hb7;symm;rename_i lb nlb;have sB:=s2.trans (ae (o:=HO.lst (bs.map V.int)) nlb);have hlbB:upd H2 lb (.lst (bs.map V.int)) lb=some (.lst (bs.map V.int)):=aa;generalize upd H2 lb (.lst (bs.map V.int))=HB at sB hlbB ⊢;clear s2 nlb;have hSB:=aO sB hSZ;have hcB:=sB _ _ hcZ;have hrB:=hrZ.same sB;have hlB:=sB _ _ hlZ;have htdB:=htdZ.to (λb xs e=>sB b (.tup xs) e);have htB:=sB _ _ htZ;have hltB:=sB _ _ hltZ;have hddB:=sB _ _ hddZ;have hevB:=hevZ.same sB;clear hSZ hcZ hrZ hlZ htdZ htZ hltZ hddZ hevZ;clear sB;intro xm dxm nxm ndxm nnem;refine Nc (prs:=prs) (rs:=rs) (bs:=bs) (es:=ev) (kvs:=aw ls) nxm ndxm hcB hrB htB hltB hddB hlbB hb7 (by lia) (λpk pc pt ph pl fs cs H8 n1 n2 n3' n4 s8 M TN=>⟨rfl,?_⟩);obtain⟨dtm,lm,dm,hpt8,hlm8,hdm8,nlmpk,flm,fdm⟩:=TN;have nlk:lt≠pk:=ag hltB n1;have nck:lc≠pk:=ag hcB n1;have nrk:l≠pk:=ag hlB n1;have hS8:=aO s8 hSB;have hc8:=s8 _ _ hcB;have hr8:=hrB.same s8;have V2:=s8 _ _ hlB;have htd8:=htdB.to (λb xs e=>s8 b (.tup xs) e);have ht8:=s8 _ _ htB;have hlt8:=s8 _ _ hltB;have hdd8:=s8 _ _ hddB;have UP:=hevB.same s8;have hlb8:=s8 _ _ hlbB;clear hSB hcB hrB hlB htdB htB hltB hddB hevB hlbB;clear s8 n1 n2 n3' n4 nxm ndxm nnem flm fdm;have TP:TabAt K a H8 pt pk es (aw ls):=⟨ev,⟨dtm,lm,dm,hpt8,hlm8,hdm8,nlmpk⟩,UP⟩
   have TT:TabAt K a H8 t pk es (aw ls):=⟨ev,⟨dt,lt,dd,ht8,hlt8,hdd8,nlk⟩,UP⟩
   have MM0:cX a H8 xm pk pt (ia rs bs 0):=⟨_,_,_,_,_,_,_,M⟩
   have hkk:=M.hk;have O0:=I_ Wm r450 (by lia) hb7 hbv;have R0:=FD L (by lia) hb7;have k4:gI (bs++[(rs.length:Int)]) 4=gI bs 4:=EH (by decide) (by lia);have k5:gI (bs++[(rs.length:Int)]) 5=gI bs 5:=EH (by decide) (by lia);have k6:gI (bs++[(rs.length:Int)]) 6=gI bs 6:=EH (by decide) (by lia);clear M hpt8 hlm8 hdm8;symm;rename_i t1 n1 t2 n2 pd npd;have hml:(prs.map V.ref).length=rs.length:=by rw[aac];exact hrl
   rw[hml] at npd ⊢;have s9:ao H8 (upd (upd (upd H8 t1 (.tup [.int (gI bs 4),.int (gI bs 5),.int (gI bs 6)])) t2 (.tup [.int (rs.length:Int),.ref t1,.int 0])) pd (.lst [.ref t2])):=(ae n1).trans ((ae n2).trans (ae npd));have c0:upd (upd (upd H8 t1 (.tup [.int (gI bs 4),.int (gI bs 5),.int (gI bs 6)])) t2 (.tup [.int (rs.length:Int),.ref t1,.int 0])) pd (.lst [.ref t2]) pd=some (.lst [.ref t2]):=aa;have c1:upd (upd (upd H8 t1 (.tup [.int (gI bs 4),.int (gI bs 5),.int (gI bs 6)])) t2 (.tup [.int (rs.length:Int),.ref t1,.int 0])) pd (.lst [.ref t2]) t2=some (.tup [.int (rs.length:Int),.ref t1,.int 0]):=ai aa npd;have c2:upd (upd (upd H8 t1 (.tup [.int (gI bs 4),.int (gI bs 5),.int (gI bs 6)])) t2 (.tup [.int (rs.length:Int),.ref t1,.int 0])) pd (.lst [.ref t2]) t1=some (.tup [.int (gI bs 4),.int (gI bs 5),.int (gI bs 6)]):=ai (ai aa n2) npd;have jd:pd≠pk:=(ag (ai (ai hkk n1) n2) npd).symm;generalize (upd (upd (upd H8 t1 (.tup [.int (gI bs 4),.int (gI bs 5),.int (gI bs 6)])) t2 (.tup [.int (rs.length:Int),.ref t1,.int 0])) pd (.lst [.ref t2]))=H9 at s9 c0 c1 c2 ⊢;have hdv:aZ H9 [.ref t2] (ia rs bs 0).bk:=⟨⟨t2,t1,rfl,c1,by rw[k4.symm,k5.symm,k6.symm] at c2;exact c2⟩,aan⟩
   have Td:=Ji T (a0:=a0) (d:=d) (lb:=lb) (b:=b) (v4:=v4) (ns:=ns) q aA Vx hrl Tf nck nrk (MM0.to s9) O0 rfl R0 (aag _) (aag _) (TP.same s9) (TT.same s9) (s9 _ _ V2) (htd8.to (λb xs e=>s9 b (.tup xs) e)) (s9 _ _ hc8) c0 hdv jd;have hS9:=aO s9 hS8;clear s9 c0 c1 c2 hdv jd MM0 TP TT hS8 hc8 hr8 V2 htd8 ht8 hlt8 hdd8 UP hlb8 hkk T;symm;exact Td
 . have hu1 : 1 <= us2.length := by
     cases us2 with
     | nil=>exact(hu rfl).elim
     | cons=>exact ade (aaT _)
   symm;rename_i lz nlz;refine CY (ai U0 nlz) aa (by lia) ?_;symm;exact q _
variable {d:Addr}
theorem tO (T:TX){a0:Addr}{b:Bool}{v4:Option V}(q:∀ (H':Hp),Q (V.bl true) H')(hS:ar K H a0 (ns.map V.int))(U9:ns.length<=63)(hl:H l=some (.lst us))(u1 : 1<=us.length)(u450:us.length<=450)(Tu:aN iK H us)(hd:H d=some (.dK (aw ls)))(Tf:dN ls) :
   iz (x_ K l) (be 0) y9 (cj (G2 a) E0 (ay (az 0) aQ)) (λys H3=>∀ (p:Addr),H3 p=none->be 5 (V.ref p) [some (V.ref a0),some (V.bl b),some (V.ref l),some (V.ref d),v4,none,none,none,none,none,none,none,none,none] (upd H3 p (HO.lst ys)) ({ nx:=bY (eB (wm K (az 1)) (dk (cj (yW K a) E0 (ay (az 0) (ay (az 5) (ay (az 3) aQ)))) (be 6)) (dk (cj (yW K a) E0 (ay (az 0) (ay (az 5) (ay (az 3) aQ)))) (be 6))) (bY (eB (KH (dC (bq oZ (az 6) (tC V.aC))) (dC (bq (λx y H Q=>gG K x y H Q∨mB K x y H Q) (cj (wI K a) E0 (ay (az 5) (ay (az 6) aQ))) (pj aQ)))) (iT (tC (V.bl true))) dJ) (bY (uh 7 [aae "_law_k"] [(aae "_law_script",0)] (mP (ay (tC (V.int 7)) aQ)) (be 0) y9 (cj IT E0 (ay (cj (hV K) E0 (ay (az 1) (ay (bq (eK K) (tC (V.int 4)) (az 0)) aQ))) aQ))) (bY (dk (vd a.ax (V.int 0) (mL a) E0 (ay (az 5) (ay (az 6) (ay (az 7) aQ)))) (be 8)) (bY (dk (pj (ay (j9 (ay (n_ (iW K) (ay (az 5) aQ)) (ay (j9 (ay (bq (bI K) (az 7) (tC (V.int 4))) (ay (bq (bI K) (az 7) (tC (V.int 5))) (ay (bq (bI K) (az 7) (tC (V.int 6))) aQ)))) (ay (tC (V.int 0)) aQ)))) aQ)) (be 9)) (bY (Jr (mP (ay (bq (eK K) (tC (V.int 1)) (bq (rI (λx j=>0<j) λi j=>V.int (i%j)) (cj (hV K) E0 (ay (az 0) (ay (tC (V.int 11)) aQ))) (tC (V.int 40)))) aQ)) (be 10) (bY (eB (EF (wm K (cj (hJ K a) E0 (ay (az 8) (ay (az 6) (ay (az 9) aQ)))))) (iT (tC (V.bl false))) dJ) (bY (eB (dC (bq (gG K) (cH P w K mg base cb 1 (aae "word") E0 (az 8) aQ) (tC (V.str (aae "runs"))))) (iT (tC (V.bl true))) dJ) (bY (dk (cH P w K mg base cb 1 (aae "at") E0 (az 8) aQ) (be 11)) (bY (dk (cH P w K mg base cb 1 (aae "boxes") E0 (az 8) aQ) (be 12)) (bY (dk (n_ (iW K) (ay (cH P w K mg base cb 1 (aae "pile") E0 (az 8) aQ) aQ)) (be 13)) (bY (yZ (cH P w K mg base cb 6 (aae "step") E0 (az 8) aQ)) (bY (eB (dC (bq (gf K) (bq (bI K) (bq (bI K) (az 2) (az 11)) (tC (V.int 0))) (tC (V.str (aae "call"))))) (dk (bq (eK K) (pj (ay (j9 (ay (bq (eK K) (az 11) (tC (V.int 1))) (ay (j9 (ay (bq (bI K) (az 12) (tC (V.int 4))) (ay (bq (bI K) (az 12) (tC (V.int 5))) (ay (bq (bI K) (az 12) (tC (V.int 6))) aQ)))) (ay (az 13) aQ)))) aQ)) (az 9)) (be 9)) dJ) (bY (eB (dC (bq (gf K) (bq (bI K) (bq (bI K) (az 2) (az 11)) (tC (V.int 0))) (tC (V.str (aae "back"))))) (dk (Aa (jY K) (az 9) (m9 (tC (V.int 1))) g9) (be 9)) dJ) (eB (dC (bq (gf K) (bq (bI K) (bq (bI K) (az 2) (az 11)) (tC (V.int 0))) (tC (V.str (aae "drop"))))) (dk (Aa (jY K) (az 9) (m9 (cj qA E0 (ay (az 9) (ay (Bh K (az 6) (aae "landings")) (ay (n_ (iW K) (ay (az 5) aQ)) aQ))))) g9) (be 9)) dJ)))))))))) (iT (cj (hJ K a) E0 (ay (az 8) (ay (az 6) (ay (az 9) aQ)))))))))) { nx:=λx H'=>Q V.aC H',rt:=Q },rt:=({ nx:=λx H'=>Q V.aC H',rt:=Q }:Ends).rt }:Ends).nx) (lY [aae "_law_told"] [] [some (V.ref a0),some (V.bl b),some (V.ref l),some (V.ref d),v4,none,none,none,none,none,none,none,none,none]) H:=by
 refine fW (K:=K) (a:=l) (xs:=us) (λi ys Z H2=>(∃ v,Z = [v])/\ao H H2/\∃ (prs:List Addr) (rs:List Rw),ys=prs.map V.ref/\prs.length=i/\bL a H2 prs rs/\(∀ r∈rs,iK r)/\pN H us rs) ⟨⟨_,rfl⟩,ao.refl _,[],[],rfl,rfl,bL.nil,(λ_ z=>by cases z),(λ_ _ _ _ z=>by cases z)⟩ (λi ys Z H2 hi ⟨_,s2,prs,rs,e,e2,_⟩=>⟨ar.of (s2 _ _ hl),by rw[e,aac,e2,aaI];lia⟩) ?_ ?_
 . rintro i u ys Z H2 hu ⟨⟨v,rfl⟩,s2,prs,rs,rfl,e2,Tq,aA,Wa⟩;obtain ⟨r,td,ok⟩:=Tu u (aak hu);have hrl:=Tq.1;symm;refine ⟨_,r,rfl,td.same s2,ok,λx H3 s3 _ hx=>⟨⟨_,rfl⟩,s2.trans s3,prs++[x],rs++[r],by rw [aaE];rfl,by rw [aab,e2];rfl,(Tq.same s3).snoc hx,λr' hr'=>?_,Wa.snoc (by lia) hu td⟩⟩;rcases List.mem_append.mp hr' with z | z
   . exact aA r' z
   . have e : r' = r := by simpa using z
     rw[e];exact ok
 rintro ys Z H2 ⟨_,s2,prs,rs,rfl,e2,Tq,aA,Wa⟩;intro lc V8;have s3:=s2.trans (ae V8 (o:=.lst (prs.map V.ref)));have hr3:=Tq.same (ae V8 (o:=.lst (prs.map V.ref)));have hc3:(upd H2 lc (.lst (prs.map V.ref))) lc=some (.lst (prs.map V.ref)):=aa;generalize upd H2 lc (HO.lst (prs.map V.ref))=H3 at s3 hr3 hc3 ⊢;have W3:=s3 _ _ hd;have hl3:=s3 _ _ hl;have hS3:=aO s3 hS;have td3:=Wa.to (λb xs e=>s3 b (.tup xs) e);have hrl:=Tq.1;have Wm:∀ r∈rs,r.ok/\r.here:=λr hr=>(aA r hr).1;clear s2 s3 hl hd Tu hS Tq V8 Wa;cases b with
 | true =>
   symm;refine⟨a0,lc,d,ns,prs,rs,ls,rfl,hS3,U9,hc3,hr3,Wm,by lia,by lia,Tf,W3,λH4 s4=>?_,λt H4 s4 TR=>?_⟩
   . symm;exact q _
   . exact Di T (d:=d) (b:=true) (v4:=v4) q (aO s4 hS3) U9 (s4 _ _ hc3) (hr3.same s4) aA (by lia) (by lia) (s4 _ _ hl3) (td3.to (λb xs e=>s4 b (.tup xs) e)) (by lia) Tf TR
 | false =>
   symm;refine⟨a0,lc,d,ns,prs,rs,ls,rfl,hS3,U9,hc3,hr3,Wm,by lia,by lia,Tf,W3,λH4 s4=>?_,λt H4 s4 TR=>?_⟩
   . symm;exact q _
   . exact Di T (d:=d) (b:=false) (v4:=v4) q (aO s4 hS3) U9 (s4 _ _ hc3) (hr3.same s4) aA (by lia) (by lia) (s4 _ _ hl3) (td3.to (λb xs e=>s4 b (.tup xs) e)) (by lia) Tf TR
end
section
theorem K5 {fa:Addr}{fd:aa3}(T:TX)(F:dY K "law" "law" gB fa fd):c7 P w K mg base cb 10 fa fd ["_law_script"] (qG K):=by
 refine F.ok (k:=9) pH (λvs H Q E h=>?_) (λS6 A outer s H vs Q E hr h=>?_)
 . obtain⟨a0, ns, rfl, _⟩ := h;rfl
 . obtain⟨a0, ns, rfl, hS, U9, q⟩ := h;walk_at"h";have nd:=pH.nd;refine' aV ?_ ?_;walk_at"tS";walk_at"c";walk_at"c";walk_at"n";exact(fu (i:=5) pH.nd rfl rfl (own:=["_law_told"]) (fr:=[]) rfl ⟨rfl,(by walk_at"clok"),(by walk_at"frok"),rfl,(by nofun),(by nofun),rfl⟩ (dP (K:=K) rfl (pv 2)) (λ_ _ _ _=>(bT (i:=0) (show aa6 [("_law_told" : Str)] from by nofun) rfl (Or.inl rfl))) (λ_ _ _ _=>c9) (λ_ _ _ _=>(bj (D9 T) (hr.mono (by decide)) b_ rfl (aj (pv 0) aD))));walk_at"c";walk_at"n";walk_at"f";exact(PW.pt (D8 (dO wG (pv 6) jT (d9 _)) (G3 (dO (Dj (K:=K) rfl hr.units) (bj (uw T) (hr.mono (by decide)) b_ rfl (aj (pv 5) (aj (pv 6) aD))) (lW aD) (d9 _)))));walk_at"tB";exact cL;walk_at"n";exact(fu (i:=7) pH.nd rfl rfl (own:=["_law_k"]) (fr:=[("_law_script",0)]) rfl ⟨rfl,(by walk_at"clok"),(by walk_at"frok"),rfl,(by nofun),(by nofun),rfl⟩ (e_ rfl T.fU (aj aW aD)) (λ_ _ _ _=>(bT (i:=0) (show aa6 [("_law_k" : Str),("_law_script" : Str)] from by nofun) rfl (Or.inl rfl))) (λ_ _ _ _=>c9) (λ_ _ _ _=>(bj (Bv T) (hr.mono (by decide)) b_ rfl (aj (bj (gZ T) (hr.mono (by decide)) b_ rfl (aj (pv 1) (aj (cT (dW (K:=K) rfl) aW (pv 0)) aD))) aD))));walk_at"n";exact(c8 (i:=8) pH.nd rfl (Or.inl rfl) (JC (B1 T) (hr.mono (by decide)) b_ rfl (aj (pv 5) (aj (pv 6) (aj (pv 7) aD)))));walk_at"c";walk_at"c";walk_at"m";walk_at"tS";walk_at"s";symm;generalize decide (V.int (cellAt ns 0%2)=V.int 1)=b;cases b with
   | true =>
     symm;refine⟨a0,ns,rfl,hS,U9,λt l d us ls H1 s1 ht hl0 hd0 hld hl u1 u12 Tu hd Tf=>?_⟩;have Td:=tO T (b:=true) (v4:=none) q (aO s1 hS) U9 hl u1 (by lia) Tu hd Tf;have hS1:=aO s1 hS;clear s1 hl0 hd0 hld Tu;symm;exact Td
   | false =>
     symm;refine⟨a0,ns,rfl,hS,U9,λt l d us ls H1 s1 ht hl0 hd0 hld hl u1 u450 Tu hd Tf=>?_⟩;have hS1:=aO s1 hS;have m1:Fg H H1:=⟨s1⟩
     clear s1;symm;refine eW (λhx=>?_) (λhx=>?_)
     . symm
       try refine dU (ar.of hl) ?_
       symm;refine⟨_,_,rfl,by lia,by lia,λu r H5 s5 hu ho=>?_⟩;have hul1 : 0<(us.length:Int):=by lia
       have z0:=abi (cellAt ns 1/3) (show(us.length:Int)≠0 by lia);have z1:=aba (cellAt ns 1/3) hul1;have hl5:=s5 _ _ hl;have W0:=s5 _ _ hd;have tds5:=Tu.same s5;have hS5:=aO s5 hS1;have m5:Fg H H5:=⟨m1.s.trans s5⟩
       clear s5 hl hd Tu hS1;symm;refine lT hl5 (A1 z0 z1) ?_;have hS6:ar K (upd H5 l (.lst (us.set (cellAt ns 1/3%(us.length:Int)).toNat u))) a0 (ns.map V.int):=aO (bA m5.s hl0) hS;have hd6:(upd H5 l (.lst (us.set (cellAt ns 1/3%(us.length:Int)).toNat u))) d=some (.dK (aw ls)):=by rw[ak (λz=>by rw[z,hl5] at W0;cases W0)];exact W0
       have td6:aN iK (upd H5 l (.lst (us.set (cellAt ns 1/3%(us.length:Int)).toNat u))) (us.set (cellAt ns 1/3%(us.length:Int)).toNat u):=(tds5.set hu ho).off hl5;have Td:=tO T (b:=false) (v4:=some u) q hS6 U9 aa (by rw[aaZ];lia) (by rw[aaZ];lia) td6 hd6 Tf;symm;exact Td
     . have Td := tO T (b := false) (v4 := none) q hS1 U9 hl u1 u450 Tu hd Tf;symm;exact Td
end
theorem law_fn {P:Program}{w:World}{K:W.Frag}{mg:Str->Option Value}{base:Heap}{a:bG}{fa:Addr}{fd:aa3}(T:Txt K mg a)(F:dY K "law" "law" gB fa fd):c7 P w K mg base cb 10 fa fd ["_law_script"] (qG K):=NR (λ_ _ T F=>K5 T F) ⟨P,w,K,mg,base,a⟩ _ _ T F
theorem ic {K:W.Frag}{x qual:Str}{st:Stmt}{f da:Addr}{n:Nat}{oc dc:Value}{od an dd:Option Addr}{Tv dl:Array (Option Value)}{kV Ta pm S6 ct:Value}(l:K.lookup f=some ⟨oc,od,.func (W.fnOf x qual (a9 st) (aU st) (ah st) (.ref da) kV Ta pm an S6 ct),Tv⟩)
   (d:K.lookup da=some ⟨dc,dd,.seq #[.none] n,dl⟩) (c:abR K S6 qual=true) (k:abh K (.ref f)=true):fm K x qual st f (W.fnOf x qual (a9 st) (aU st) (ah st) (.ref da) kV Ta pm an S6 ct):=KQ l ⟨d,n,rfl⟩ c k
theorem F9 {K:W.Frag}{x qual:Str}{st:Stmt}{f:Addr}{fd:aa3}{ps:List Str}(F:fm K x qual st f fd)
   (h:∀ (da:Addr) (kV Ta pm:Value) (an:Option Addr) (S6 ct:Value) (us:List Value),us.length=ps.length->∃ k:Option (Array Value)->Sem (List (Str×Value)),abW (W.fnOf x qual (a9 st) (aU st) (ah st) (.ref da) kV Ta pm an S6 ct) ⟨us,[]⟩=acr (.ref da) >>= k/\k (some #[.none])=pure (ps.zip us)):Binds K fd ps []:=by
 obtain⟨oc,od,da,kV,Ta,pm,an,S6,ct,Tv,o,n,rfl,lk,Ud,ld,ed⟩:=F.ex;intro s us KX hl;rw[aaL] at hl ⊢;obtain⟨k,h1,h2⟩:=h da kV Ta pm an S6 ct us hl;exact .of_defaults rfl (KX _ _ ld) ed h1 h2
section
variable {K:W.Frag} {h:Heap} {mg:Str->Option Value} {x qual:Str} {st:Stmt} {f C da:Addr} {n:Nat} {oc dc:Value} {od an dd:Option Addr} {Tv dl:Array (Option Value)} {kV Ta pm S6 ct:Value} {ps:List Str}
theorem tF (X:K.In h)(G:h.Ns aa4 mg)(a:W.nsIn K aa4 x=some (some (.ref f)))(l:K.lookup f=some ⟨oc,od,.func (W.fnOf x qual (a9 st) (aU st) (ah st) .none kV Ta pm an S6 ct),Tv⟩)(c:abR K S6 qual=true)(k:abh K (.ref f)=true)(b:∀ (kV Ta pm:Value) (an:Option Addr) (S6 ct:Value) (us:List Value),us.length=ps.length->abW (W.fnOf x qual (a9 st) (aU st) (ah st) .none kV Ta pm an S6 ct) ⟨us,[]⟩=pure (ps.zip us)):∃ f fd,dY K x qual st f fd/\mg x=some (.ref f)/\Binds K fd ps []:=⟨_,_,gh l c k,W.mg_of X G a,(gh l c k).binds b⟩
theorem tM (a:abg K (.ref C) x=some (some (.ref f)))(i:W.isFn K (.ref f)=true)(l:K.lookup f=some ⟨oc,od,.func (W.fnOf x qual (a9 st) (aU st) (ah st) .none kV Ta pm an S6 ct),Tv⟩)(c:abR K S6 qual=true)(k:abh K (.ref f)=true)(b:∀ (kV Ta pm:Value) (an:Option Addr) (S6 ct:Value) (us:List Value),us.length=ps.length->abW (W.fnOf x qual (a9 st) (aU st) (ah st) .none kV Ta pm an S6 ct) ⟨us,[]⟩=pure (ps.zip us)):∃ f fd,dY K x qual st f fd/\Aj K C x f/\Binds K fd ps []:=⟨_,_,gh l c k,⟨a,i,k⟩,(gh l c k).binds b⟩
theorem tI (m:W.makesIn K C=true)(kc:abh K (.ref C)=true)(a:abg K (.ref C) "__init__" = some (some (.ref f)))(i:W.isFn K (.ref f)=true)(l:K.lookup f=some ⟨oc,od,.func (W.fnOf "__init__" qual (a9 st) (aU st) (ah st) .none kV Ta pm an S6 ct),Tv⟩)(c:abR K S6 qual=true)(k:abh K (.ref f)=true)(b:∀ (kV Ta pm:Value) (an:Option Addr) (S6 ct:Value) (us:List Value),us.length=ps.length->abW (W.fnOf "__init__" qual (a9 st) (aU st) (ah st) .none kV Ta pm an S6 ct) ⟨us,[]⟩=pure (ps.zip us)):∃ f fd,dY K "__init__" qual st f fd/\Mk K C f/\Binds K fd ps []:=⟨_,_,gh l c k,⟨m,a,i,kc⟩,(gh l c k).binds b⟩
theorem Su (m:W.makesIn K C=true)(kc:abh K (.ref C)=true)(a:abg K (.ref C) "__init__" = some (some (.ref f)))(i:W.isFn K (.ref f)=true)(l:K.lookup f=some ⟨oc,od,.func (W.fnOf "__init__" qual (a9 st) (aU st) (ah st) (.ref da) kV Ta pm an S6 ct),Tv⟩)(d:K.lookup da=some ⟨dc,dd,.seq #[.none] n,dl⟩)(c:abR K S6 qual=true)(k:abh K (.ref f)=true)(b:∀ (da:Addr) (kV Ta pm:Value) (an:Option Addr) (S6 ct:Value) (us:List Value),us.length=ps.length->∃ k:Option (Array Value)->Sem (List (Str×Value)),abW (W.fnOf "__init__" qual (a9 st) (aU st) (ah st) (.ref da) kV Ta pm an S6 ct) ⟨us,[]⟩=acr (.ref da) >>= k/\k (some #[.none])=pure (ps.zip us))(b2:∀ (da:Addr) (kV Ta pm:Value) (an:Option Addr) (S6 ct:Value) (us:List Value),us.length+1=ps.length->∃ k:Option (Array Value)->Sem (List (Str×Value)),abW (W.fnOf "__init__" qual (a9 st) (aU st) (ah st) (.ref da) kV Ta pm an S6 ct) ⟨us,[]⟩=acr (.ref da) >>= k/\k (some #[.none])=pure (ps.zip (us++[.none]))):∃ f fd,fm K "__init__" qual st f fd/\Mk K C f/\Binds K fd ps []/\Binds K fd ps [.none]:=⟨_,_,ic l d c k,⟨m,a,i,kc⟩,F9 (ic l d c k) b,(ic l d c k).vc b2⟩
theorem SI (X:K.In h)(G:h.Ns aa4 mg)(a:W.nsIn K aa4 x=some (some (.ref f)))(l:K.lookup f=some ⟨oc,od,.func (W.fnOf x qual (a9 st) (aU st) (ah st) (.ref da) kV Ta pm an S6 ct),Tv⟩)(d:K.lookup da=some ⟨dc,dd,.seq #[.none] n,dl⟩)(c:abR K S6 qual=true)(k:abh K (.ref f)=true)(b:∀ (da:Addr) (kV Ta pm:Value) (an:Option Addr) (S6 ct:Value) (us:List Value),us.length=ps.length->∃ k:Option (Array Value)->Sem (List (Str×Value)),abW (W.fnOf x qual (a9 st) (aU st) (ah st) (.ref da) kV Ta pm an S6 ct) ⟨us,[]⟩=acr (.ref da) >>= k/\k (some #[.none])=pure (ps.zip us))(b2:∀ (da:Addr) (kV Ta pm:Value) (an:Option Addr) (S6 ct:Value) (us:List Value),us.length+1=ps.length->∃ k:Option (Array Value)->Sem (List (Str×Value)),abW (W.fnOf x qual (a9 st) (aU st) (ah st) (.ref da) kV Ta pm an S6 ct) ⟨us,[]⟩=acr (.ref da) >>= k/\k (some #[.none])=pure (ps.zip (us++[.none]))):∃ f fd,fm K x qual st f fd/\mg x=some (.ref f)/\Binds K fd ps []/\Binds K fd ps [.none]:=⟨_,_,ic l d c k,W.mg_of X G a,F9 (ic l d c k) b,(ic l d c k).vc b2⟩
theorem SM {nn:Int}{tk:Tok}(m:W.makesIn K C=true)(kc:abh K (.ref C)=true)(a:abg K (.ref C) "__init__" = some (some (.ref f)))(i:W.isFn K (.ref f)=true)(l:K.lookup f=some ⟨oc,od,.func (W.fnOf "__init__" qual (a9 st) (aU st) (ah st) (.ref da) kV Ta pm an S6 ct),Tv⟩)(d:K.lookup da=some ⟨dc,dd,.seq #[.int nn tk] n,dl⟩)(c:abR K S6 qual=true)(k:abh K (.ref f)=true)(b:∀ (da:Addr) (kV Ta pm:Value) (an:Option Addr) (S6 ct:Value) (us:List Value),us.length=ps.length->∃ k:Option (Array Value)->Sem (List (Str×Value)),abW (W.fnOf "__init__" qual (a9 st) (aU st) (ah st) (.ref da) kV Ta pm an S6 ct) ⟨us,[]⟩=acr (.ref da) >>= k/\k (some #[.int nn tk])=pure (ps.zip us))(b2:∀ (da:Addr) (kV Ta pm:Value) (an:Option Addr) (S6 ct:Value) (us:List Value),us.length+1=ps.length->∃ k:Option (Array Value)->Sem (List (Str×Value)),abW (W.fnOf "__init__" qual (a9 st) (aU st) (ah st) (.ref da) kV Ta pm an S6 ct) ⟨us,[]⟩=acr (.ref da) >>= k/\k (some #[.int nn tk])=pure (ps.zip (us++[.int nn tk]))):∃ f fd dv,lF K dv "__init__" qual st f fd/\Mk K C f/\Binds K fd ps []/\Binds K fd ps [dv]/\RelV (.int nn) dv:=⟨_,_,_,wH l d c k,⟨m,a,i,kc⟩,(wH l d c k).binds b,(wH l d c k).vc b2,⟨_,rfl⟩⟩
theorem tX (X:K.In h)(G:h.Ns aa4 mg)(cc:W.nsIn K aa4 x=some (some (.ref C)))(a:abg K (.ref C) "__init__" = some (some (.ref f)))(l:K.lookup f=some ⟨oc,od,.func (W.fnOf "__init__" qual (a9 st) (aU st) (ah st) .none kV Ta pm an S6 ct),Tv⟩)(c:abR K S6 qual=true)(k:abh K (.ref f)=true)(xw:qI K C f=true)(b:∀ (kV Ta pm:Value) (an:Option Addr) (S6 ct:Value) (us:List Value),us.length=ps.length->abW (W.fnOf "__init__" qual (a9 st) (aU st) (ah st) .none kV Ta pm an S6 ct) ⟨us,[]⟩=pure (ps.zip us)):∃ f fd,dY K "__init__" qual st f fd/\k7 K mg x C f/\Binds K fd ps []:=⟨_,_,gh l c k,⟨W.mg_of X G cc,xw⟩,(gh l c k).binds b⟩
theorem SN (X:K.In h)(G:h.Ns aa4 mg)(cc:W.nsIn K aa4 x=some (some (.ref C)))(a:abg K (.ref C) "__init__" = some (some (.ref f)))(xw:qI K C f=true):∃ f,k7 K mg x C f:=⟨_,W.mg_of X G cc,xw⟩
theorem tS {a:Addr}{its:Array Value}{sl:Array (Option Value)}(hz:its.size<=aal)(l:K.lookup a=some ⟨.type "tuple",od,.seq its n,sl⟩)(v:aL xs its.toList):∀ H,aI K H a xs:=Rm l hz v
end
variable {α : Type}
theorem OV {P:List α->Prop}(f:∀ x0,P [x0]):∀ us:List α,us.length=1->P us
 | [x0],_=>f x0
theorem Sl {P:List α->Prop}(f:∀ x0,P [x0]):∀ us:List α,us.length+1=2->P us:=λus h=>OV f us (adI h)
theorem ln2 {P:List α->Prop}(f:∀ x0 x1,P [x0,x1]):∀ us:List α,us.length=2->P us
 | [x0,x1],_=>f x0 x1
theorem SX {P:List α->Prop}(f:∀ x0 x1,P [x0,x1]):∀ us:List α,us.length+1=3->P us:=λus h=>ln2 f us (adI h)
theorem Q5 {P:List α->Prop}(f:∀ x0 x1 x2,P [x0,x1,x2]):∀ us:List α,us.length=3->P us
 | [x0,x1,x2],_=>f x0 x1 x2
theorem MN {P:List α->Prop}(f:∀ x0 x1 x2 x3,P [x0,x1,x2,x3]):∀ us:List α,us.length=4->P us
 | [x0,x1,x2,x3],_=>f x0 x1 x2 x3
theorem R_ {P:List α->Prop}(f:∀ x0 x1 x2 x3,P [x0,x1,x2,x3]):∀ us:List α,us.length+1=5->P us:=λus h=>MN f us (adI h)
theorem Q4 {P:List α->Prop}(f:∀ x0 x1 x2 x3 x4,P [x0,x1,x2,x3,x4]):∀ us:List α,us.length=5->P us
 | [x0,x1,x2,x3,x4],_=>f x0 x1 x2 x3 x4
theorem tL {K:W.Frag}{h:Heap}{mg:Str->Option Value}{f fa:Addr}{oc:Value}{od an:Option Addr}{Tv:Array (Option Value)}{kV Ta pm S6 ct:Value}(X:K.In h)(G:h.Ns aa4 mg)(e:mg "law" = some (.ref fa))(a:W.nsIn K aa4 "law" = some (some (.ref f)))(l:K.lookup f=some ⟨oc,od,.func (W.fnOf "law" "law" (a9 gB) (aU gB) (ah gB) .none kV Ta pm an S6 ct),Tv⟩)(c:abR K S6 "law" = true)(k:abh K (.ref f)=true):∃ fd,dY K "law" "law" gB fa fd/\∀ (s:Shared) (v:Value),BindsTo s fd ⟨[v],[]⟩ [("_law_script",v)]:=by
 cases e.symm.trans (W.mg_of X G a)
 exact⟨_,gh l c k,λs v=>.of_eq rfl⟩
theorem walk {l:W.OpenLaw}{q:Program}{UG:List Str}{XP:(Str->Option Value)->Heap->Prop}{YP:World->Heap->Prop}{d:DefRec}{K:Params->W.Frag}(hn:l.most=some 63)(hdf:d.params.defaults=[])
   (hY:∀ (w:World) (h:Heap),YP w h->(K w.params).In h)
   (F:∀ (w:World) (mg:Str->Option Value) (fa:Addr) (h:Heap),(K w.params).In h->h.Ns aa4 mg->mg d.name=some (.ref fa) ->
     ∃ fd:aa3,(∀ (s:Shared) (u:Value),BindsTo s fd ⟨[u],[]⟩ [("_law_script",u)])/\∀ base:Heap,(K w.params).In base->base.Ns aa4 mg->c7 l.prog w (K w.params) mg base cb 10 fa fd ["_law_script"] (qG (K w.params))) :
   W.WalkO q UG XP YP l.row.toRowW d [] (λf vs=>PySem.call f vs) :=
 L2.Lr (n:=63) (k:=10) (x:="_law_script") (CX:=λ_=>cb) (sp:=λw=>qG (K w.params)) hn (by decide) hdf ⟨rfl,by decide,by decide,rfl⟩ hY F (λ_ _ a ns hl _ hS=>⟨a,ns,rfl,hS,hl,λ_=>rfl⟩) λ_ _ _ _ _ z=>z
local macro_rules | `(tactic| walk_at "k") => `(tactic| first | k_is | kit_is | rfl | kernel_rfl)
local macro_rules | `(tactic| walk_at "b") => `(tactic| (first | (intro _ _ _ _ _ _; first | (refine FB.ln2 ?_; intro _ _; rfl) | (refine FB.OV ?_; intro _; rfl) | (refine FB.Q5 ?_; intro _ _ _; rfl) | (refine FB.MN ?_; intro _ _ _ _; rfl) | (refine FB.ln0 ?_; rfl) | (refine FB.Q4 ?_; intro _ _ _ _ _; rfl) | (refine FB.ln6 ?_; intro _ _ _ _ _ _; rfl)) | (intro _ _ _ _ _ _ _; first | exact FB.ln0 ⟨_, rfl, rfl⟩ | exact FB.OV (λ_ => ⟨_, rfl, rfl⟩) | exact FB.ln2 (λ_ _ => ⟨_, rfl, rfl⟩) | exact FB.Q5 (λ_ _ _ => ⟨_, rfl, rfl⟩) | exact FB.MN (λ_ _ _ _ => ⟨_, rfl, rfl⟩) | exact FB.Q4 (λ_ _ _ _ _ => ⟨_, rfl, rfl⟩) | exact FB.ln6 (λ_ _ _ _ _ _ => ⟨_, rfl, rfl⟩) | exact FB.lm0 ⟨_, rfl, rfl⟩ | exact FB.Sl (λ_ => ⟨_, rfl, rfl⟩) | exact FB.SX (λ_ _ => ⟨_, rfl, rfl⟩) | exact FB.lm3 (λ_ _ _ => ⟨_, rfl, rfl⟩) | exact FB.R_ (λ_ _ _ _ => ⟨_, rfl, rfl⟩) | exact FB.lm5 (λ_ _ _ _ _ => ⟨_, rfl, rfl⟩) | exact FB.lm6 (λ_ _ _ _ _ _ => ⟨_, rfl, rfl⟩))))
local macro_rules | `(tactic| walk_at "T") => `(tactic| first | ((with_reducible refine W.mg_none_of (by assumption) (by assumption) ?_); walk_at "k") | ((with_reducible refine W.mg_of (by assumption) (by assumption) ?_); walk_at "k") | ((with_reducible refine' ⟨_, W.mg_of (by assumption) (by assumption) ?gg⟩); (case gg => walk_at "k")) | ((with_reducible refine' FB.tF (by assumption) (by assumption) ?a ?l ?c ?k ?b); (case a => walk_at "k"); (case l => walk_at "k"); (case c => walk_at "k"); (case k => walk_at "k"); (case b => walk_at "b")) | ((with_reducible refine' FB.tM ?a ?i ?l ?c ?k ?b); (case a => walk_at "k"); (case i => walk_at "k"); (case l => walk_at "k"); (case c => walk_at "k"); (case k => walk_at "k"); (case b => walk_at "b")) | ((with_reducible refine' FB.tI ?m ?kc ?a ?i ?l ?c ?k ?b); (case m => walk_at "k"); (case kc => walk_at "k"); (case a => walk_at "k"); (case i => walk_at "k"); (case l => walk_at "k"); (case c => walk_at "k"); (case k => walk_at "k"); (case b => walk_at "b")) | ((with_reducible refine' FB.Su ?m ?kc ?a ?i ?l ?d ?c ?k ?b ?b2); (case m => walk_at "k"); (case kc => walk_at "k"); (case a => walk_at "k"); (case i => walk_at "k"); (case l => walk_at "k"); (case d => walk_at "k"); (case c => walk_at "k"); (case k => walk_at "k"); (case b => walk_at "b"); (case b2 => walk_at "b")) | ((with_reducible refine' FB.SI (by assumption) (by assumption) ?a ?l ?d ?c ?k ?b ?b2); (case a => walk_at "k"); (case l => walk_at "k"); (case d => walk_at "k"); (case c => walk_at "k"); (case k => walk_at "k"); (case b => walk_at "b"); (case b2 => walk_at "b")) | ((with_reducible refine' FB.SM ?m ?kc ?a ?i ?l ?d ?c ?k ?b ?b2); (case m => walk_at "k"); (case kc => walk_at "k"); (case a => walk_at "k"); (case i => walk_at "k"); (case l => walk_at "k"); (case d => walk_at "k"); (case c => walk_at "k"); (case k => walk_at "k"); (case b => walk_at "b"); (case b2 => walk_at "b")) | ((with_reducible refine' FB.tX (by assumption) (by assumption) ?cc ?a ?l ?c ?k ?xw ?b); (case cc => walk_at "k"); (case a => walk_at "k"); (case l => walk_at "k"); (case c => walk_at "k"); (case k => walk_at "k"); (case xw => walk_at "k"); (case b => walk_at "b")) | ((with_reducible refine' FB.SN (by assumption) (by assumption) ?cc ?a ?xw); (case cc => walk_at "k"); (case a => walk_at "k"); (case xw => walk_at "k")) | (unfold L2.a8; walk_at "k") | ((with_reducible show acj _ _ _ = _); walk_at "k") | ((with_reducible show L2.er _ _); constructor <;> walk_at "k") | ((with_reducible show abg _ _ _ = _ /\ _); constructor <;> walk_at "k") | ((with_reducible refine ⟨W.mg_of (by assumption) (by assumption) ?_, ?_, ?_, ?_⟩) <;> walk_at "k") | ((with_reducible refine ⟨W.mg_of (by assumption) (by assumption) ?_, ?_⟩) <;> walk_at "k") | ((with_reducible refine ⟨?_, ?_, ?_, ?_, ?_, ?_, ?_, ?_⟩) <;> walk_at "k") | ((with_reducible refine ⟨?_, ?_, ?_, ?_⟩) <;> walk_at "k") | ((with_reducible refine ⟨?_, ?_⟩) <;> walk_at "k") | (unfold L2.a8; walk_at "k") | walk_at "k")
set_option maxRecDepth 100000 in
set_option maxHeartbeats 0 in
theorem PQ:PySem.Challenge.rw_frameback_k91_whole_the_reader_tells_the.Holds:=by
 refine hd ?_
 k_fill
 refine FB.walk (l:=PySem.Challenge.rw_frameback_k91_whole_the_reader_tells_the) rfl rfl (λw h Y=>W.kIn_of Y) ?F
 case F =>
   intro w mg fa h KX G hmg;have T:∃ a:FB.bG,FB.Txt (L2.J8 KX) mg a:=by
     dsimp only[L2.J8];refine'⟨⟨0,_,_,_,0,0,0,_,_,_,_,_,_,_,_,_,0,0,_,_,_,0,_,0,_,_,0,0,0,_,0,0,_,_,0,0⟩,?T⟩;(case T =>
       constructor
       (case oF=>walk_at"T")
       (case jz=>exact FB.tS (its:=#[.int 4 _,.int 5 _,.int 6 _]) (aa2 rfl) (by walk_at"k") (.cons ⟨_,rfl⟩ (.cons ⟨_,rfl⟩ (.cons ⟨_,rfl⟩ .nil))))
       (case rQ=>walk_at"T")
       (case lD=>exact FB.tS (its:=#[.str "back" _,.int 4 _,.int 5 _,.int 6 _]) (aa2 rfl) (by walk_at"k") (.cons ⟨_,rfl⟩ (.cons ⟨_,rfl⟩ (.cons ⟨_,rfl⟩ (.cons ⟨_,rfl⟩ .nil)))))
       (case lL=>walk_at"T")
       (case lI=>exact⟨_,FB.tS (its:=#[.int 0 _,.int 128 _,.ref _]) (aa2 rfl) (by walk_at"k") (.cons ⟨_,rfl⟩ (.cons ⟨_,rfl⟩ (.cons rfl .nil))),FB.tS (its:=#[.int 16 _,.int 32 _,.int 64 _]) (aa2 rfl) (by walk_at"k") (.cons ⟨_,rfl⟩ (.cons ⟨_,rfl⟩ (.cons ⟨_,rfl⟩ .nil)))⟩)
       all_goals walk_at"T")
   have B:∃ fd:aa3,L2.dY (L2.J8 KX) "law" "law" FB.gB fa fd/\∀ (s:Shared) (v:Value),BindsTo s fd ⟨[v],[]⟩ [("_law_script",v)]:=by
     dsimp only[L2.J8];refine' FB.tL KX G hmg ?l1 ?l2 ?l3 ?l4;(case l1=>walk_at"k")
     (case l2=>walk_at"k")
     (case l3=>walk_at"k")
     (case l4=>walk_at"k")
   obtain⟨a,T⟩:=T;obtain⟨fd,FF,B⟩:=B;exact⟨fd,B,λbase _ _=>FB.law_fn T FF⟩
end FB
theorem PySem.Challenge.cw_frameback_k91_whole_the_reader_tells_the_holds : PySem.Challenge.rw_frameback_k91_whole_the_reader_tells_the.Holds :=
 FB.PQ
