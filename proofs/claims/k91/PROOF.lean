import PyProof.Rows.All
import Wide.All
import OpenK.AllK
import Wide.FinOn
import Lean
import PyProof.EqAt
import PyProof.EqKinds
import PyProof.TupleCall
import PySem.Challenge.RW_frameback_k91_whole_the_reader_tells_the
set_option Elab.async false
set_option linter.all false
set_option compiler.extract_closed false
set_option maxRecDepth 100000
namespace FB
open PySem PySem.W PyProof.Rows
end FB
namespace PySem.W.Fast
local macro_rules | `(command| #version) => do
  let f := fun (n : Lean.Name) => let i := Lean.mkIdent (.mkSimple s!"tw{n.hash.toNat}"); `(theorem $i:ident : True := trivial)
  let mut r : Array Lean.Syntax := #[← f `PySem.Challenge.pw_frameback_k91_whole_the_reader_tells_the]
  for (k, a, b) in [("heap",39,39),("heap",46,46),("heap",1279,1279),("o",43,46),("o",49,609),("o",611,1167),("o",1171,1278),("sts",49,49),("sts",71,71),("sts",86,86),("sts",101,101),("sts",137,137),("sts",167,167),("sts",211,211),("sts",254,254),("sts",297,297),("sts",326,326),("sts",355,355),("sts",398,398),("sts",448,448),("sts",477,477),("sts",513,513),("sts",552,552),("sts",609,609),("sts",611,611),("sts",661,661),("sts",711,711),("sts",761,761),("sts",804,804),("sts",855,855),("sts",933,933),("sts",967,967),("sts",1171,1171),("sts",1251,1251),("tree",47,47),("tree",70,70),("tree",85,85),("tree",100,100),("tree",136,136),("tree",166,166),("tree",210,210),("tree",253,253),("tree",296,296),("tree",325,325),("tree",354,354),("tree",397,397),("tree",447,447),("tree",476,476),("tree",512,512),("tree",551,551),("tree",608,609),("tree",660,660),("tree",710,710),("tree",760,760),("tree",803,803),("tree",854,854),("tree",932,932),("tree",966,966),("tree",1081,1081),("tree",1167,1167),("tree",1250,1250),("tree",1278,1278),("view",39,39)] do
    for i in [a:b + 1] do
      r := r.push (← f (.str `FB.hd s!"{k}_{i}"))
  return Lean.mkNullNode r
#version
end PySem.W.Fast
open List renaming getElem?_eq_getElem→aaa,length_append→aab,length_map→aac,getElem?_map→aah,mem_of_getElem?→aak,size_toArray→aao,getElem?_append_right→aaq,getD_eq_getElem?_getD→aar,getElem?_append_left→aas,replicate→aau,mem_append_right→aay,length_take→aaz,length_replicate→aaB,map_append→aaE,length_singleton→aaF,length_cons→aaH,append_nil→aaM,getElem?_set_self→aaO,getElem?_set_ne→aaP,mem_cons→aaQ,map_cons→aaR,not_mem_nil→aaS,getElem_mem→aaY,length_set→aa0,take_length→aa1,mem_append_left→aa6,Nodup→aa7,length_reverse→aa8,mem_cons_of_mem→abc,map_map→abe,lookup_cons→abf,replicate_succ→abu,length_drop→abz,any_cons→abA,lookup→abC,find?_cons→abE,take_add_one→abF,filterMap_cons→abH,getElem?_replicate→abI,getElem?_eq_none→abS,map→abX,mem_of_mem_take→abY,range→ab9,mem_cons_self→acb,flatten_cons→acm,append_assoc→acn,all_cons→acF,length_nil→acI,mem_or_eq_of_mem_set→acT,cons_ne_nil→ac_,take_of_length_le→adf,getElem?_reverse→adl,nodup_nil→adx,filterMap_map→adP
open PySem renaming wpAny_bind→aad,starEach→aai,wpAny_pure→aaj,sizeLine→aal,wpAny_mono→aaI,sizeLine_eq→aaJ,compareOp→aaV,bootBuiltins→aaX,FuncData→aa4,mainGlobals→aa5,wpAny_holding→aba,wpAny_Call_Name_kw→abg,wpAny_truthy_bool→abk,Spec→abr,wpAny_newObj_type→abw,wpAny_field→aby,binaryOp→abD,wpAny_execs_nil→abK,wpAny_pyIter_list→abL,bindArgs→abW,keywordEach→abZ,codeAny_mono→ab0,wpAny_passesOwn→ab1,attributeBase→ab3,mem_of_lookup→ab4,sysModules→ach,seqItems?→acq,wpAny_standAt→acr,wpAny_callSpecial?_slot→acu,wpAny_loadPart_at→acB,wpAny_call_entry→acK,codeAny_call_builtin→acN,wpAny_call→acO,assignEach→acP,swapsWith→acU,getMethod→acV,sliceBounds→acW,excClassObj→acX,callWith→ac1,backToKw→ac2,ExcBaseFacts→ac3,wpAny_setField_rec→ac5,wpAny_setField→ac8,wpAny_seqItems→ac9,behindInMarks→adn,wpAny_execs_cons→adu,wpAny_specialOf→adG,letOwnedTupleGo→adH,builtinLookup_eq_fast→adJ,typeLookup→adM
open PySem.Str renaming ofString→aae,empty→adm
open PySem.Heap renaming get?_push_of_some→aaf,lt_size→aam,get?_push_size→aat,get?_update_other→aaZ,get?_update_self→aa_,size_push→abP,SameBut→ab_,MadeExcOf→acR,get?_none_of_le→adv
open Nat renaming le_refl→aag,ne_of_lt→aaw,lt_of_lt_of_le→aaC,lt_of_le_of_lt→aaG,le_trans→aaL,testBit_and→aaT,zero_le→aaU,le_of_ble_eq_true→aa3,le_succ→abm,eq_of_testBit_eq→abp,lt_irrefl→abB,testBit_two_pow→abM,ne_of_gt→abU,testBit_zero→ab6,testBit_succ→ab7,le_add_right→ab8,not_lt_zero→acf,lt_succ_of_lt→acs,le_of_eq→acw,zero_testBit→acC,mod_eq_of_lt→acD,lt_succ_self→acE,pow_le_pow_right→acG,and_le_left→acL,succ_le_succ→adb,and_le_right→ade,zero_add→ado,le_of_lt→adp,min_eq_left→adq,le_add_left→ads,pow_lt_pow_right→adB,testBit_or→adD,lt_two_pow_self→adK
open True renaming intro→aan
open Bool renaming false_ne_true→aap,and_eq_true→aaN,false_eq_true→acd,not_eq_true'→ac0,false_or→ac4,eq_iff_iff→adk,or_false→adO
open PySem.Builtin renaming bitNot→aav,bitAnd→aaK,bitXor→adj,bitOr→ady
open Option.some renaming inj→aax
open PySem.Value renaming ref→Td,none→abq,int→abt,type→acY,bool→adh,str→adF
open Int renaming toNat_natCast→aaD,toNat_of_nonneg→aa2,emod_lt_of_pos→abb,eq_ofNat_of_zero_le→abd,emod_nonneg→abj,natCast_nonneg→abl,le_refl→acJ,natAbs_natCast→acS
open False renaming elim→aaW
open PyProof.Rows renaming callWith_type1→aa9,subscriptTail_builtinR→adz
open PySem.W renaming findIn→abh,keepIn→abi,codeIn→abR,emptyDict→aca,kitOne→aci,kia_one→acj,hideAll→ack,instObj→ac7,callWith_K→adw
open PySem.Builtin.Int renaming intBits→abn
open PySem.Builtin.SmallTypes renaming nextOf→abo
open PySem.F renaming excBase_ValueError→abv,plainAttrs_list→abG
open Option renaming toList_some→abx,map_eq_some_iff→abN,isSome_some→adE
open PySem.Builtin.List renaming listExtendWith→abJ,listTooLong→abV,listSubscript?→acp
open Lean.Macro renaming throwUnsupported→abO
open PySem.Builtin.Slice renaming slicePlaces→abQ,sliceAdjust→acz
open PySem.Builtin.Tuple renaming tupleExact→abT
open PySem.AutoSeq1 renaming wpAny_loadPart'→ab2
open Array renaming length_toList→ab5,getElem?_toList→adg
open PySem.Obj renaming mapFields→ace,data_mapFields→acg,mapSeq→acH,isFreed_of_fields→adt
open Decidable renaming of_not_not→aco
open Lean renaming TSyntax→acv,mkIdent→adi
open PySem.PassesOwn renaming never→acx,leaving→adA
open ForInStep renaming yield→acy
open PySem.Calls renaming evalArgs_plain→acA,callWith_builtin→ada,spliced_cons→adL
open BitVec renaming toNat_ofNat→acM
open PySem.NameKind renaming free→acQ
open Sum.inl renaming inj→acZ
open PySem.Heap.SameBut renaming update→ac6
open PySem.Paired renaming length→adC
open Nat.succ renaming inj→adI
open PySem.PyData renaming eqv→adN
open PySem.Code renaming quiet_builtin→adQ
namespace FB
open PySem PySem.W PyProof.Rows
set_option maxRecDepth 100000 in
set_option maxHeartbeats 0 in
open_top hd for PySem.Challenge.rw_frameback_k91_whole_the_reader_tells_the
end FB
local macro_rules|`(tactic|nofun)=>`(tactic|decide +kernel)
local macro_rules|`(tactic|ac_nf)=>`(tactic|walk_at "in")
local macro_rules|`(tactic|bv_omega)=>`(tactic|walk_at "hlk")
variable {G:Prop}
theorem exE2.{u0,u1} {a0:Sort u0} {a1:Sort u1} {P:a0->a1->Prop} (h:∃ x0 x1,P x0 x1) (k:∀ x0 x1,P x0 x1->G):G:=h.elim λx0 h=>h.elim λx1 h=>k x0 x1 h
theorem exI2.{u0,u1} {a0:Sort u0} {a1:Sort u1} {P:a0->a1->Prop} (x0:a0) (x1:a1) (h:P x0 x1):∃ x0 x1,P x0 x1:=.intro x0 ( .intro x1 h)
theorem exE3.{u0,u1,u2} {a0:Sort u0} {a1:Sort u1} {a2:Sort u2} {P:a0->a1->a2->Prop} (h:∃ x0 x1 x2,P x0 x1 x2) (k:∀ x0 x1 x2,P x0 x1 x2->G):G:=h.elim λx0 h=>h.elim λx1 h=>h.elim λx2 h=>k x0 x1 x2 h
theorem exI3.{u0,u1,u2} {a0:Sort u0} {a1:Sort u1} {a2:Sort u2} {P:a0->a1->a2->Prop} (x0:a0) (x1:a1) (x2:a2) (h:P x0 x1 x2):∃ x0 x1 x2,P x0 x1 x2:=.intro x0 ( .intro x1 ( .intro x2 h))
theorem exE4.{u0,u1,u2,u3} {a0:Sort u0} {a1:Sort u1} {a2:Sort u2} {a3:Sort u3} {P:a0->a1->a2->a3->Prop} (h:∃ x0 x1 x2 x3,P x0 x1 x2 x3) (k:∀ x0 x1 x2 x3,P x0 x1 x2 x3->G):G:=h.elim λx0 h=>h.elim λx1 h=>h.elim λx2 h=>h.elim λx3 h=>k x0 x1 x2 x3 h
theorem exI4.{u0,u1,u2,u3} {a0:Sort u0} {a1:Sort u1} {a2:Sort u2} {a3:Sort u3} {P:a0->a1->a2->a3->Prop} (x0:a0) (x1:a1) (x2:a2) (x3:a3) (h:P x0 x1 x2 x3):∃ x0 x1 x2 x3,P x0 x1 x2 x3:=.intro x0 ( .intro x1 ( .intro x2 ( .intro x3 h)))
theorem exE5.{u0,u1,u2,u3,u4} {a0:Sort u0} {a1:Sort u1} {a2:Sort u2} {a3:Sort u3} {a4:Sort u4} {P:a0->a1->a2->a3->a4->Prop} (h:∃ x0 x1 x2 x3 x4,P x0 x1 x2 x3 x4) (k:∀ x0 x1 x2 x3 x4,P x0 x1 x2 x3 x4->G):G:=h.elim λx0 h=>h.elim λx1 h=>h.elim λx2 h=>h.elim λx3 h=>h.elim λx4 h=>k x0 x1 x2 x3 x4 h
theorem exI5.{u0,u1,u2,u3,u4} {a0:Sort u0} {a1:Sort u1} {a2:Sort u2} {a3:Sort u3} {a4:Sort u4} {P:a0->a1->a2->a3->a4->Prop} (x0:a0) (x1:a1) (x2:a2) (x3:a3) (x4:a4) (h:P x0 x1 x2 x3 x4):∃ x0 x1 x2 x3 x4,P x0 x1 x2 x3 x4:=.intro x0 ( .intro x1 ( .intro x2 ( .intro x3 ( .intro x4 h))))
theorem exE6.{u0,u1,u2,u3,u4,u5} {a0:Sort u0} {a1:Sort u1} {a2:Sort u2} {a3:Sort u3} {a4:Sort u4} {a5:Sort u5} {P:a0->a1->a2->a3->a4->a5->Prop} (h:∃ x0 x1 x2 x3 x4 x5,P x0 x1 x2 x3 x4 x5) (k:∀ x0 x1 x2 x3 x4 x5,P x0 x1 x2 x3 x4 x5->G):G:=h.elim λx0 h=>h.elim λx1 h=>h.elim λx2 h=>h.elim λx3 h=>h.elim λx4 h=>h.elim λx5 h=>k x0 x1 x2 x3 x4 x5 h
theorem exI6.{u0,u1,u2,u3,u4,u5} {a0:Sort u0} {a1:Sort u1} {a2:Sort u2} {a3:Sort u3} {a4:Sort u4} {a5:Sort u5} {P:a0->a1->a2->a3->a4->a5->Prop} (x0:a0) (x1:a1) (x2:a2) (x3:a3) (x4:a4) (x5:a5) (h:P x0 x1 x2 x3 x4 x5):∃ x0 x1 x2 x3 x4 x5,P x0 x1 x2 x3 x4 x5:=.intro x0 ( .intro x1 ( .intro x2 ( .intro x3 ( .intro x4 ( .intro x5 h)))))
theorem exE7.{u0,u1,u2,u3,u4,u5,u6} {a0:Sort u0} {a1:Sort u1} {a2:Sort u2} {a3:Sort u3} {a4:Sort u4} {a5:Sort u5} {a6:Sort u6} {P:a0->a1->a2->a3->a4->a5->a6->Prop} (h:∃ x0 x1 x2 x3 x4 x5 x6,P x0 x1 x2 x3 x4 x5 x6) (k:∀ x0 x1 x2 x3 x4 x5 x6,P x0 x1 x2 x3 x4 x5 x6->G):G:=h.elim λx0 h=>h.elim λx1 h=>h.elim λx2 h=>h.elim λx3 h=>h.elim λx4 h=>h.elim λx5 h=>h.elim λx6 h=>k x0 x1 x2 x3 x4 x5 x6 h
theorem exI7.{u0,u1,u2,u3,u4,u5,u6} {a0:Sort u0} {a1:Sort u1} {a2:Sort u2} {a3:Sort u3} {a4:Sort u4} {a5:Sort u5} {a6:Sort u6} {P:a0->a1->a2->a3->a4->a5->a6->Prop} (x0:a0) (x1:a1) (x2:a2) (x3:a3) (x4:a4) (x5:a5) (x6:a6) (h:P x0 x1 x2 x3 x4 x5 x6):∃ x0 x1 x2 x3 x4 x5 x6,P x0 x1 x2 x3 x4 x5 x6:=.intro x0 ( .intro x1 ( .intro x2 ( .intro x3 ( .intro x4 ( .intro x5 ( .intro x6 h))))))
theorem exE8.{u0,u1,u2,u3,u4,u5,u6,u7} {a0:Sort u0} {a1:Sort u1} {a2:Sort u2} {a3:Sort u3} {a4:Sort u4} {a5:Sort u5} {a6:Sort u6} {a7:Sort u7} {P:a0->a1->a2->a3->a4->a5->a6->a7->Prop} (h:∃ x0 x1 x2 x3 x4 x5 x6 x7,P x0 x1 x2 x3 x4 x5 x6 x7) (k:∀ x0 x1 x2 x3 x4 x5 x6 x7,P x0 x1 x2 x3 x4 x5 x6 x7->G):G:=h.elim λx0 h=>h.elim λx1 h=>h.elim λx2 h=>h.elim λx3 h=>h.elim λx4 h=>h.elim λx5 h=>h.elim λx6 h=>h.elim λx7 h=>k x0 x1 x2 x3 x4 x5 x6 x7 h
theorem exI8.{u0,u1,u2,u3,u4,u5,u6,u7} {a0:Sort u0} {a1:Sort u1} {a2:Sort u2} {a3:Sort u3} {a4:Sort u4} {a5:Sort u5} {a6:Sort u6} {a7:Sort u7} {P:a0->a1->a2->a3->a4->a5->a6->a7->Prop} (x0:a0) (x1:a1) (x2:a2) (x3:a3) (x4:a4) (x5:a5) (x6:a6) (x7:a7) (h:P x0 x1 x2 x3 x4 x5 x6 x7):∃ x0 x1 x2 x3 x4 x5 x6 x7,P x0 x1 x2 x3 x4 x5 x6 x7:=.intro x0 ( .intro x1 ( .intro x2 ( .intro x3 ( .intro x4 ( .intro x5 ( .intro x6 ( .intro x7 h)))))))
variable {p0 p1 p2:Prop}
theorem anE3 (h:p0/\p1/\p2)(k:p0->p1->p2->G):G:=k h.1 h.2.1 h.2.2
theorem anI3 (h0:p0)(h1:p1)(h2:p2):p0/\p1/\p2:=.intro h0 (.intro h1 h2)
variable {p3:Prop}
theorem anE4 (h:p0/\p1/\p2/\p3)(k:p0->p1->p2->p3->G):G:=k h.1 h.2.1 h.2.2.1 h.2.2.2
theorem anI4 (h0:p0)(h1:p1)(h2:p2)(h3:p3):p0/\p1/\p2/\p3:=.intro h0 (.intro h1 (.intro h2 h3))
variable {p4:Prop}
theorem anE5 (h:p0/\p1/\p2/\p3/\p4)(k:p0->p1->p2->p3->p4->G):G:=k h.1 h.2.1 h.2.2.1 h.2.2.2.1 h.2.2.2.2
theorem anI5 (h0:p0)(h1:p1)(h2:p2)(h3:p3)(h4:p4):p0/\p1/\p2/\p3/\p4:=.intro h0 (.intro h1 (.intro h2 (.intro h3 h4)))
variable {p5:Prop}
theorem anE6 (h:p0/\p1/\p2/\p3/\p4/\p5)(k:p0->p1->p2->p3->p4->p5->G):G:=k h.1 h.2.1 h.2.2.1 h.2.2.2.1 h.2.2.2.2.1 h.2.2.2.2.2
theorem anI6 (h0:p0)(h1:p1)(h2:p2)(h3:p3)(h4:p4)(h5:p5):p0/\p1/\p2/\p3/\p4/\p5:=.intro h0 (.intro h1 (.intro h2 (.intro h3 (.intro h4 h5))))
variable {p6:Prop}
theorem anE7 (h:p0/\p1/\p2/\p3/\p4/\p5/\p6)(k:p0->p1->p2->p3->p4->p5->p6->G):G:=k h.1 h.2.1 h.2.2.1 h.2.2.2.1 h.2.2.2.2.1 h.2.2.2.2.2.1 h.2.2.2.2.2.2
theorem anI7 (h0:p0)(h1:p1)(h2:p2)(h3:p3)(h4:p4)(h5:p5)(h6:p6):p0/\p1/\p2/\p3/\p4/\p5/\p6:=.intro h0 (.intro h1 (.intro h2 (.intro h3 (.intro h4 (.intro h5 h6)))))
theorem anE8 (h:p0/\p1/\p2/\p3/\p4/\p5/\p6/\p7)(k:p0->p1->p2->p3->p4->p5->p6->p7->G):G:=k h.1 h.2.1 h.2.2.1 h.2.2.2.1 h.2.2.2.2.1 h.2.2.2.2.2.1 h.2.2.2.2.2.2.1 h.2.2.2.2.2.2.2
theorem anI8 (h0:p0)(h1:p1)(h2:p2)(h3:p3)(h4:p4)(h5:p5)(h6:p6)(h7:p7):p0/\p1/\p2/\p3/\p4/\p5/\p6/\p7:=.intro h0 (.intro h1 (.intro h2 (.intro h3 (.intro h4 (.intro h5 (.intro h6 h7))))))
set_option hygiene false
local macro_rules | `(tactic| obtain ⟨$ps,*⟩ := $e:term) => do
 let ps:=ps.getElems
 let N:=ps.size
 if N<3 then abO
 let z:=λ(i:Nat)=>do return adi (<- Lean.Macro.addMacroScope (.mkSimple s!"z{i}"))
 let one := λ(i : Nat) (p : Lean.Syntax) => show Lean.MacroM (acv `ident × Option (acv `tactic)) from do
   let y <- z i
   if p[1].getNumArgs == 0 && p[0][0].getNumArgs == 1 && p[0][0][0].getKind == ``Lean.Parser.Tactic.rcasesPat.one then
     if p[0][0][0][0].getId == `rfl then return (y, some (<- `(tactic| first | subst $y:ident | cases $y:ident)))
     return (⟨p[0][0][0][0]⟩,none)
   if p[1].getNumArgs == 0 && p[0][0].getNumArgs == 1 && p[0][0][0].getKind == ``Lean.Parser.Tactic.rcasesPat.ignore then return (y,none)
   return (y, some (<- `(tactic| obtain $(⟨p[0]⟩):rcasesPatMed := $y:ident)))
 let clr <- if e.raw.isIdent then `(tactic| try clear $(⟨e.raw⟩):ident) else `(tactic| skip)
 let mut alts:Array (acv `tactic):=#[]
 for j in [0:14] do
   let ex:=j<7
   let k:=if ex then 8 - j else 15 - j
   if k + 1 <= N then
     let mut bs:Array (acv `ident):=#[]
     let mut ts:Array (acv `tactic):=#[]
     for i in [0:k] do
       let (b,t) <- one i ps[i]!
       bs:=bs.push b
       if let some t:=t then ts:=ts.push t
     if N == k + 1 then
       let (b,t) <- one k ps[k]!
       bs:=bs.push b
       if let some t:=t then ts:=ts.push t
     else
       let y <- z k
       bs:=bs.push y
       ts := ts.push (<- `(tactic| obtain ⟨$(ps.extract k N),*⟩ := $y:ident))
     let f:=adi (.mkSimple (if ex then s!"exE{k}" else s!"anE{k + 1}"))
     let t <- `(tactic| (refine $f $e ?_; $clr:tactic; intro $bs*; $[$ts:tactic];*))
     alts:=alts.push t
 `(tactic| first $[| $alts:tactic]* | rcases $e:term with ⟨$ps,*⟩)
local macro_rules | `(tactic| rintro $ps*) => do
 let tup:=λ(p:Lean.Syntax)=>p.getKind == ``Lean.Parser.Tactic.rintroPat.one && p[0].getKind == ``Lean.Parser.Tactic.rcasesPat.tuple
 unless ps.any (λp=>tup p && p.raw[0][1].getNumArgs ≥ 5) do abO
 let mut ts:Array (acv `tactic):=#[]
 for p in ps do
   if tup p then
     let y:=adi (<- Lean.Macro.addMacroScope `zi)
     let q:Lean.Syntax:=Lean.mkNode ``Lean.Parser.Tactic.rcasesPatMed #[Lean.mkNullNode #[p.raw[0]]]
     ts := ts.push (<- `(tactic| (intro $y:ident; obtain $(⟨q⟩):rcasesPatMed := $y:ident)))
   else ts := ts.push (<- `(tactic| rintro $p))
 `(tactic| ($[$ts:tactic];*))
local macro_rules
 | `(tactic| refine ⟨$xs,*⟩) => do
   let a:=xs.getElems
   if a.size<3 then abO
   let mut r:Array (acv `tactic):=#[]
   for j in [0:8] do
     let n:=if j == 7 then 0 else 8 - j
     if n + 1 <= a.size then
       let b:=a.extract n a.size
       let f:=adi (.mkSimple s!"exI{n}")
       let g:=adi (.mkSimple s!"anI{b.size}")
       if b.size ≥ 3 && b.size <= 8 then
         r := r.push (<- if n == 0 then `(tactic| refine $g $b*) else `(tactic| refine $f $(a.extract 0 n)* ($g $b*)))
       if n > 0 then
         let l <- if b.size == 1 then pure b[0]! else `(⟨$b,*⟩)
         r := r.push (<- `(tactic| refine $f $(a.extract 0 n)* $l))
   `(tactic| first $[| $r:tactic]* | refine (⟨$xs,*⟩))
 | `(tactic| exact ⟨$xs,*⟩) => do
   if xs.getElems.size<3 then abO
   `(tactic| (refine ⟨$xs,*⟩; done))
set_option hygiene true
namespace L2
theorem bQ {α β : Type}{A B C : α->β->Prop}{R:Prop}(h:∃ a b,A a b/\B a b/\C a b)(k:∀ a b,A a b->B a b->C a b->R):R:=h.elim λ_ h=>h.elim λ_ h=>k _ _ h.1 h.2.1 h.2.2
theorem nO {β : Type}{A B : β->Prop}{R:Prop}(h:∃ b,A b/\B b)(k:∀ b,A b->B b->R):R:=h.elim λ_ h=>k _ h.1 h.2
open PySem PySem.Spec PyProof.Rows
abbrev Key:=Sum Int Str
def qr:Key->Value->Bool
 | .inl k,v=>Value.isInt k v
 | .inr x,v=>Value.isStrOf x v
def Rh (w:World):Key->Int
 | .inl k=>hashInt k
 | .inr x=>hashStr w x
theorem cG:∀ {k:Key} {v:Value},qr k v=true->(∃ i t,k=Sum.inl i/\v=abt i t)∨(∃ x t,k=Sum.inr x/\v=adF x t)
 | .inl i, v, h => by
   obtain⟨t,e⟩:=Value.isInt_shape (k:=i) (v:=v) h;exact .inl ⟨i,t,rfl,e⟩
 | .inr x, v, h => by
   obtain⟨t,e⟩:=Value.isStrOf_shape (x:=x) (v:=v) h;exact .inr ⟨x,t,rfl,e⟩
theorem Fk (i:Int)(t:Tok):qr (.inl i) (.int i t)=true:=by simp[qr,Value.isInt]
theorem Fl (x:Str)(t:Tok):qr (.inr x) (.str x t)=true:=by simp[qr,Value.isStrOf]
theorem Oc (a b:Int):decide ((Sum.inl a:Key)=Sum.inl b)=(a == b):=by
 by_cases e:a=b
 . subst e;simp
 . have h : ¬ (Sum.inl a : Key) = Sum.inl b := λq => e (acZ q);rw[decide_eq_false h];exact(beq_eq_false_iff_ne.mpr e).symm
theorem Mp (a b:Str):decide ((Sum.inr a:Key)=Sum.inr b)=decide (a=b):=by
 by_cases e:a=b
 . subst e;simp
 . have h : ¬ (Sum.inr a : Key) = Sum.inr b := λq => e (Sum.inr.inj q);rw[decide_eq_false h,decide_eq_false e]
theorem N7 (a:Int)(b:Str):decide ((Sum.inl a:Key)=Sum.inr b)=false:=decide_eq_false (λq=>nomatch q)
theorem OG (a:Str)(b:Int):decide ((Sum.inr a:Key)=Sum.inl b)=false:=decide_eq_false (λq=>nomatch q)
def c4 (prog:Program)(w:World):PySem.KeyKind prog w Key where
 is:=qr
 hash:=Rh w
 inj:=λv a b ha hb=>by
   rcases cG ha with ⟨i,t,rfl,rfl⟩ | ⟨x,t,rfl,rfl⟩
   . rcases cG hb with ⟨j,u,rfl,e⟩ | ⟨y,u,rfl,e⟩
     . injection e with e1 _;rw[e1]
     . exact nomatch e
   . rcases cG hb with ⟨j,u,rfl,e⟩ | ⟨y,u,rfl,e⟩
     . exact nomatch e
     . injection e with e1 _;rw[e1]
 byValue:=λk v h=>by
   rcases cG h with ⟨i,t,rfl,rfl⟩ | ⟨x,t,rfl,rfl⟩ <;> rfl
 pyHash:=λhv h=>by
   rcases cG hv with ⟨i,t,rfl,rfl⟩ | ⟨x,t,rfl,rfl⟩
   . exact wpAny_pyHash_int h
   . exact wpAny_pyHash_str h
 eqBool:=λhu hv h=>by
   rcases cG hu with ⟨i,t,rfl,rfl⟩ | ⟨x,t,rfl,rfl⟩
   . rcases cG hv with ⟨j,u,rfl,rfl⟩ | ⟨y,u,rfl,rfl⟩
     . rw[Oc] at h;exact wpAny_eqBool_int h
     . rw[N7] at h;exact SeqAt.EqAt.int_str i t y u _ _ _ _ h
   . rcases cG hv with ⟨j,u,rfl,rfl⟩ | ⟨y,u,rfl,rfl⟩
     . rw[OG] at h;exact SeqAt.EqAt.str_int x t j u _ _ _ _ h
     . rw[Mp] at h;exact wpAny_eqBool_str h
 «strs»:=λk x t v h=>by
   rcases cG h with ⟨i,u,rfl,e⟩ | ⟨y,u,rfl,e⟩
   . exact nomatch e
   . injection e with e1 _;subst e1;cases v <;> rfl
theorem Cy (prog:Program)(w:World)(i:Int)(t:Tok):(c4 prog w).is (.inl i) (.int i t)=true:=Fk i t
theorem B8 (prog:Program)(w:World)(x:Str)(t:Tok):(c4 prog w).is (.inr x) (.str x t)=true:=Fl x t
open PySem PySem.Spec PyProof.Rows
inductive V where
 | aC | bl (b:Bool) | int (i:Int) | str (x:Str) | byt (b:Array UInt8) | AU (b:UInt64) | ref (a:Addr) | ty (n:String)
 deriving DecidableEq
def RelV:V->Value->Prop
 | .aC,u=>u=abq
 | .bl b,u=>u=adh b
 | .int i,u=>∃ t,u=abt i t
 | .str x,u=>∃ t,u=adF x t
 | .byt b,u=>∃ t,u=Value.bytes b t
 | .AU b,u=>∃ t,u=Value.float b t
 | .ref a,u=>u=Td a
 | .ty n,u=>u=acY n
abbrev aM:List V->List Value->Prop:=Paired RelV
variable {us:List Value}
theorem aM.length (r:aM xs us):xs.length=us.length:=adC r
theorem aM.get:∀ {xs:List V} {us:List Value} {i:Nat} {x:V},aM xs us->xs[i]? = some x->∃ u,us[i]? = some u/\RelV x u
 | _,_,_,_,.nil,e=>by simp at e
 | _,_,0,_,.cons r _,e=>by simp at e;subst e;exact⟨_,rfl,r⟩
 | _, _, i + 1, x, .cons _ t, e => by
   obtain⟨u,h1,h2⟩:=aM.get (i:=i) (x:=x) t (by simpa using e);exact⟨u,by simpa using h1,h2⟩
variable {u:Value}
theorem aM.set (r:RelV x u):∀ {xs:List V} {us:List Value} (i:Nat),aM xs us->aM (xs.set i x) (us.set i u)
 | _,_,_,.nil=>.nil
 | _,_,0,.cons _ t=>.cons r t
 | _,_,i+1,.cons q t=>.cons q (aM.set r i t)
theorem aM.append:∀ {xs ys:List V} {us ws:List Value},aM xs us->aM ys ws->aM (xs++ys) (us++ws)
 | _,_,_,_,.nil,s=>s
 | _,_,_,_,.cons r t,s=>.cons r (aM.append t s)
theorem aM.take:∀ {xs:List V} {us:List Value} (n:Nat),aM xs us->aM (xs.take n) (us.take n)
 | _,_,0,_=>.nil
 | _,_,_+1,.nil=>.nil
 | _,_,n+1,.cons r t=>.cons r (aM.take n t)
theorem aM.drop:∀ {xs:List V} {us:List Value} (n:Nat),aM xs us->aM (xs.drop n) (us.drop n)
 | _,_,0,r=>r
 | _,_,_+1,.nil=>.nil
 | _,_,n+1,.cons _ t=>aM.drop n t
def ff:Option V->Option Value->Prop
 | some v,some u=>RelV v u
 | none,none=>True
 | _,_=>False
def KV {κ : Type}:List (κ×V)->List (κ×Value)->Prop:=Paired λ(p : κ×V) (q : κ×Value)=>p.1=q.1/\RelV p.2 q.2
def kV:Key->V
 | .inl i=>.int i
 | .inr x=>.str x
inductive HO where
 | lst (xs:List V)
 | tup (xs:List V)
 | dK (kvs:List (Key×V)) | dT (kvs:List (List Key×V))
 | set (S:Int->Bool) (n:Nat)
 | ins (C dx:Addr) (fs:List (Str×V))
 | own (x:Addr)
 | xd (fs:List (Str×V))
 | met (f x:Addr)
 | O3 (lo hi:Int)
 | ky (o:Obj) (u:HO)
 | zQ (ps:Array Value)
 | ext (φ : Heap->Prop)
abbrev Hp:=Addr->Option HO
def upd (H:Hp)(a:Addr)(o:HO):Hp:=λb=>if b=a then some o else H b
variable {o:HO} {H:Hp}
theorem aa:upd H a o a=some o:=by unfold upd;rw[if_pos rfl]
variable {b:Addr}
theorem ak (h:b≠a):upd H a o b=H b:=by unfold upd;rw[if_neg h]
theorem LI {a:Addr}{u:HO}:upd (upd H a o) a u=upd H a u:=by
 funext b;unfold upd;split <;> rfl
theorem Kg {a:Addr}{u:HO}(h:H a=some o)(h':H b=some u)(d:o≠u):a≠b:=by
 intro e;subst e;rw[h] at h';exact d (aax h')
theorem ag (h:H a=some o)(h':H b=none):a≠b:=by
 intro e;subst e;rw[h] at h';cases h'
section
variable (P:Program) (w:World)
def b9 (H:Hp)(h:Heap)(a:Addr):HO->Prop
 | .lst xs=>xs.length<=aal/\∃ (its:List Value) (n:Nat),aM xs its/\h.get? a=some { cls:=.type "list",data:=.seq its.toArray n }
 | .tup xs=>xs.length<=aal/\∃ its:List Value,aM xs its/\IsTup h a its.toArray
 | .dK kvs=>kvs.length<=aal/\(a == ach)=false/\∃ vs,KV kvs vs/\h.DictOf (c4 P w) a vs
 | .dT kvs=>kvs.length<=aal/\(a == ach)=false/\∃ xs:List (List Key×Addr×Value),
     Paired (λ(p:List Key×V) (q:List Key×Addr×Value)=>p.1=q.1/\H q.2.1=some (.tup (p.1.map kV))/\RelV p.2 q.2.2) kvs xs /\
     ∃ o es ep,h.get? a=some o/\o.ExactDict/\o.data=.dict es ep/\es.toList=xs.map (entryOfKey (tupleKind (c4 P w)))/\(xs.map (·.1)).Nodup
 | .set S n=>h.SetOf (intKind P w) a S n
 | .ins C dx fs=>H dx=some (.own a)/\fs.length<=1000/\dx≠a/\h.get? a=some (ac7 C dx) /\
     ∃ mA,h.Ns1 dx mA/\(∀ f,ff (fs.lookup f) (mA f))/\PySem.Within mA (fs.map (·.1))
 | .own _=>∃ o,h.get? a=some o
 | .xd fs=>∃ mA,h.Ns1 a mA/\∀ f,ff (fs.lookup f) (mA f)
 | .O3 lo hi=>∃ t u v,h.get? a=some { cls:=.type "range",data:=.fields #[.int lo t,.int hi u,.int 1 v] }
 | .ky o u=>h.get? a=some o/\b9 H h a u
 | .zQ ps=>h.get? a=some { cls:=.none,data:=.fields ps }
 | .met f x=>h.get? a=some (W.methodObj (.ref f) (.ref x))
 | .ext φ=>φ h/\(∃ o,h.get? a=some o)/\∀ h1 h2:Heap,φ h1->(∀ o,h1.get? a=some o->h2.get? a=some o)->φ h2
def de (H:Hp)(h:Heap):Prop:=∀ a o,H a=some o->b9 P w H h a o
end
section
variable {P:Program} {w:World} {H H':Hp} {h h':Heap} {a:Addr} {o:HO}
theorem b9.lt (x:b9 P w H h a o):a<h.objs.size:=by
 cases o with
 | lst xs=>obtain⟨_,_,_,_,e⟩:=x;exact aam e
 | tup xs=>obtain⟨_,_,_,p⟩:=x;exact p.lt
 | dK kvs=>obtain⟨_,_,_,_,o,_,_,e,_⟩:=x;exact aam e
 | dT kvs=>obtain⟨_,_,_,_,o,_,_,e,_⟩:=x;exact aam e
 | set S n=>obtain⟨o,_,_,_,e,_⟩:=x;exact aam e
 | ins C dx fs=>obtain⟨_,_,_,e,_⟩:=x;exact aam e
 | own y=>obtain⟨_,e⟩:=x;exact aam e
 | xd fs=>obtain⟨_,⟨_,_,_,e,_⟩,_⟩:=x;exact aam e
 | O3 lo hi=>obtain⟨_,_,_,e⟩:=x;exact aam e
 | ky ob u=>obtain⟨e,_⟩:=x;exact aam e
 | zQ ps=>exact aam (show h.get? a=some _ from x)
 | met f y=>exact aam (show h.get? a=some _ from x)
 | ext φ=>obtain⟨_,⟨_,e⟩,_⟩:=x;exact aam e
theorem Paired.Jt {α β : Type}{F G : α->β->Prop}:∀ {l₁ : List α} {l₂ : List β},Paired F l₁ l₂->(∀ a b,F a b->G a b)->Paired G l₁ l₂
 | _,_,.nil,_=>.nil
 | _,_,.cons r t,f=>.cons (f _ _ r) (Paired.Jt t f)
theorem b9.iR (x:b9 P w H h a o)(k:∀ b u,(b=a∨H b=some (.own a))->h.get? b=some u->h'.get? b=some u)
   (ho:∀ b,H b=some (.own a)->H' b=some (.own a)) (ht:∀ b xs,H b=some (.tup xs)->H' b=some (.tup xs)):b9 P w H' h' a o:=by
 induction o with
 | lst xs=>obtain⟨z,its,n,r,e⟩:=x;exact⟨z,its,n,r,k _ _ (.inl rfl) e⟩
 | tup xs=>obtain⟨z,its,r,ob,e,c⟩:=x;exact⟨z,its,r,ob,k _ _ (.inl rfl) e,c⟩
 | dK kvs=>obtain⟨z,y,vs,r,ob,es,ep,e,c⟩:=x;exact⟨z,y,vs,r,ob,es,ep,k _ _ (.inl rfl) e,c⟩
 | dT kvs =>
   obtain⟨z,y,xs,r,ob,es,ep,e,c⟩:=x;exact⟨z,y,xs,Paired.Jt r λp q z=>⟨z.1,ht _ _ z.2.1,z.2.2⟩,ob,es,ep,k _ _ (.inl rfl) e,c⟩
 | set S n=>obtain⟨ob,es,ep,t,e,c⟩:=x;exact⟨ob,es,ep,t,k _ _ (.inl rfl) e,c⟩
 | ins C dx fs =>
   obtain⟨d,z,ne,e,mA,⟨od,es,ep,e2,c⟩,r⟩:=x;exact⟨ho _ d,z,ne,k _ _ (.inl rfl) e,mA,⟨od,es,ep,k _ _ (.inr d) e2,c⟩,r⟩
 | own y=>obtain⟨ob,e⟩:=x;exact⟨ob,k _ _ (.inl rfl) e⟩
 | xd fs=>obtain⟨mA,⟨od,es,ep,e,c⟩,r⟩:=x;exact⟨mA,⟨od,es,ep,k _ _ (.inl rfl) e,c⟩,r⟩
 | O3 lo hi=>obtain⟨t,u,v,e⟩:=x;exact⟨t,u,v,k _ _ (.inl rfl) e⟩
 | ky ob u ih=>obtain⟨e,q⟩:=x;exact⟨k _ _ (.inl rfl) e,ih q⟩
 | zQ ps =>
   have e:h.get? a=some { cls:=.none,data:=.fields ps }:=x;show h'.get? a=some { cls:=.none,data:=.fields ps };exact k a _ (.inl rfl) e
 | met f y =>
   have e:h.get? a=some (W.methodObj (.ref f) (.ref y)):=x;show h'.get? a=some (W.methodObj (.ref f) (.ref y));exact k a _ (.inl rfl) e
 | ext φ=>obtain⟨p,⟨o,e⟩,st⟩:=x;exact⟨st _ _ p λo q=>k _ _ (.inl rfl) q,⟨o,k _ _ (.inl rfl) e⟩,st⟩
theorem de.lt (x:de P w H h)(e:H a=some o):a<h.objs.size:=(x a o e).lt
theorem de.fresh (x:de P w H h)(e:h.objs.size<=a):H a=none:=by
 cases q:H a with
 | none=>rfl
 | some u=>exact absurd (aaC (x.lt q) e) (abB _)
theorem de.kept (x:de P w H h)(k:∀ b u,h.get? b=some u->h'.get? b=some u):de P w H h':=λa o e =>
 (x a o e).iR (λb u _ q=>k b u q) (λ_ q=>q) λ_ _ q=>q
theorem de.laid (x:de P w H h)(k:∀ b u,h.get? b=some u->h'.get? b=some u)(hp:h.objs.size<=a)(new:b9 P w (upd H a o) h' a o):de P w (upd H a o) h':=λb u e=>by
 have hn:=x.fresh hp;by_cases hb:b=a
 . subst hb;rw[aa] at e;cases e;exact new
 . rw[ak hb] at e;exact(x b u e).iR (λc v _ q=>k c v q) (λc q=>by rw[ak (ag q hn)];exact q) λc xs q=>by rw[ak (ag q hn)];exact q
end
def Rd (H:Hp)(a:Addr)(u:HO):Prop:=H a=some u∨∃ o,H a=some (.ky o u)
variable {h:Heap}
theorem Rd.ok {P:Program}{w:World}{a:Addr}{u:HO}(r:Rd H a u)(x:de P w H h):b9 P w H h a u:=by
 rcases r with r | ⟨o,r⟩
 . exact x a u r
 . obtain⟨_, q⟩ := x a _ r;exact q
def Hi:Option HO->Prop
 | some (.lst _)=>True
 | some (.dK _)=>True
 | some (.dT _)=>True
 | some (.set _ _)=>True
 | some (.ins _ _ _)=>True
 | some (.ext _)=>True
 | _=>False
section
variable {P:Program} {w:World} {H:Hp} {h h':Heap} {x e:Addr} {o':HO}
theorem de.write (ok:de P w H h)(mu:Hi (H x))(he:e=x∨H e=some (.own x))(k:∀ b u,b≠e->h.get? b=some u->h'.get? b=some u)(heo:∃ u,h'.get? e=some u)
   (new:b9 P w (upd H x o') h' x o'):de P w (upd H x o') h':=λb u q=>by
 have nown:∀ c y,H c=some (.own y)->c≠x:=λc y r z=>by subst z;rw[r] at mu;exact mu
 have ntup:∀ c xs,H c=some (.tup xs)->c≠x:=λc xs r z=>by subst z;rw[r] at mu;exact mu
 by_cases hb:b=x
 . subst hb;rw[aa] at q;cases q;exact new
 . rw[ak hb] at q;by_cases W4:b=e
   . have q' : H b = some (.own x) := by
       rcases he with z | z
       . exact absurd (W4.trans z) hb
       . rw[W4];exact z
     rw[q] at q';cases q';obtain⟨v,hv⟩:=heo;exact⟨v,by rw[W4];exact hv⟩
   . refine (ok b u q).iR (λc v hc r => k c v ?_ r) (λc r => by rw [ak (nown c b r)]; exact r) λc xs r => by rw [ak (ntup c xs r)]; exact r
     rcases hc with rfl | hc
     . exact W4
     . rintro rfl;rcases he with z | z
       . exact nown c b hc z
       . rw[hc] at z;cases z;exact hb rfl
end
structure Un (fs ex:List Addr)(H H':Hp)(h h':Heap):Prop where
 keep:∀ b o,h.get? b=some o->H b=none->b ∉ fs->b ∉ ex->h'.get? b=some o
 slot:∀ b o,h.get? b=some o->H b=none->b∈fs->b ∉ ex->∃ sl,h'.get? b=some { o with slots:=sl }
 free:∀ b o,h.get? b=some o->H b=none->b ∉ ex->H' b=none
 there:∀ b o,h.get? b=some o->b ∉ ex->∃ o',h'.get? b=some o'
 j6:∀ b xs,H b=some (.tup xs)->H' b=some (.tup xs)
 iS:∀ b o u,H b=some (.ky o u)->H' b=some (.ky o u)
 jB:∀ b ps,H b=some (.zQ ps)->∃ Wf,H' b=some (.zQ (ps++Wf))
section
variable {fs U7 ex ex':List Addr} {H H1 H2:Hp} {h h1 h2 h':Heap} {a x e:Addr} {o:HO}
theorem Un.any (u:Un fs ex H H1 h h1)(q:h.get? b=some ob)(n:H b=none)(hx:b ∉ ex):∃ sl,h1.get? b=some { ob with slots:=sl }:=by
 by_cases hb:b∈fs
 . exact u.slot b ob q n hb hx
 . exact⟨ob.slots,u.keep b ob q n hb hx⟩
theorem Un.kept (k:∀ b u,h.get? b=some u->h'.get? b=some u):Un fs ex H H h h' :=
 ⟨λb ob q _ _ _=>k b ob q,λb ob q _ _ _=>⟨ob.slots,k b ob q⟩,λ_ _ _ n _=>n,λb ob q _=>⟨ob,k b ob q⟩,λ_ _ q=>q,λ_ _ _ q=>q,λ_ ps q=>⟨#[],by rw[q];simp⟩⟩
theorem Un.refl:Un fs ex H H h h:=Un.kept λ_ _ q=>q
theorem Un.laid (k:∀ b u,h.get? b=some u->h'.get? b=some u)(hp:h.objs.size<=a)(hn:H a=none):Un fs ex H (upd H a o) h h' where
 keep:=λb u q _ _ _=>k b u q
 slot:=λb u q _ _ _=>⟨u.slots,k b u q⟩
 free:=λb u q n _=>by rw[ak (aaw (aaC (aam q) hp))];exact n
 there:=λb u q _=>⟨u,k b u q⟩
 j6:=λb xs q=>by rw[ak (ag q hn)];exact q
 iS:=λb u xs q=>by rw[ak (ag q hn)];exact q
 jB:=λb ps q=>⟨#[],by rw[ak (ag q hn),q];simp⟩
theorem Un.write (mu:Hi (H x))(he:e=x∨H e=some (.own x))(k:∀ b u,b≠e->h.get? b=some u->h'.get? b=some u)(heo:∃ u,h'.get? e=some u):Un fs ex H (upd H x o) h h':=by
 have hx:∀ b,H b=none->b≠x:=λb n z=>by subst z;rw[n] at mu;exact mu
 have hb:∀ b,H b=none->b≠e:=λb n z=>by
   subst z;rcases he with r | r
   . exact hx b n r
   . rw[n] at r;cases r
 have hm:∀ b u,H b=some u->¬ Hi (some u)->b≠x:=λb u q nm z=>by subst z;rw[q] at mu;exact nm mu
 refine ⟨λb u q n _ _ => k b u (hb b n) q, λb u q n _ _ => ⟨u.slots, k b u (hb b n) q⟩, λb u q n _ => by rw [ak (hx b n)]; exact n, λb u q _ => ?_,
   λb xs q=>by rw[ak (hm b _ q λz=>z)];exact q,λb u xs q=>by rw[ak (hm b _ q λz=>z)];exact q,λb ps q=>⟨#[],by rw[ak (hm b _ q λz=>z),q];simp⟩⟩
 by_cases W4:b=e
 . subst W4;exact heo
 . exact⟨u,k b u W4 q⟩
end
def Kd (h:Heap)(H:Hp):List Addr:=(ab9 h.objs.size).filter λa=>(H a).isSome
def mR (h:Heap)(H:Hp):Heap:=ack h (Kd h H)
theorem F_ (h:Heap)(H:Hp):(mR h H).objs.size=h.objs.size:=W.hideAll_size _ _
theorem Ih {o:Obj}(e:h.get? b=some o)(n:H b=none):(mR h H).get? b=some o :=
 W.hideAll_get _ e λhm=>by
   have q:(H b).isSome=true:=(List.mem_filter.mp hm).2;rw[n] at q;simp at q
theorem Mc {o:Obj}(e:(mR h H).get? b=some o):h.get? b=some o/\H b=none:=by
 have e':h.get? b=some o:=W.of_hideAll (Kd h H) e;refine⟨e',?_⟩;cases q:H b with
 | none=>rfl
 | some x =>
   have hm:b∈Kd h H:=List.mem_filter.mpr ⟨List.mem_range.mpr (aam e'),by simp[q]⟩;have z:(mR h H).get? b=none:=W.hideAll_none (Kd h H) hm;rw[z] at e;cases e
structure Mod (K:W.Frag)(mg:Str->Option Value)(base:Heap):Prop where
 uh:K.In base
 glob:base.Ns aa5 mg
 blt:∃ mb,base.Ns builtinsNs mb/\∀ x:Str,x ≠ "__name__"->mb x=aaX x
 nolimit:base.NoLimit
structure Cx where
 prog:Program
 w:World
 K:W.Frag
 mg:Str->Option Value
 base:Heap
 A:Around
 N:List Str
 s₀ : Shared
 H₀ : Hp
 env:Env
 outer:List Env
 stack:List Env
 ex:List Addr
 fn:Str->Bool
 calm:Bool
 pn:List (Addr×Obj)
 xe:Value->Shared->Prop
def cU (l:List Env):List Addr:=l.filterMap (·.frame)
abbrev Cx.fs (X:Cx):List Addr:=cU X.outer
def OU (sc:Scope)(x:Str):Prop:=sc.names.lookup x=some .local∨sc.names.lookup x=some .cell∨sc.names.lookup x=some .free
def Loc (sc:Scope)(x:Str):Prop:=sc.names.lookup x=some .local∨sc.names.lookup x=some .cell
def Look (env:Env)(h:Heap)(m:Str->Option Value)(x:Str)(u:Value):Prop :=
 (env.kindOf x=some .local/\m x=some u)∨((env.kindOf x=some .cell∨env.kindOf x=some .free)/\∃ c,env.cells.lookup x=some c/\h.IsCell c (some u))
structure Cx.Ok (X:Cx):Prop where
 mod:Mod X.K X.mg X.base
 kind:X.env.scope.kind=.function
 glob:X.env.globals=aa5
 blt:X.env.builtins=builtinsNs
 above:X.s₀.heap.objs.size<=X.env.locals
 inj:∀ x y c,X.env.cells.lookup x=some c->X.env.cells.lookup y=some c->x=y
 has:∀ x,(X.env.kindOf x=some .cell∨X.env.kindOf x=some .free)->∃ c,X.env.cells.lookup x=some c
 Bq:∀ x c,X.fn x=true->X.env.cells.lookup x=some c->X.s₀.heap.objs.size<=c
 hd:X.calm=true->X.A.handled=none
 frames:X.A.frames=some X.stack
 Di:X.stack=X.outer∨(X.stack=X.env::X.outer/\X.env.frame=some X.env.locals)
 Ks:∀ b∈X.ex,b≠X.env.locals/\∀ x c,X.env.cells.lookup x=some c->c≠b
 bs:∀ b o,X.base.get? b=some o->X.s₀.heap.get? b=some o/\X.H₀ b=none
 rl:X.base.objs.size<=X.s₀.heap.objs.size
 tW:∀ b o,X.base.get? b=some o->b ∉ X.ex
 xb:∀ b∈X.ex,b ∉ X.fs
 gH:X.s₀.heap.FunFrames X.base X.outer
 vt:∀ b∈X.fs,X.H₀ b=none
structure Inv (X:Cx)(gV:List (Addr×Obj))(Z : List (Option V))(H:Hp)(s:Shared):Prop where
 ok:X.Ok
 os:s.os=X.s₀.os
 bare:AllBare s.gens
 base:Un X.fs X.ex X.H₀ H X.s₀.heap s.heap
 loc:∃ m,s.heap.Ns X.env.locals m/\∀ (i:Nat) (x:Str) (v:V),X.N[i]? = some x->Z[i]? = some (some v)->OU X.env.scope x->∃ u,RelV v u/\Look X.env s.heap m x u
 cell:∀ x c,X.env.cells.lookup x=some c->∃ v,s.heap.IsCell c v
 free:H X.env.locals=none
 fO:∀ x c,X.env.cells.lookup x=some c->H c=none
 pin:∀ p∈X.pn++gV,s.heap.get? p.1=some p.2/\H p.1=none/\p.1≠X.env.locals/\p.1 ∉ X.fs/\∀ v,p.2.data≠.cell v
 az:de X.prog X.w H s.heap
 len : Z.length=X.N.length
section
variable {X:Cx} {gV:List (Addr×Obj)} {Z : List (Option V)} {H H':Hp} {s:Shared} {h':Heap}
theorem Cx.Ok.Ry (ok:X.Ok){o:Obj}(e:X.base.get? b=some o):b ∉ X.fs:=λhb=>by
 have:=(ok.gH.mem hb).1
 rw[e] at this;cases this
theorem Inv.bs (I:Inv X gV Z H s):∀ b o,X.base.get? b=some o->s.heap.get? b=some o/\H b=none:=λb o e =>
 ⟨I.base.keep b o (I.ok.bs b o e).1 (I.ok.bs b o e).2 (I.ok.Ry e) (I.ok.tW b o e),I.base.free b o (I.ok.bs b o e).1 (I.ok.bs b o e).2 (I.ok.tW b o e)⟩
theorem Inv.bk (I:Inv X gV Z H s):∀ b o,X.base.get? b=some o->s.heap.get? b=some o:=λb o e=>(I.bs b o e).1
theorem Inv.mod (I:Inv X gV Z H s):Mod X.K X.mg X.base:=I.ok.mod
theorem Inv.df (I:Inv X gV Z H s):X.K.In s.heap:=I.ok.mod.uh.keeps I.bk
theorem Inv.lt (I:Inv X gV Z H s):X.env.locals<s.heap.objs.size:=let ⟨_,hn,_⟩:=I.loc;hn.lt
theorem Inv.sz (I:Inv X gV Z H s):X.s₀.heap.objs.size<=s.heap.objs.size:=aaL I.ok.above (adp I.lt)
theorem Inv.OA (I:Inv X gV Z H s)(h:s.heap.objs.size<=a):a ∉ X.fs:=λhb=>by
 obtain⟨_,o,ho,_⟩:=I.ok.gH.mem hb;exact absurd (aaC (aam ho) (aaL I.sz h)) (abB _)
theorem Inv.Bl (I:Inv X gV Z H s):∀ x c,X.env.cells.lookup x=some c->c≠X.env.locals:=λx c e z=>by
 obtain⟨v,o,ho,hd⟩:=I.cell x c e;obtain⟨m,⟨o',es,ep,VI,WW,_⟩,_⟩:=I.loc;rw[z,VI] at ho;cases ho;rw[WW] at hd;cases hd
theorem Inv.gH (I:Inv X gV Z H s):s.heap.FunFrames X.base X.outer:=by
 have all:∀ (l:List Env),(∀ b∈cU l,b∈X.fs)->X.s₀.heap.FunFrames X.base l->s.heap.FunFrames X.base l:=by
   intro l
   induction l with
   | nil=>intro _ _;trivial
   | cons env r ih =>
     intro hs hl;obtain⟨hk,⟨L,o,hf,hn,ho,hd⟩,hr⟩:=hl;have hL:L∈X.fs:=hs L (by unfold cU;rw[abH,hf];exact acb);obtain⟨sl,e⟩:=I.base.slot L o ho (I.ok.vt L hL) hL λz=>I.ok.xb L z hL;exact⟨hk,⟨L,_,hf,hn,e,hd⟩,ih (λb hb=>hs b (by unfold cU;rw[abH,hf];exact abc _ hb)) hr⟩
 exact all X.outer (λ_ hb=>hb) I.ok.gH
theorem Inv.stack (I:Inv X gV Z H s):s.heap.FunFrames X.base X.stack:=by
 rcases I.ok.Di with e | ⟨e,hf⟩
 . rw[e];exact I.gH
 . rw[e];obtain⟨m,hn,_⟩:=I.loc;refine .cons (by rw[I.ok.kind];decide) hf hn ?_ I.gH;exact adv (aaL I.ok.rl I.ok.above)
theorem Inv.p8 (I:Inv X gV Z H s):∀ b∈cU X.stack,b∈X.env.locals::X.fs:=λb hb=>by
 rcases I.ok.Di with e | ⟨e,hf⟩
 . rw[e] at hb;exact abc _ hb
 . rw[e] at hb;unfold cU at hb;rw[abH,hf] at hb;exact hb
theorem Inv.lN (I:Inv X gV Z H s):∀ b∈cU X.stack,H b=none:=λb hb=>by
 rcases List.mem_cons.mp (I.p8 b hb) with e | hb
 . rw[e];exact I.free
 . obtain⟨_, o, ho, _⟩ := I.ok.gH.mem hb;exact I.base.free b o ho (I.ok.vt b hb) λz=>I.ok.xb b z hb
theorem Inv.step {g':Array GenState}{t':Nat}{d':Drawn}{ch:List Addr}(I:Inv X gV Z H s)
   (W0:∀ b∈ch,(b∈X.ex∨X.s₀.heap.objs.size<=b)/\b≠X.env.locals/\(∀ x c,X.env.cells.lookup x=some c->c≠b)/\∀ p∈X.pn++gV,p.1≠b)
   (keep:∀ b o,b≠X.env.locals->b ∉ X.fs->b ∉ ch->s.heap.get? b=some o->H b=none->h'.get? b=some o)
   (slot:∀ b o,b≠X.env.locals->b∈X.fs->b ∉ ch->s.heap.get? b=some o->H b=none->∃ sl,h'.get? b=some { o with slots:=sl }) (free:∀ b o,b ∉ ch->s.heap.get? b=some o->H b=none->H' b=none)
   (there:∀ b o,b ∉ ch->s.heap.get? b=some o->∃ o',h'.get? b=some o')
   (j6:∀ b xs,H b=some (.tup xs)->H' b=some (.tup xs)) (iS:∀ b o u,H b=some (.ky o u)->H' b=some (.ky o u)) (jB:∀ b ps,H b=some (.zQ ps)->∃ Wf,H' b=some (.zQ (ps++Wf)))
   (ns:∀ m,s.heap.Ns X.env.locals m->h'.Ns X.env.locals m) (az:de X.prog X.w H' h') (hg:AllBare g') :
   Inv X gV Z H' { s with heap:=h',gens:=g',drawn:=d',toks:=t' }:=by
 have neL:∀ b o,X.s₀.heap.get? b=some o->b≠X.env.locals:=λb o e=>aaw (aaC (aam e) I.ok.above);have neC:∀ b o,X.s₀.heap.get? b=some o->b ∉ X.ex->b ∉ ch:=λb o e hx hb=>by
   rcases(W0 b hb).1 with z | z
   . exact hx z
   . exact absurd (aaC (aam e) z) (abB _)
 have cellK:∀ x c,X.env.cells.lookup x=some c->∀ v,s.heap.IsCell c v->h'.IsCell c v:=λx c e v zq=>nO zq λo ho hd=>by
   have nch:c ∉ ch:=λz=>(W0 c z).2.2.1 x c e rfl;by_cases hc:c∈X.fs
   . obtain⟨sl, q⟩ := slot c o (I.Bl x c e) hc nch ho (I.fO x c e);exact⟨_,q,hd⟩
   . exact⟨o,keep c o (I.Bl x c e) hc nch ho (I.fO x c e),hd⟩
 refine⟨I.ok,I.os,hg,⟨λb o e n hb hx=>?_,λb o e n hb hx=>?_,λb o e n hx=>?_,λb o e hx=>?_,λb xs e=>j6 b xs (I.base.j6 b xs e),λb o xs e=>iS b o xs (I.base.iS b o xs e),λb ps e=>?_⟩,?_,λx c e=>?_,?_,λx c e=>?_,λp hp=>?_,az,I.len⟩
 . exact keep b o (neL b o e) hb (neC b o e hx) (I.base.keep b o e n hb hx) (I.base.free b o e n hx)
 . obtain⟨sl, e1⟩ := I.base.slot b o e n hb hx;obtain⟨sl',e2⟩:=slot b _ (neL b o e) hb (neC b o e hx) e1 (I.base.free b o e n hx);exact⟨sl',e2⟩
 . obtain⟨o', e1⟩ := I.base.there b o e hx;exact free b o' (neC b o e hx) e1 (I.base.free b o e n hx)
 . obtain⟨o', e1⟩ := I.base.there b o e hx;exact there b o' (neC b o e hx) e1
 . obtain⟨m1, e1⟩ := I.base.jB b ps e;obtain⟨m2,e2⟩:=jB b _ e1;exact⟨m1++m2,by rw[e2,Array.append_assoc]⟩
 . obtain ⟨m, hn, hl⟩ := I.loc;refine ⟨m,ns m hn,λi x v e1 e2 e3=>?_⟩;obtain ⟨u,r,l⟩:=hl i x v e1 e2 e3;refine ⟨u,r,?_⟩;rcases l with l | ⟨k,c,e,z⟩
   . exact .inl l
   . exact .inr ⟨k,c,e,cellK x c e _ z⟩
 . obtain⟨v, z⟩ := I.cell x c e;exact⟨v,cellK x c e v z⟩
 . obtain⟨m, ⟨o, _, _, ho, _⟩, _⟩ := I.loc;exact free _ o (λz=>(W0 _ z).2.1 rfl) ho I.free
 . obtain⟨v, o, ho, hd⟩ := I.cell x c e;exact free c o (λz=>(W0 c z).2.2.1 x c e rfl) ho (I.fO x c e)
 . obtain⟨e, n, ne, nf, d⟩ := I.pin p hp;have nch:p.1 ∉ ch:=λz=>(W0 p.1 z).2.2.2 p hp rfl;exact⟨keep p.1 p.2 ne nf nch e n,free p.1 p.2 nch e n,ne,nf,d⟩
variable {t':Nat}
theorem Inv.un (I:Inv X gV Z H s)(u:Un X.fs [] H H' s.heap h')(az:de X.prog X.w H' h'):Inv X gV Z H' { s with heap:=h',toks:=t' }:=by
 obtain⟨m,⟨o,es,ep,ho,r⟩,_⟩:=id I.loc;obtain⟨sl,hL⟩:=u.any ho I.free (by simp);exact I.step (g':=s.gens) (d':=s.drawn) (ch:=[]) (λ_ z=>nomatch z) (λb o _ hb _ e n=>u.keep b o e n hb (by simp)) (λb o _ hb _ e n=>u.slot b o e n hb (by simp)) (λb o _ e n=>u.free b o e n (by simp)) (λb o _ e=>u.there b o e (by simp)) u.j6 u.iS u.jB (λm' hm=>by
   obtain⟨o',es',ep',VI,r'⟩:=hm;rw[ho] at VI;cases VI;exact⟨_,es',ep',hL,r'⟩) az I.bare
theorem Inv.call {t':Nat}(I:Inv X gV Z H s)(u:Un (cU X.stack) ch H H' s.heap h')(az:de X.prog X.w H' h')(hg:AllBare g')
   (W0:∀ b∈ch,(b∈X.ex∨X.s₀.heap.objs.size<=b)/\b≠X.env.locals/\(∀ x c,X.env.cells.lookup x=some c->c≠b)/\∀ p∈X.pn++gV,p.1≠b) :
   Inv X gV Z H' { s with heap:=h',gens:=g',drawn:=d',toks:=t' }:=by
 obtain⟨m,⟨o,es,ep,ho,r⟩,_⟩:=id I.loc;obtain⟨sl,hL⟩:=u.any ho I.free λz=>(W0 _ z).2.1 rfl;exact I.step (ch:=ch) W0 (λb o hL hb hc e n=>u.keep b o e n (λz=>(List.mem_cons.mp (I.p8 b z)).elim hL hb) hc) (λb o _ _ hc e n=>u.any e n hc) (λb o hc e n=>u.free b o e n hc) (λb o hc e=>u.there b o e hc) u.j6 u.iS u.jB (λm' hm=>by
   obtain⟨o',es',ep',VI,r'⟩:=hm;rw[ho] at VI;cases VI;exact⟨_,es',ep',hL,r'⟩) az hg
theorem Inv.turned {t':Nat}(I:Inv X gV Z H s)(k:∀ b o,b≠it->s.heap.get? b=some o->h'.get? b=some o)(hn:H it=none)(hL:it≠X.env.locals)
   (h1:it∈X.ex∨X.s₀.heap.objs.size<=it) (h2:∀ x c,X.env.cells.lookup x=some c->c≠it) (h3:∀ p∈X.pn++gV,p.1≠it):Inv X gV Z H { s with heap:=h',toks:=t' }:=by
 have nit:∀ b u,H b=some u->b≠it:=λb u e z=>by rw[z,hn] at e;cases e
 refine I.step (g' := s.gens) (d' := s.drawn) (ch := [it]) (λb hb => ?_) (λb o _ _ hc e _ => k b o (λz => hc (by simp [z])) e) (λb o _ _ hc e _ => ⟨o.slots, k b o (λz => hc (by simp [z])) e⟩) (λ_ _ _ _ n => n)
   (λb o hc e=>⟨o,k b o (λz=>hc (by simp[z])) e⟩) (λ_ _ e=>e) (λ_ _ _ e=>e) (λb ps e=>⟨#[],by rw[e];simp⟩) (λm hm=>?_) (λb u e=>?_) I.bare
 . have e : b = it := by simpa using hb
   subst e;exact⟨h1,hL,h2,h3⟩
 . obtain⟨o, es, ep, ho, r⟩ := hm;exact⟨o,es,ep,k _ o (Ne.symm hL) ho,r⟩
 . refine (I.az b u e).iR (λc v hc q=>k c v ?_ q) (λ_ q=>q) λ_ _ q=>q;rcases hc with z | z
   . rw[z];exact nit b u e
   . exact nit c _ z
theorem Inv.tok (I:Inv X gV Z H s)(t:Nat):Inv X gV Z H { s with toks:=t }:=I.un (h':=s.heap) (t':=t) Un.refl I.az
theorem Inv.kept (I:Inv X gV Z H s)(k:∀ b u,s.heap.get? b=some u->h'.get? b=some u):Inv X gV Z H { s with heap:=h',toks:=t' }:=I.un (Un.kept k) (I.az.kept k)
theorem Inv.laid {t':Nat}(I:Inv X gV Z H s)(k:∀ b u,s.heap.get? b=some u->h'.get? b=some u)(hp:s.heap.objs.size<=a)(new:b9 X.prog X.w (upd H a o) h' a o) :
   Inv X gV Z (upd H a o) { s with heap:=h',toks:=t' }:=I.un (Un.laid k hp (I.az.fresh hp)) (I.az.laid k hp new)
theorem Inv.write {o:HO}{t':Nat}(I:Inv X gV Z H s)(mu:Hi (H x))(he:e=x∨H e=some (.own x))(k:∀ b u,b≠e->s.heap.get? b=some u->h'.get? b=some u)(heo:∃ u,h'.get? e=some u)
   (new:b9 X.prog X.w (upd H x o) h' x o):Inv X gV Z (upd H x o) { s with heap:=h',toks:=t' }:=I.un (Un.write mu he k heo) (I.az.write mu he k heo new)
theorem Inv.qL (I:Inv X gV Z H s)(h:∀ p∈pins',s.heap.get? p.1=some p.2/\H p.1=none/\p.1≠X.env.locals/\p.1 ∉ X.fs/\∀ v,p.2.data≠.cell v):Inv X pins' Z H s :=
 ⟨I.ok,I.os,I.bare,I.base,I.loc,I.cell,I.free,I.fO,λp hp=>(List.mem_append.mp hp).elim (λz=>I.pin p (aa6 _ z)) (h p),I.az,I.len⟩
variable {x:Str} {i:Nat}
theorem z9 {N:List Str}(hN:N.Nodup){j:Nat}(a:N[i]? = some x)(b:N[j]? = some x):i=j:=by
 obtain⟨h1,e1⟩:=List.getElem?_eq_some_iff.mp a;obtain⟨h2,e2⟩:=List.getElem?_eq_some_iff.mp b;exact(List.getElem_inj hN).mp (e1.trans e2.symm)
theorem xY (I:Inv X gV Z H s)(hN:X.N.Nodup)(hi:X.N[i]? = some x)(hx:Loc X.env.scope x)(r:RelV v u)
   (h:∀ s',Inv X gV (Z.set i (some v)) H s'->(∃ a,ab_ a s.heap s'.heap/\(a=X.env.locals∨X.env.cells.lookup x=some a))->Q () s') (hf:X.fn x=true∨X.env.scope.names.lookup x=some .local:=by first | exact .inl rfl | exact .inr rfl | assumption):wpAny M A (storeName X.env x u) Q E s:=by
 obtain⟨m,hn,hl⟩:=id I.loc;have hcls:(X.env.scope.kind == .class || (X.env.scope.kind == .module && X.env.locals != X.env.globals))=false:=by rw[I.ok.kind];rfl
 have hiZ : i < Z.length:=by rw[I.len];exact(List.getElem?_eq_some_iff.mp hi).1
 have Bl:=I.Bl;have UO:∀ {a:Addr} {h':Heap},(∃ o,s.heap.get? a=some o/\H a=none)->ab_ a s.heap h'->de X.prog X.w H h':=λ{a h'} ha hs b ob e=>by
   obtain⟨_,_,hfree⟩:=ha;refine(I.az b ob e).iR (λc w' hc q=>(hs.2 c ?_).trans q) (λ_ q=>q) λ_ _ q=>q;rintro rfl;rcases hc with rfl | hc
   . rw[hfree] at e;cases e
   . rw[hfree] at hc;cases hc
 rcases hx with hk | hk
 . refine wpAny_storeName_local hk hn (λh' hn' hs=>?_) hcls;obtain ⟨oL,_,_,hoL,_⟩:=id hn;refine h _ ⟨I.ok,I.os,I.bare,⟨λb o e n hb hx=>?_,λb o e n hb hx=>?_,I.base.free,λb o e hx=>?_,I.base.j6,I.base.iS,I.base.jB⟩,⟨_,hn',λj y v' e1 e2 e3=>?_⟩,λy c e=>?_,I.free,I.fO,λp hp=>?_,UO ⟨oL,hoL,I.free⟩ hs,by simpa using I.len⟩ ⟨_,hs,.inl rfl⟩
   . exact(hs.2 b (aaw (aaC (aam e) I.ok.above))).trans (I.base.keep b o e n hb hx)
   . obtain⟨sl, e1⟩ := I.base.slot b o e n hb hx;exact⟨sl,(hs.2 b (aaw (aaC (aam e) I.ok.above))).trans e1⟩
   . obtain⟨o', e1⟩ := I.base.there b o e hx;exact⟨o',(hs.2 b (aaw (aaC (aam e) I.ok.above))).trans e1⟩
   . by_cases hj:j=i
     . subst hj;rw[hi] at e1;cases e1;rw[aaO hiZ] at e2;cases e2
       exact⟨u,r,.inl ⟨hk,by simp⟩⟩
     . rw[aaP (Ne.symm hj)] at e2;obtain⟨u',r',q⟩:=hl j y v' e1 e2 e3;refine⟨u',r',?_⟩;rcases q with ⟨k,e⟩ | ⟨k,c,e,z⟩
       . refine .inl ⟨k,?_⟩
         have:y≠x:=λe=>hj (z9 hN e1 (e ▸ hi))
         simp[this,e]
       . exact .inr ⟨k,c,e,z.sameBut hs (Bl y c e)⟩
   . obtain⟨w', z⟩ := I.cell y c e;exact⟨w',z.sameBut hs (Bl y c e)⟩
   . obtain⟨e, n, ne, nf, d⟩ := I.pin p hp;exact⟨(hs.2 p.1 ne).trans e,n,ne,nf,d⟩
 . have hfn : X.fn x = true := by
     rcases hf with z | z
     . exact z
     . rw[z] at hk;cases hk
   obtain⟨c,hc⟩:=I.ok.has x (.inl hk);obtain⟨w',z⟩:=I.cell x c hc;refine wpAny_storeName_cell I.ok.kind hk hc z (λh' hc' hs=>?_);obtain⟨oc,hoc,hocd⟩:=id z;refine h { s with heap:=h' } ⟨I.ok,I.os,I.bare,⟨λb o e n hb hx=>?_,λb o e n hb hx=>?_,I.base.free,λb o e hx=>?_,I.base.j6,I.base.iS,I.base.jB⟩,⟨m,hn.sameBut hs (Ne.symm (Bl x c hc)),λj y v' e1 e2 e3=>?_⟩,λy c' e=>?_,I.free,I.fO,λp hp=>?_,UO ⟨oc,hoc,I.fO x c hc⟩ hs,by simpa using I.len⟩ ⟨c,hs,.inr hc⟩
   . exact(hs.2 b (aaw (aaC (aam e) (I.ok.Bq x c hfn hc)))).trans (I.base.keep b o e n hb hx)
   . obtain⟨sl, e1⟩ := I.base.slot b o e n hb hx;exact⟨sl,(hs.2 b (aaw (aaC (aam e) (I.ok.Bq x c hfn hc)))).trans e1⟩
   . obtain⟨o', e1⟩ := I.base.there b o e hx;exact⟨o',(hs.2 b (aaw (aaC (aam e) (I.ok.Bq x c hfn hc)))).trans e1⟩
   . by_cases hj:j=i
     . subst hj;rw[hi] at e1;cases e1;rw[aaO hiZ] at e2;cases e2
       exact⟨u,r,.inr ⟨.inl hk,c,hc,hc'⟩⟩
     . rw[aaP (Ne.symm hj)] at e2;obtain⟨u',r',q⟩:=hl j y v' e1 e2 e3;refine⟨u',r',?_⟩;rcases q with q | ⟨k,c',e,z'⟩
       . exact .inl q
       . refine .inr ⟨k,c',e,z'.sameBut hs ?_⟩;rintro rfl;exact hj (z9 hN e1 (I.ok.inj _ _ _ e hc ▸ hi))
   . by_cases hcc:c'=c
     . subst hcc;exact⟨_,hc'⟩
     . obtain⟨w2, z2⟩ := I.cell y c' e;exact⟨w2,z2.sameBut hs hcc⟩
   . obtain⟨e, n, ne, nf, d⟩ := I.pin p hp;refine⟨(hs.2 p.1 ?_).trans e,n,ne,nf,d⟩;intro q;rw[q,hoc] at e;have q':oc=p.2:=aax e;exact d w' (by rw[<- q'];exact hocd)
theorem m9 (I:Inv X gV Z H s)(hN:X.N.Nodup)(hi:X.N[i]? = some x)(hx:Loc X.env.scope x)(r:RelV v u)
   (h:∀ s',Inv X gV (Z.set i (some v)) H s'->Q () s') (hf:X.fn x=true∨X.env.scope.names.lookup x=some .local:=by first | exact .inl rfl | exact .inr rfl | assumption):wpAny M A (storeName X.env x u) Q E s :=
 xY I hN hi hx r (λs' I' _=>h s' I') hf
theorem Inv.vc (I:Inv X gV Z H s)(ho:s'.os=s.os)(u:Un (cU X.stack) ch H H' s.heap s'.heap)(az:de X.prog X.w H' s'.heap)(hg:AllBare s'.gens)
   (W0:∀ b∈ch,(b∈X.ex∨X.s₀.heap.objs.size<=b)/\b≠X.env.locals/\(∀ x c,X.env.cells.lookup x=some c->c≠b)/\∀ p∈X.pn++gV,p.1≠b):Inv X gV Z H' s':=by
 obtain⟨h',g',d',t',o'⟩:=s';have e:o'=s.os:=ho;subst e;exact I.call (g':=g') (t':=t') (d':=d') u az hg W0
end
abbrev XK:=Value->Option Addr->Hp->Prop
abbrev St:=List (Option V)
abbrev VK:=V->Hp->Prop
abbrev TE:=St->Hp->VK->Prop
abbrev TT:=St->Hp->(Bool->Hp->Prop)->Prop
abbrev TA:=St->Hp->(List V->Hp->Prop)->Prop
structure Ends where
 nx:St->Hp->Prop
 rt:VK
 bk:St->Hp->Prop:=λ_ _=>False
 ct:St->Hp->Prop:=λ_ _=>False
abbrev TS:=Ends->St->Hp->Prop
def EP (X:Cx)(gV:List (Addr×Obj))(Z : St)(Q:VK)(u:Value)(s':Shared):Prop:=∃ v H',Inv X gV Z H' s'/\RelV v u/\Q v H'
def TP (X:Cx)(gV:List (Addr×Obj))(Z : St)(Q:Bool->Hp->Prop)(b:Bool)(s':Shared):Prop:=∃ H',Inv X gV Z H' s'/\Q b H'
def AP (X:Cx)(gV:List (Addr×Obj))(Z : St)(Q:List V->Hp->Prop)(us:List Value)(s':Shared):Prop:=∃ vs H',Inv X gV Z H' s'/\aM vs us/\Q vs H'
def SP (X:Cx)(gV:List (Addr×Obj))(D:Ends)(f:Flow)(s':Shared):Prop :=
 match f with
 | .next=>∃ Z' H',Inv X gV Z' H' s'/\D.nx Z' H'
 | .brk=>∃ Z' H',Inv X gV Z' H' s'/\D.bk Z' H'
 | .cont=>∃ Z' H',Inv X gV Z' H' s'/\D.ct Z' H'
 | .ret u=>∃ v Z' H',Inv X gV Z' H' s'/\RelV v u/\D.rt v H'
def PE (X:Cx)(e:Expr)(t:TE):Prop :=
 ∀ (gV:List (Addr×Obj)) (s:Shared) (Z : St) (H:Hp) (Q:VK),Inv X gV Z H s->t Z H Q->wpAny (model X.prog X.w) X.A (eval e X.env) (EP X gV Z Q) X.xe s
def PT (X:Cx)(e:Expr)(t:TT):Prop :=
 ∀ (gV:List (Addr×Obj)) (s:Shared) (Z : St) (H:Hp) (Q:Bool->Hp->Prop),Inv X gV Z H s->t Z H Q->wpAny (model X.prog X.w) X.A (isTrue e X.env (eval e X.env)) (TP X gV Z Q) X.xe s
def PW (X:Cx)(e:Expr)(t:TT):Prop :=
 ∀ (TJ:Sem Value) (gV:List (Addr×Obj)) (s:Shared) (Z : St) (H:Hp) (Q:Bool->Hp->Prop),Inv X gV Z H s->t Z H Q->wpAny (model X.prog X.w) X.A (isTrue e X.env TJ) (TP X gV Z Q) X.xe s
variable {e:Expr}
theorem PW.pt (h:PW X e t):PT X e t:=h _
def PA (X:Cx)(es:List Expr)(t:TA):Prop :=
 ∀ (pos:Pos) (gV:List (Addr×Obj)) (s:Shared) (Z : St) (H:Hp) (Q:List V->Hp->Prop),Inv X gV Z H s->t Z H Q->wpAny (model X.prog X.w) X.A (spliced (backTo pos (aai es X.env))) (AP X gV Z Q) X.xe s
def PS (X:Cx)(st:Stmt)(t:TS):Prop :=
 ∀ (gV:List (Addr×Obj)) (s:Shared) (Z : St) (H:Hp) (D:Ends),Inv X gV Z H s->t D Z H->wpAny (model X.prog X.w) X.A (exec st X.env) (SP X gV D) X.xe s
def gj (X:Cx)(st:List Stmt)(t:TS):Prop :=
 ∀ (gV:List (Addr×Obj)) (s:Shared) (Z : St) (H:Hp) (D:Ends),Inv X gV Z H s->t D Z H->wpAny (model X.prog X.w) X.A (execs st X.env) (SP X gV D) X.xe s
variable {s:Shared} {E:Value->Shared->Prop} {A:Around} {M:Model}
theorem aS (h:wpAny M A t Q E s)(hQ:∀ a s,Q a s->Q' a s):wpAny M A t Q' E s:=aaI h hQ λ_ _ x=>x
section
variable {X:Cx}
@[reducible] def Rr:Option V->(V->Prop)->Prop
 | some v,k=>k v
 | none,_=>False
@[reducible] def IS:St->Nat->(V->Prop)->Prop
 | [],_,_=>False
 | o::_,0,k=>Rr o k
 | _::r,n+1,k=>IS r n k
@[reducible] def JD:St->Nat->V->(St->Prop)->Prop
 | [],_,_,k=>k []
 | _::r,0,v,k=>k (some v::r)
 | o::r,n+1,v,k=>JD r n v λr'=>k (o::r')
@[reducible] def JO:V->(Bool->Prop)->Prop
 | .bl b,k=>k b
 | _,_=>False
@[reducible] def Gg:V->(Int->Prop)->Prop
 | .int b,k=>k b
 | _,_=>False
@[reducible] def MN:V->(V->Prop)->Prop
 | .int i,k=>k (.int i)
 | .bl b,k=>k (.bl b)
 | v,k=>k v
@[reducible] def Dv:List V->Nat->Prop->Prop
 | [],_,p=>p
 | _::r,n+1,p=>Dv r n p
 | _::_,0,_=>False
theorem GO (h:MN x k):k x:=by cases x <;> exact h
theorem qv:∀ {xs:List V} {n:Nat} {p:Prop},Dv xs n p->xs.length<=n/\p
 | [],_,_,h=>⟨aaU _,h⟩
 | _::r,n+1,p,h=>⟨adb (qv (xs:=r) (n:=n) (p:=p) h).1,(qv (xs:=r) (n:=n) (p:=p) h).2⟩
theorem CZ:∀ {Z : St} {i:Nat} {k:V->Prop},IS Z i k->∃ v,Z[i]? = some (some v)/\k v
 | some v::_,0,_,h=>⟨v,rfl,h⟩
 | _ :: r, n + 1, k, h => by
   obtain⟨v,e,q⟩:=CZ (Z:=r) (i:=n) (k:=k) h;exact⟨v,by rw[List.getElem?_cons_succ];exact e,q⟩
theorem qG:∀ (Z : St) (i:Nat) (v:V) (k:St->Prop),JD Z i v k ↔ k (Z.set i (some v))
 | [],_,_,_=>Iff.rfl
 | _::_,0,_,_=>Iff.rfl
 | o::r,n+1,v,k=>qG r n v λr'=>k (o::r')
theorem uc (h:JO x k):∃ b,x=.bl b/\k b:=by
 cases x with
 | bl b=>exact⟨b,rfl,h⟩
 | _=>exact h.elim
theorem vz (h:Gg x k):∃ b,x=.int b/\k b:=by
 cases x with
 | int b=>exact⟨b,rfl,h⟩
 | _=>exact h.elim
variable {x:Str} {i:Nat}
@[reducible] def aA (i:Nat):TE:=λZ H Q=>IS Z i λv=>Q v H
@[reducible] def tC (v:V):TE:=λ_ H Q=>Q v H
theorem FY (hN:X.N[i]? = some x)(hv:OU X.env.scope x)(hd:(x == ("__debug__" : Str))=false:=by decide)(Ua:(x == ("__classdict__" : Str))=false:=by decide):PE X (.Name x pos) (aA i):=by
 intro gV s Z H Q I h;obtain⟨v,e,h⟩:=CZ h;obtain⟨m,hn,hl⟩:=I.loc;obtain⟨u,r,l⟩:=hl i x v hN e hv;have Ta:EP X gV Z Q u s:=⟨v,H,I,r,h⟩
 rcases l with ⟨hk,hm⟩ | ⟨hk,c,hc,hcell⟩
 . exact wpAny_Name (wpAny_loadName_local I.ok.kind hk hn hm Ta) hd
 . rcases hk with hk | hk
   . exact wpAny_Name (wpAny_loadName_cell I.ok.kind hk hc hcell Ta) hd
   . exact wpAny_Name (wpAny_loadName_free I.ok.kind hk hc hcell Ta Ua) hd
theorem aX {i j pos}:PE X (.Constant (.int i) j pos) (tC (.int i)):=λ_ _ _ H _ I h=>wpAny_Constant_int ⟨.int i,H,I.tok _,⟨_,rfl⟩,h⟩
theorem J3 {b j pos}:PE X (.Constant (.bool b) j pos) (tC (.bl b)):=λ_ _ _ H _ I h=>Constant_bool ⟨.bl b,H,I,rfl,h⟩
theorem j7:PE X (.Constant .none j pos) (tC .aC):=λ_ _ _ H _ I h=>Constant_none ⟨.aC,H,I,rfl,h⟩
theorem gP {x j pos}:PE X (.Constant (.str x) j pos) (tC (.str x)):=λ_ _ _ H _ I h=>Calls.Constant_str ⟨.str x,H,I.tok _,⟨_,rfl⟩,h⟩
def Gl (X:Cx)(x:Str):Prop:=X.env.kindOf x=some .globalImplicit
variable {Z : St} {gV:List (Addr×Obj)}
theorem eT {E:Value->Shared->Prop}(I:Inv X gV Z H s)(hg:Gl X x)(hm:X.mg x=some u)(h:Q u s)
   (hd:(x == ("__debug__" : Str))=false:=by decide):wpAny (model X.prog X.w) X.A (eval (.Name x pos) X.env) Q E s :=
 Calls.Name_function_global I.ok.kind hg (Calls.loadGlobal_global (by rw[I.ok.glob];exact I.mod.glob.keeps I.bk) hm h) hd
theorem iM {E:Value->Shared->Prop}(I:Inv X gV Z H s)(hg:Gl X x)(hm:X.mg x=none)(hv:aaX x=some u)(h:Q u s)
   (hn:x ≠ "__name__":=by decide) (hd:(x == ("__debug__" : Str))=false:=by decide):wpAny (model X.prog X.w) X.A (eval (.Name x pos) X.env) Q E s:=by
 obtain⟨mb,h1,h2⟩:=I.mod.blt;exact Calls.Name_function_global I.ok.kind hg (Calls.loadGlobal_builtin (by rw[I.ok.glob];exact I.mod.glob.keeps I.bk) hm (by rw[I.ok.blt];exact h1.keeps I.bk) ((h2 x hn).trans hv) h) hd
theorem gb (hg:Gl X x)(hm:X.mg x=some u)(r:RelV v u)(hd:(x == ("__debug__" : Str))=false:=by decide):PE X (.Name x pos) (tC v) :=
 λ_ _ _ H _ I h=>eT I hg hm ⟨v,H,I,r,h⟩ hd
variable {a b:Expr} {ta tb:TE} {pos:Pos}
def PC (X:Cx)(op:CmpOp)(a b:Expr)(t:TE):Prop :=
 ∀ (gV:List (Addr×Obj)) (s:Shared) (Z : St) (H:Hp) (Q:VK),Inv X gV Z H s->t Z H Q ->
   wpAny (model X.prog X.w) X.A (eval a X.env) (λv s₁=>wpAny (model X.prog X.w) X.A (eval b X.env) (λu s₂=>wpAny (model X.prog X.w) X.A (aaV op v u) (EP X gV Z Q) X.xe s₂) X.xe s₁) X.xe s
def tB (t:TE):TT:=λZ H Q=>t Z H λx H1=>∃ c,x=.bl c/\Q c H1
variable {op:CmpOp}
theorem Bz {t:TE}(h:PC X op a b t)(h1:adn op b=false:=by first | exact nobehind _ (by decide) (by decide) | rfl):PT X (.Compare a [op] [b] pos) (tB t):=by
 intro gV s Z H Q I hw;refine wpAny_isTrue_Compare1 (aS (h gV s Z H _ I hw) λv s1 h1=>aS h1 λu s2 h2=>aS h2 λc s3 zq=>bQ zq λx H1 I1 r1 q1=>?_) h1;obtain⟨d,rfl,q⟩:=q1;cases r1
 exact abk ⟨H1,I1,q⟩
variable {tA WE:TT} {rest:List Expr}
@[reducible] def Og (t u:TT):TT:=λZ H Q=>t Z H λc H1=>if c=true then u Z H1 Q else Q false H1
@[reducible] def JQ (t u:TT):TT:=λZ H Q=>t Z H λc H1=>if c=true then Q true H1 else u Z H1 Q
@[reducible] def EJ (t:TT):TT:=λZ H Q=>t Z H λc H1=>Q (!c) H1
theorem l6 (ha:PT X a tA):PW X (.BoolOp .And [a] pos) tA:=by
 intro wh gV s Z H Q I h;refine isTrue_and (aS (ha gV s Z H Q I h) λc s1 e=>?_);cases c with
 | true=>exact isTrue_and_nil e
 | false=>exact e
theorem Gm (ha:PT X a tA):PW X (.BoolOp .Or [a] pos) tA:=by
 intro wh gV s Z H Q I h;refine isTrue_or (aS (ha gV s Z H Q I h) λc s1 e=>?_);cases c with
 | false=>exact isTrue_or_nil e
 | true=>exact e
theorem lX (ha:PT X a tA)(hb:PW X (.BoolOp .And (b::rest) pos) WE):PW X (.BoolOp .And (a::b::rest) pos) (Og tA WE):=by
 intro wh gV s Z H Q I h;refine isTrue_and (aS (ha gV s Z H _ I h) λc s1 zq=>nO zq λH1 I1 q1=>?_);cases c with
 | true=>exact hb wh gV s1 Z H1 Q I1 q1
 | false=>exact⟨H1,I1,q1⟩
theorem EU (ha:PT X a tA)(hb:PW X (.BoolOp .Or (b::rest) pos) WE):PW X (.BoolOp .Or (a::b::rest) pos) (JQ tA WE):=by
 intro wh gV s Z H Q I h;refine isTrue_or (aS (ha gV s Z H _ I h) λc s1 zq=>nO zq λH1 I1 q1=>?_);cases c with
 | true=>exact⟨H1,I1,q1⟩
 | false=>exact hb wh gV s1 Z H1 Q I1 q1
theorem Np (ha:PT X a tA):PT X (.UnaryOp .Not a pos) (EJ tA):=by
 intro gV s Z H Q I h;exact isTrue_not (ha gV s Z H (λc H1=>Q (!c) H1) I h)
@[reducible] def PK (ta tb:TE):TE:=λZ H Q=>ta Z H λx H1=>JO x λc=>if c=true then tb Z H1 Q else Q (.bl false) H1
@[reducible] def Ru (ta tb:TE):TE:=λZ H Q=>ta Z H λx H1=>JO x λc=>if c=true then Q (.bl true) H1 else tb Z H1 Q
theorem Gi {op}{t:TE}(h:PE X a t):PE X (.BoolOp op [a] pos) t:=λgV s Z H Q I hw=>BoolOp_one (h gV s Z H Q I hw)
theorem Nt (ha:PE X a ta)(hb:PE X (.BoolOp .And (b::rest) pos) tb):PE X (.BoolOp .And (a::b::rest) pos) (PK ta tb):=by
 intro gV s Z H Q I h;refine BoolOp_and (aS (ha gV s Z H _ I h) λv s1 zq=>bQ zq λx H1 I1 r1 q1=>?_);obtain⟨c,rfl,q1⟩:=uc q1;cases r1
 refine abk ?_;cases c with
 | true=>exact hb gV s1 Z H1 Q I1 q1
 | false=>exact⟨.bl false,H1,I1,rfl,q1⟩
theorem Kz (ha:PE X a ta)(hb:PE X (.BoolOp .Or (b::rest) pos) tb):PE X (.BoolOp .Or (a::b::rest) pos) (Ru ta tb):=by
 intro gV s Z H Q I h;refine BoolOp_or (aS (ha gV s Z H _ I h) λv s1 zq=>bQ zq λx H1 I1 r1 q1=>?_);obtain⟨c,rfl,q1⟩:=uc q1;cases r1
 refine abk ?_;cases c with
 | false=>exact hb gV s1 Z H1 Q I1 q1
 | true=>exact⟨.bl true,H1,I1,rfl,q1⟩
@[reducible] def Su (t:TT) (ta tb:TE):TE:=λZ H Q=>t Z H λc H1=>if c=true then ta Z H1 Q else tb Z H1 Q
theorem tN {c:Expr}(hc:PT X c tA)(ha:PE X a ta)(hb:PE X b tb):PE X (.IfExp c a b pos) (Su tA ta tb):=by
 intro gV s Z H Q I h;refine wpAny_IfExp (aS (hc gV s Z H _ I h) λd s1 zq=>nO zq λH1 I1 q1=>?_);cases d with
 | true=>exact ha gV s1 Z H1 Q I1 q1
 | false=>exact hb gV s1 Z H1 Q I1 q1
end
def ar (K:W.Frag)(H:Hp)(a:Addr)(xs:List V):Prop :=
 Rd H a (.lst xs) ∨
   ∃ (o:Obj) (its:Array Value) (n:Nat),K.lookup a=some o/\o.cls=.type "list"/\o.dict=none/\o.data=.seq its n/\its.size<=aal/\aM xs its.toList
def aI (K:W.Frag)(H:Hp)(a:Addr)(xs:List V):Prop :=
 Rd H a (.tup xs) ∨
   ∃ (o:Obj) (its:Array Value) (n:Nat),K.lookup a=some o/\o.cls=.type "tuple"/\o.data=.seq its n/\its.size<=aal/\aM xs its.toList
def Ri:Value->Option V
 | .none=>some .aC
 | .bool b=>some (.bl b)
 | .int i _=>some (.int i)
 | .str x _=>some (.str x)
 | .bytes b _=>some (.byt b)
 | .float b _=>some (.AU b)
 | .ref a=>some (.ref a)
 | .type n=>some (.ty n)
 | _=>none
theorem RelV.abs (r:RelV x u):Ri u=some x:=by
 cases x with
 | aC=>cases r;rfl
 | bl _=>cases r;rfl
 | int _=>obtain⟨t,rfl⟩:=r;rfl
 | str _=>obtain⟨t,rfl⟩:=r;rfl
 | byt _=>obtain⟨t,rfl⟩:=r;rfl
 | AU _=>obtain⟨t,rfl⟩:=r;rfl
 | ref _=>cases r;rfl
 | ty _=>cases r;rfl
theorem RelV.inj (r:RelV x u)(q:RelV y u):x=y:=aax (r.abs.symm.trans q.abs)
theorem aM.inj:∀ {xs ys:List V} {us:List Value},aM xs us->aM ys us->xs=ys
 | _,_,_,.nil,.nil=>rfl
 | _,_,_,.cons r t,.cons r' t'=>by rw[r.inj r',aM.inj t t']
section
variable {X:Cx} {gV:List (Addr×Obj)} {Z : St} {H:Hp} {s:Shared} {a:Addr} {xs ys:List V}
theorem ar.of {K:W.Frag}(h:H a=some (.lst xs)):ar K H a xs:=.inl (.inl h)
theorem aI.of {K:W.Frag}(h:H a=some (.tup xs)):aI K H a xs:=.inl (.inl h)
theorem Inv.list (I:Inv X gV Z H s)(h:ar X.K H a xs):∃ its:List Value,aM xs its/\PlainL s.heap a its.toArray/\xs.length<=aal:=by
 rcases h with h | ⟨o,its,n,hk,hc,hd,hs,hz,r⟩
 . obtain⟨z, its, n, r, e⟩ := h.ok I.az;exact⟨its,r,⟨_,n,e,rfl,rfl,rfl⟩,z⟩
 . refine⟨its.toList, r, ⟨o, n, I.df a o hk, hc, hd, by simpa using hs⟩, ?_⟩;have e:=r.length;simp only[ab5] at e;omega
theorem Inv.tuple (I:Inv X gV Z H s)(h:aI X.K H a xs):∃ its:List Value,aM xs its/\IsTup s.heap a its.toArray/\xs.length<=aal:=by
 rcases h with h | ⟨o,its,n,hk,hc,hs,hz,r⟩
 . obtain⟨z, its, r, p⟩ := h.ok I.az;exact⟨its,r,p,z⟩
 . refine⟨its.toList, r, ⟨o, I.df a o hk, hc, n, by simpa using hs⟩, ?_⟩;have e:=r.length;simp only[ab5] at e;omega
theorem Inv.tV (I:Inv X gV Z H s)(h:ar X.K H a xs)(h':ar X.K H a ys):xs=ys:=by
 obtain⟨its,r,⟨o,n,e,_,_,d⟩,_⟩:=I.list h;obtain⟨its',r',⟨o',n',e',_,_,d'⟩,_⟩:=I.list h';rw[e] at e';cases e';rw[d] at d';injection d' with d1 _
 have:its=its':=by simpa using congrArg Array.toList d1
 subst this;exact r.inj r'
theorem Inv.yg (I:Inv X gV Z H s)(h:aI X.K H a xs)(h':aI X.K H a ys):xs=ys:=by
 obtain⟨its,r,⟨o,e,_,n,d⟩,_⟩:=I.tuple h;obtain⟨its',r',⟨o',e',_,n',d'⟩,_⟩:=I.tuple h';rw[e] at e';cases e';rw[d] at d';injection d' with d1 _
 have:its=its':=by simpa using congrArg Array.toList d1
 subst this;exact r.inj r'
end
abbrev Cx.fQ (X:Cx)(E:Value->Shared->Prop):Cx:={ X with xe:=E }
abbrev Cx.eV (X:Cx):Cx:=X.fQ λ_ _=>False
theorem Cx.Ok.fQ {X:Cx}(ok:X.Ok)(E:Value->Shared->Prop):(X.fQ E).Ok :=
 ⟨ok.mod,ok.kind,ok.glob,ok.blt,ok.above,ok.inj,ok.has,ok.Bq,ok.hd,ok.frames,ok.Di,ok.Ks,ok.bs,ok.rl,ok.tW,ok.xb,ok.gH,ok.vt⟩
theorem Cx.Ok.d7 {X:Cx}(ok:(X.fQ E).Ok):X.Ok :=
 ⟨ok.mod,ok.kind,ok.glob,ok.blt,ok.above,ok.inj,ok.has,ok.Bq,ok.hd,ok.frames,ok.Di,ok.Ks,ok.bs,ok.rl,ok.tW,ok.xb,ok.gH,ok.vt⟩
section
variable {X:Cx} {gV:List (Addr×Obj)} {Z : St} {H:Hp} {s:Shared} {E:Value->Shared->Prop}
theorem Inv.fQ (I:Inv X gV Z H s)(E:Value->Shared->Prop):Inv (X.fQ E) gV Z H s:=⟨I.ok.fQ E,I.os,I.bare,I.base,I.loc,I.cell,I.free,I.fO,I.pin,I.az,I.len⟩
theorem Inv.d7 (I:Inv (X.fQ E) gV Z H s):Inv X gV Z H s:=⟨I.ok.d7,I.os,I.bare,I.base,I.loc,I.cell,I.free,I.fO,I.pin,I.az,I.len⟩
theorem SP.d7 (h:SP (X.fQ E) gV D f s'):SP X gV D f s':=by
 cases f with
 | next=>obtain⟨Z',H',I,q⟩:=h;exact⟨Z',H',I.d7,q⟩
 | brk=>obtain⟨Z',H',I,q⟩:=h;exact⟨Z',H',I.d7,q⟩
 | cont=>obtain⟨Z',H',I,q⟩:=h;exact⟨Z',H',I.d7,q⟩
 | ret u=>obtain⟨v,Z',H',I,r,q⟩:=h;exact⟨v,Z',H',I.d7,r,q⟩
theorem PT.eV {t:TT}(h:PT X.eV e t):PT X e t:=λgV s Z H Q I hw =>
 aaI (h gV s Z H Q (I.fQ _) hw) (λ_ _ zq=>nO zq λH' I' q=>⟨H',I'.d7,q⟩) λ_ _ z=>aaW z
theorem gj.eV {st:List Stmt}{t:TS}(h:gj X.eV st t):gj X st t:=λgV s Z H D I hw =>
 aaI (h gV s Z H D (I.fQ _) hw) (λ_ _ q=>q.d7) λ_ _ z=>aaW z
end
section
variable {X:Cx} {st:Stmt} {rest:List Stmt} {t u:TS} {e:Expr} {te:TE} {pos:Pos}
@[reducible] def dJ:TS:=λD Z H=>D.nx Z H
@[reducible] def bY (t u:TS):TS:=λD Z H=>t { D with nx:=u D } Z H
theorem cL:gj X [] dJ:=λ_ _ Z H _ I h=>abK ⟨Z,H,I,h⟩
theorem aW (h1:PS X st t)(h2:gj X rest u):gj X (st::rest) (bY t u):=by
 intro gV s Z H D I h;refine adu (aS (h1 gV s Z H { D with nx:=u D } I h) λf s1 q=>?_);cases f with
 | next =>
   obtain⟨Z',H',I',q⟩:=q;exact h2 gV s1 Z' H' D I' q
 | ret v=>exact q
 | brk=>exact q
 | cont=>exact q
theorem fq (h1:PS X st t):gj X [st] t:=by
 intro gV s Z H D I h;refine adu (aS (h1 gV s Z H D I h) λf s1 q=>?_);cases f with
 | next=>exact abK q
 | ret v=>exact q
 | brk=>exact q
 | cont=>exact q
variable {Z : St} {gV:List (Addr×Obj)}
theorem Inv.quiet (I:Inv X gV Z H s):interactive X.env=false:=by simp[interactive,I.ok.kind]
@[reducible] def yY (te:TE):TS:=λD Z H=>te Z H λ_ H1=>D.nx Z H1
theorem fZ (he:PE X e te)(hs:acU e none pos.line X.env=pure false:=by rfl):PS X (.Expr e pos) (yY te):=by
 intro gV s Z H D I h;exact wpAny_Expr_any (aS (he gV s Z H _ I h) λv s1 zq=>bQ zq λx H1 I1 r1 q1=>⟨Z,H1,I1,q1⟩) I.quiet hs
@[reducible] def iN (te:TE):TS:=λD Z H=>te Z H D.rt
theorem iE (he:PE X e te):PS X (.Return (some e) pos) (iN te):=by
 intro gV s Z H D I h;exact wpAny_Return_some (aS (he gV s Z H _ I h) λv s1 zq=>bQ zq λx H1 I1 r1 q1=>⟨x,Z,H1,I1,r1,q1⟩)
@[reducible] def Qu:TS:=λD _ H=>D.rt .aC H
theorem CJ:PS X (.Return none pos) Qu:=λ_ _ Z H _ I h=>wpAny_Return_none ⟨.aC,Z,H,I,rfl,h⟩
@[reducible] def eC (c:TT) (t u:TS):TS:=λD Z H=>c Z H λb H1=>if b=true then t D Z H1 else u D Z H1
theorem J9 {c:Expr}{a b:List Stmt}{tc:TT}(hc:PT X c tc)(ha:gj X a t)(hb:gj X b u):PS X (.If c a b pos) (eC tc t u):=by
 intro gV s Z H D I h;refine wpAny_If (aS (hc gV s Z H _ I h) λd s1 zq=>nO zq λH1 I1 q1=>?_);cases d with
 | true=>exact ha gV s1 Z H1 D I1 q1
 | false=>exact hb gV s1 Z H1 D I1 q1
def NU:TS:=λ_ _ _=>False
theorem Jc:PS X st NU:=λ_ _ _ _ _ _ h=>h.elim
end
abbrev TG:=V->St->Hp->(St->Hp->Prop)->Prop
abbrev xO:=List V->St->Hp->(St->Hp->Prop)->Prop
def PG (X:Cx)(Uo:Expr)(t:TG):Prop :=
 ∀ (gV:List (Addr×Obj)) (s:Shared) (Z : St) (H:Hp) (v:V) (u:Value) (Q:St->Hp->Prop),Inv X gV Z H s->RelV v u->t v Z H Q ->
   wpAny (model X.prog X.w) X.A (assign Uo X.env u) (λ_ s'=>∃ Z' H',Inv X gV Z' H' s'/\Q Z' H') X.xe s
def F5 (X:Cx)(ts:List Expr)(t:xO):Prop :=
 ∀ (gV:List (Addr×Obj)) (s:Shared) (Z : St) (H:Hp) (vs:List V) (us:List Value) (Q:St->Hp->Prop),Inv X gV Z H s->aM vs us->t vs Z H Q ->
   wpAny (model X.prog X.w) X.A (assignInOrder ((acP ts X.env).map (·.2)) us) (λ_ s'=>∃ Z' H',Inv X gV Z' H' s'/\Q Z' H') X.xe s
abbrev DC:=V->V->V->Hp->(Hp->Prop)->Prop
def Mt (X:Cx)(t:DC):Prop :=
 ∀ (gV:List (Addr×Obj)) (s:Shared) (Z : St) (H:Hp) (o i v:V) (ov iv u:Value) (Q:Hp->Prop),Inv X gV Z H s->RelV o ov->RelV i iv->RelV v u->t o i v H Q ->
   wpAny (model X.prog X.w) X.A (setItem ov iv u) (λ_ s'=>∃ H',Inv X gV Z H' s'/\Q H') X.xe s
section
variable {X:Cx} {pos:Pos}
variable {x:Str} {i:Nat}
@[reducible] def bg (i:Nat):TG:=λv Z H Q=>JD Z i v λZ1=>Q Z1 H
theorem bS (hN:X.N.Nodup)(hi:X.N[i]? = some x)(hx:Loc X.env.scope x)(hf:X.fn x=true∨X.env.scope.names.lookup x=some .local:=by first | exact .inl rfl | exact .inr rfl | assumption):PG X (.Name x pos) (bg i):=by
 intro gV s Z H v u Q I r h;exact wpAny_assign_Name (m9 I hN hi hx r (λs' I'=>⟨_,H,I',(qG _ _ _ _).1 h⟩) hf)
def OE:xO:=λvs Z H Q=>vs=[]/\Q Z H
def JJ (t:TG)(u:xO):xO:=λvs Z H Q=>∃ v r,vs=v::r/\t v Z H λZ' H'=>u r Z' H' Q
theorem vU:F5 X [] OE:=by
 intro gV s Z H vs us Q I r h;obtain⟨e,h⟩:=h;subst e;cases r
 exact assignInOrder_nil ⟨Z,H,I,h⟩
theorem jG {es:List Expr}{t:TG}{u:xO}(h1:PG X e t)(h2:F5 X es u)
   (hs:(acP (e::es) X.env).map (·.2)=assign e X.env::(acP es X.env).map (·.2):=by rfl):F5 X (e::es) (JJ t u):=by
 intro gV s Z H vs us Q I r h;obtain⟨v,vr,e1,h⟩:=h;subst e1;cases r with
 | cons r rr =>
   rw[hs];refine assignInOrder_cons (aS (h1 gV s Z H _ _ _ I r h) λ_ s1 zq=>?_);obtain⟨Z1,H1,I1,q1⟩:=zq;exact h2 gV s1 Z1 H1 _ _ Q I1 rr q1
def Ja (K:W.Frag)(n:Nat)(t:xO):TG:=λv Z H Q=>∃ a xs,v=.ref a/\aI K H a xs/\xs.length=n/\t xs Z H Q
theorem OF (hc:X.calm=true)(h:F5 X es t)
   (hn:(acP es X.env).length=n:=by rfl) (Tg:(acP es X.env).findIdx? (·.1)=none:=by rfl):PG X (.Tuple es k pos) (Ja X.K n t):=by
 intro gV s Z H v u Q I r hw;obtain⟨a,xs,e1,hq,hl,hw⟩:=hw;subst e1;cases r
 obtain⟨its,rv,ht,hz⟩:=I.tuple hq;refine assign_Tuple_tuple (I.ok.hd hc) ht (by simp[hn,<- hl,rv.length]) Tg λh' hx=>?_;have I1:Inv X gV Z H { s with heap:=h' }:=I.kept (t':=s.toks) λb o e=>hx b o (aaw (aam e)) e;exact h gV _ Z H xs _ Q I1 (by simpa using rv) hw
@[reducible] def M2 (to ti:TE) (t:DC):TG:=λv Z H Q=>to Z H λo H1=>ti Z H1 λi H2=>t o i v H2 λH3=>Q Z H3
theorem NB {o i:Expr}{to ti:TE}{t:DC}(ho:PE X o to)(hi:PE X i ti)(hs:Mt X t)
   (ha : ∀ v, assign (.Subscript o i pos) X.env v = (do
     let ov <- holding [v] (eval o X.env)
     let iv <- holding [v,ov] (eval i X.env)
     standAt pos
     holding [v,ov,iv] (setItem ov iv v)
     release [v,ov,iv] []):=by intro _;rfl):PG X (.Subscript o i pos) (M2 to ti t):=by
 intro gV s Z H v u Q I r h;rw[ha];refine aad (aba (aS (ho gV s Z H _ I h) λov s1 zq=>bQ zq λx H1 I1 r1 q1=>?_));refine aad (aba (aS (hi gV s1 Z H1 _ I1 q1) λiv s2 zq=>bQ zq λy H2 I2 r2 q2=>?_));refine aad (acr (aad (aba (aS (hs gV s2 Z H2 x y v ov iv u _ I2 r1 r2 r q2) λ_ s3 zq=>nO zq λH3 I3 q3=>?_))));exact wpAny_release ⟨Z,H3,I3,q3⟩
variable {tg:Expr}
@[reducible] def dk (te:TE) (g:TG):TS:=λD Z H=>te Z H λx H1=>g x Z H1 D.nx
theorem MY {te : TE}{g : TG}(he : PE X e te)(hg : PG X tg g)(hs : swapsWithSole [tg] e pos.line X.env = pure false := by rfl)(hw : swappedStores [tg] e X.env = pure none := by rfl)
   (h1:(acP [tg] X.env).map (·.2)=[assign tg X.env]:=by rfl):PS X (.Assign [tg] e pos) (dk te g):=by
 intro gV s Z H D I h;refine wpAny_Assign_stores (aS (he gV s Z H _ I h) λv s1 zq=>bQ zq λx H1 I1 r1 q1=>?_) hs hw;rw[h1];exact aS (hg gV s1 Z H1 x v _ I1 r1 q1) λ_ s2 q=>q
theorem c8 {te : TE}{Tx : Pos}(hN : X.N.Nodup)(hi : X.N[i]? = some x)(hx : Loc X.env.scope x)(he : PE X e te)(hs : acU e (some (.Name x Tx)) pos.line X.env = pure false := by rfl)(hf : X.fn x = true ∨ X.env.scope.names.lookup x = some .local := by first | exact .inl rfl | exact .inr rfl | assumption) :
   PS X (.Assign [.Name x Tx] e pos) (dk te (bg i)):=by
 intro gV s Z H D I h;refine wpAny_Assign_Name (aS (he gV s Z H _ I h) λv s1 zq=>bQ zq λy H1 I1 r1 q1=>?_) hs;exact m9 I1 hN hi hx r1 (λs2 I2=>⟨_,H1,I2,(qG _ _ _ _).1 q1⟩) hf
end
section
variable {X:Cx} {pos:Pos}
def NT (c:TT)(tb:TS):TS:=λD Z H=>∃ W:Nat->St->Hp->Prop,(∃ m,W m Z H)/\∀ m Z H,W m Z H ->
 c Z H λb H1=>if b=true then ∃ N:St->Hp->Prop,(∀ Z' H',N Z' H'->∃ m',m'<m/\W m' Z' H')/\tb { D with nx:=N,ct:=N,bk:=D.nx } Z H1 else D.nx Z H1
variable {tb:TS}
theorem jX {c:Expr}{body:List Stmt}{tc:TT}(hp:PassesOwn (model X.prog X.w) X.A X.env X.xe)(hc:PT X c tc)(hb:gj X body tb):PS X (.While c body [] pos) (NT tc tb):=by
 intro gV s Z H D I h;obtain⟨W,⟨m0,w0⟩,Vg⟩:=h;refine wpAny_While (codeAny_whileLoop (λn s'=>∃ Z' H',Inv X gV Z' H' s'/\W n Z' H') ?_ m0 ⟨Z,H,I,w0⟩);rintro n s1 ⟨Z1,H1,I1,w1⟩;refine ab1 hp (aS (hc gV s1 Z1 H1 _ I1 (Vg n Z1 H1 w1)) λb s2 zq=>nO zq λH2 I2 q2=>?_);cases b with
 | true =>
   obtain⟨N,hN,q2⟩:=q2;rw[if_pos rfl];refine ab1 hp (aS (hb gV s2 Z1 H2 _ I2 q2) λf s3 q3=>?_);cases f with
   | next =>
     obtain⟨Z3,H3,I3,n3⟩:=q3;obtain⟨m',hm,w3⟩:=hN Z3 H3 n3;exact⟨m',hm,Z3,H3,I3,w3⟩
   | cont =>
     obtain⟨Z3,H3,I3,n3⟩:=q3;obtain⟨m',hm,w3⟩:=hN Z3 H3 n3;exact⟨m',hm,Z3,H3,I3,w3⟩
   | brk=>exact q3
   | ret v=>exact q3
 | false =>
   rw[if_neg aap];exact abK ⟨Z1,H2,I2,q2⟩
end
structure It where
 go:Nat->Hp->Prop
 sq:Nat->Hp->V->Hp->Prop
 stop:Nat->Hp->Prop
def pZ (X:Cx)(gV:List (Addr×Obj))(H:Hp)(b:Addr):Prop :=
 H b=none/\b≠X.env.locals/\b ∉ X.fs/\(b∈X.ex∨X.s₀.heap.objs.size<=b)/\(∀ x c,X.env.cells.lookup x=some c->c≠b)/\∀ p∈X.pn++gV,p.1≠b
variable {Z : St} {gV:List (Addr×Obj)}
theorem Inv.tR (I:Inv X gV Z H s)(hb:s.heap.objs.size<=b)(hn:H' b=none):pZ X gV H' b:=by
 refine⟨hn,abU (aaC I.lt hb),I.OA hb,.inr (aaL I.sz hb),λx c e z=>?_,λp hp z=>?_⟩
 . obtain⟨v, q⟩ := I.cell x c e;exact absurd (aaC q.lt (by rw[z];exact hb)) (abB _)
 . exact absurd (aaC (aam (I.pin p hp).1) (by rw[z];exact hb)) (abB _)
structure Turn (P:Program)(w:World)(K:W.Frag)(tg:Expr)(J:It)(fp:List Addr)(it:Addr)(tn:Nat->Heap->Prop):Prop where
 mem:it∈fp
 obj:∀ i h,tn i h->∀ b∈fp,∃ o,h.get? b=some o/\∀ v,o.data≠.cell v
 keep:∀ i h h',tn i h->(∀ b∈fp,∀ o,h.get? b=some o->h'.get? b=some o)->tn i h'
 item:∀ (X:Cx),X.prog=P->X.w=w->X.K=K->X.calm=true->∀ (i:Nat) (gV:List (Addr×Obj)) (s:Shared) (Z : St) (H:Hp) (E:Value->Shared->Prop),Inv X gV Z H s->(∀ b∈fp,pZ X gV H b)->tn i s.heap->J.go i H ->
   wpAny (model P w) X.A (pyNext (.ref it)) (λr s1=>∃ u,r=some u /\
     wpAny (model P w) X.A (adH tg (.ref it) u) (λ_ s2=>∃ x H',Inv X gV Z H' s2/\RelV x u/\J.sq i H x H'/\tn (i+1) s2.heap/\∀ b∈fp,H' b=none) E s1) E s
 done:∀ (X:Cx),X.prog=P->X.w=w->X.K=K->X.calm=true->∀ (i:Nat) (gV:List (Addr×Obj)) (s:Shared) (Z : St) (H:Hp) (E:Value->Shared->Prop),Inv X gV Z H s->(∀ b∈fp,pZ X gV H b)->tn i s.heap->J.stop i H ->
   wpAny (model P w) X.A (pyNext (.ref it)) (λr s1=>r=none/\Inv X gV Z H s1) E s
 self:∀ (A:Around) (i:Nat) (s:Shared) (Q:Value->Shared->Prop) (E:Value->Shared->Prop),tn i s.heap->Q (.ref it) s->wpAny (model P w) A (pyIter (.ref it)) Q E s
abbrev TI:=St->Hp->(It->Hp->Prop)->Prop
def QP (X:Cx)(gV:List (Addr×Obj))(Z : St)(tg:Expr)(R:It->Hp->Prop)(itv:Value)(s2:Shared):Prop :=
 ∃ (it:Addr) (fp:List Addr) (tn:Nat->Heap->Prop) (J:It) (H':Hp),itv=.ref it/\Inv X gV Z H' s2/\Turn X.prog X.w X.K tg J fp it tn/\tn 0 s2.heap/\(∀ b∈fp,pZ X gV H' b)/\R J H'
def PI (X:Cx)(tg iter:Expr)(wi:TI):Prop :=
 ∀ (gV:List (Addr×Obj)) (s:Shared) (Z : St) (H:Hp) (R:It->Hp->Prop),Inv X gV Z H s->wi Z H R ->
   wpAny (model X.prog X.w) X.A (eval iter X.env) (λv s1=>wpAny (model X.prog X.w) X.A (pyIter v) (QP X gV Z tg R) X.xe s1) X.xe s
theorem Er {M:Model}{A:Around}{E:Value->Shared->Prop}{tg:Expr}{it:Addr}{u:Value}{o:Obj}{n:String}{vs:Array Value}{Q:Unit->Shared->Prop}(ho:s.heap.get? it=some o)(hc:o.cls=.type n)(hd:o.data=.fields vs)
   (hn : ["enumerate","zip","dict_itemiterator","dict_reverseitemiterator","odict_iterator","itertools.zip_longest","itertools.pairwise"].contains n=false) (hQ:Q () s):wpAny M A (adH tg (.ref it) u) Q E s:=by
 unfold adH
 cases tg <;> first
   | exact aaj hQ
   | (cases u <;> first
       | exact aaj hQ
       | (refine aad (wpAny_load ho ?_)
          rw[hc,hd];show wpAny M A (if (["enumerate","zip","dict_itemiterator","dict_reverseitemiterator","odict_iterator","itertools.zip_longest","itertools.pairwise"].contains n && vs[0]? == some (rawInt _))=true then _ else _) Q E s;rw[if_neg (by intro h;rw[hn,Bool.false_and] at h;cases h)];exact aaj hQ))
def xH (K:W.Frag)(a:Addr):It :=
 ⟨λi H=>∃ xs x,ar K H a xs/\xs[i]? = some x,λi H x H'=>H'=H/\∀ xs,ar K H a xs->xs[i]? = some x,λi H=>∃ xs,ar K H a xs/\xs.length<=i⟩
def JP (K:W.Frag)(a:Addr):It :=
 ⟨λi H=>∃ xs x,aI K H a xs/\xs[i]? = some x,λi H x H'=>H'=H/\∀ xs,aI K H a xs->xs[i]? = some x,λi H=>∃ xs,aI K H a xs/\xs.length<=i⟩
def oQ (lo:Int)(n:Nat):It:=⟨λi _=>i<n,λi H x H'=>H'=H/\x=.int (lo+i),λi _=>n<=i⟩
variable {tg:Expr}
theorem Gv {P:Program}{w:World}{K:W.Frag}(a it:Addr):Turn P w K tg (xH K a) [it] it (λi h=>h.IsListIter it a i) where
 mem:=by simp
 obj:=λi h st b hb=>by
   have e:b=it:=by simpa using hb
   subst e;obtain⟨o,e,c,d⟩:=st;exact⟨o,e,λv z=>by rw[d] at z;cases z⟩
 keep:=λi h h' st k=>st.at λo e=>k it (by simp) o e
 item:=by
   intro X hP hw hK hc i gV s Z H E I hf st hg;subst hP hw hK;obtain⟨xs,x,hq,hx⟩:=hg;obtain⟨its,rv,p,hz⟩:=I.list hq;obtain⟨u,hu,ru⟩:=rv.get hx;obtain⟨f0,f1,f2,f3,f4,f5⟩:=hf it (by simp);refine wpAny_pyNext_list_item st p.isList (x:=u) (by simpa using hu) λh' st' sb=>?_;have I1:Inv X gV Z H { s with heap:=h' }:=I.turned (t':=s.toks) (λb o hb e=>(sb.2 b hb).trans e) f0 f1 f3 f4 f5;obtain⟨o,e,c,d⟩:=id st';exact⟨u,rfl,Er (s:={ s with heap:=h' }) e c d (by decide) ⟨x,H,I1,ru,⟨rfl,λys hy=>by rw[I.tV hy hq];exact hx⟩,st',λb hb=>(hf b hb).1⟩⟩
 done:=by
   intro X hP hw hK hc i gV s Z H E I hf st hg;subst hP hw hK;obtain⟨xs,hq,hx⟩:=hg;obtain⟨its,rv,p,hz⟩:=I.list hq;obtain⟨f0,f1,f2,f3,f4,f5⟩:=hf it (by simp);have hl:=rv.length;exact wpAny_pyNext_list_end (I.ok.hd hc) st p.isList (by simp;omega) λh' eb=>⟨rfl,I.turned (t':=s.toks) (λb o hb e=>eb b o hb e) f0 f1 f3 f4 f5⟩
 self:=λ_ _ _ _ _ st h=>wpAny_pyIter_listiter st h
theorem Ez {P:Program}{w:World}{K:W.Frag}(a it:Addr):Turn P w K tg (JP K a) [it] it (λi h=>h.IsTupleIter it a i) where
 mem:=by simp
 obj:=λi h st b hb=>by
   have e:b=it:=by simpa using hb
   subst e;obtain⟨o,e,c,d⟩:=st;exact⟨o,e,λv z=>by rw[d] at z;cases z⟩
 keep:=λi h h' st k=>st.at λo e=>k it (by simp) o e
 item:=by
   intro X hP hw hK hc i gV s Z H E I hf st hg;subst hP hw hK;obtain⟨xs,x,hq,hx⟩:=hg;obtain⟨its,rv,p,hz⟩:=I.tuple hq;obtain⟨u,hu,ru⟩:=rv.get hx;obtain⟨f0,f1,f2,f3,f4,f5⟩:=hf it (by simp);refine wpAny_pyNext_tuple_item st (show s.heap.IsTuple a its.toArray from p) (x:=u) (by simpa using hu) λh' st' sb=>?_;have I1:Inv X gV Z H { s with heap:=h' }:=I.turned (t':=s.toks) (λb o hb e=>(sb.2 b hb).trans e) f0 f1 f3 f4 f5;obtain⟨o,e,c,d⟩:=id st';exact⟨u,rfl,Er (s:={ s with heap:=h' }) e c d (by decide) ⟨x,H,I1,ru,⟨rfl,λys hy=>by rw[I.yg hy hq];exact hx⟩,st',λb hb=>(hf b hb).1⟩⟩
 done:=by
   intro X hP hw hK hc i gV s Z H E I hf st hg;subst hP hw hK;obtain⟨xs,hq,hx⟩:=hg;obtain⟨its,rv,p,hz⟩:=I.tuple hq;obtain⟨f0,f1,f2,f3,f4,f5⟩:=hf it (by simp);have hl:=rv.length;exact wpAny_pyNext_tuple_end (I.ok.hd hc) st (show s.heap.IsTuple a its.toArray from p) (by simp;omega) λh' eb=>⟨rfl,I.turned (t':=s.toks) (λb o hb e=>eb b o hb e) f0 f1 f3 f4 f5⟩
 self:=λ_ _ _ _ _ st h=>wpAny_pyIter_tupleiter st h
theorem DR {P:Program}{w:World}{K:W.Frag}(it:Addr)(lo:Int)(n:Nat):Turn P w K tg (oQ lo n) [it] it (λi h=>IsRangeIter h it (lo+(i:Nat)*1) ((n:Int) - (i:Nat)) 1) where
 mem:=by simp
 obj:=λi h st b hb=>by
   have e:b=it:=by simpa using hb
   subst e;exact⟨_,st,λv z=>by
     have z':Data.fields _=Data.cell v:=z;cases z'⟩
 keep:=λi h h' st k=>k it (by simp) _ st
 item:=by
   intro X hP hw hK hc i gV s Z H E I hf st hg;subst hP hw hK;obtain⟨f0,f1,f2,f3,f4,f5⟩:=hf it (by simp);have W:=Walks.range (prog:=X.prog) (w:=X.w) (I.ok.hd hc) it lo 1 n;refine W.item i s _ _ hg st λv h' tk hv st' kk=>?_;obtain⟨t,rfl⟩:=hv;have I1:Inv X gV Z H { s with heap:=h',toks:=tk }:=I.turned (λb o hb e=>kk b o (by simpa using hb) e) f0 f1 f3 f4 f5;refine⟨_,rfl,Er (s:={ s with heap:=h',toks:=tk }) (n:="range_iterator") st' rfl rfl (by decide) ⟨.int (lo+i),H,I1,⟨t,?_⟩,⟨rfl,rfl⟩,st',λb hb=>(hf b hb).1⟩⟩;rw[Int.mul_one]
 done:=by
   intro X hP hw hK hc i gV s Z H E I hf st hg;subst hP hw hK;obtain⟨f0,f1,f2,f3,f4,f5⟩:=hf it (by simp);exact wpAny_pyNext_range_end (I.ok.hd hc) st (by have:n<=i:=hg;omega) λh' eb=>⟨rfl,I.turned (t':=s.toks) (λb o hb e=>eb b o hb e) f0 f1 f3 f4 f5⟩
 self:=λ_ _ _ _ _ st h=>wpAny_pyIter_rangeiter st h
section
variable {X:Cx} {tg:Expr}
theorem z8 {R:It->Hp->Prop}{E:Value->Shared->Prop}{lo hi:Int}{t u v:Tok}{tk:Nat}(I:Inv X gV Z H s)(h1 : -(2 ^ 62)<=lo)(h2:lo<2 ^ 62)(h3 : -(2 ^ 62)<=hi)(h4:hi<2 ^ 62)
   (q:R (oQ lo (hi - lo).toNat) H):wpAny (model X.prog X.w) X.A (pyIter (.ref s.heap.objs.size)) (QP X gV Z tg R) E { s with heap:=s.heap.push { cls:=.type "range",data:=.fields #[.int lo t,.int hi u,.int 1 v] },toks:=tk }:=by
 refine wpAny_pyIter_range (IsRange.new ..) (small_one h1 h2 h3 h4) ?_;have I1:Inv X gV Z H { s with heap:=s.heap.push { cls:=.type "range",data:=.fields #[.int lo t,.int hi u,.int 1 v] },toks:=tk }:=I.kept λb o e=>aaf _ e
 refine⟨(s.heap.push { cls:=.type "range",data:=.fields #[.int lo t,.int hi u,.int 1 v] }).objs.size,[(s.heap.push { cls:=.type "range",data:=.fields #[.int lo t,.int hi u,.int 1 v] }).objs.size],_,_,H,rfl,
   I1.kept (t':=tk) λb o e=>aaf _ e,DR _ lo (hi - lo).toNat,?_,λb hb=>?_,q⟩
 . have e1 : lo + ((0 : Nat) : Int) * 1 = lo := by simp
   have e2:(((hi - lo).toNat:Nat):Int) - ((0:Nat):Int)=Builtin.Range.rangeSize lo hi 1:=by rw[rangeSize_one];split <;> omega
   show IsRangeIter _ _ (lo+((0:Nat):Int)*1) ((((hi - lo).toNat:Nat):Int) - ((0:Nat):Int)) 1;rw[e1,e2];exact aat _ rfl
 . have e : b = (s.heap.push { cls := .type "range", data := .fields #[.int lo t, .int hi u, .int 1 v] }).objs.size := by simpa using hb
   subst e;exact I1.tR (aag _) (I1.az.fresh (aag _))
def mX (ta:TA):TI:=λZ H R=>ta Z H λvs H1=>∃ j:Int,vs=[.int j]/\-(2 ^ 62)<=j/\j<2 ^ 62/\R (oQ 0 j.toNat) H1
def Dt (ta:TA):TI:=λZ H R=>ta Z H λvs H1=>∃ i j:Int,vs=[.int i,.int j]/\(-(2 ^ 62)<=i/\i<2 ^ 62/\-(2 ^ 62)<=j/\j<2 ^ 62)/\R (oQ i (j - i).toNat) H1
theorem e_ {a:Expr}{ta:TA}{p pos:Pos}(hg:Gl X "range")(hm:X.mg "range" = none)(ha:PA X [a] ta)(hs:aai [a] X.env=[(false,eval a X.env)]:=by rfl):PI X tg (.Call (.Name "range" p) [a] [] pos) (mX ta):=by
 intro gV s Z H R I h;refine Call_ (iM I hg hm boot_range (aa9 (aS (ha pos gV s Z H _ I h) λus s1 zq=>bQ zq λvs H1 I1 r1 q1=>?_) hs rfl));obtain⟨j,e,q1,q2,q⟩:=q1;subst e;cases r1 with
 | cons r rr =>
   cases rr
   obtain⟨t,rfl⟩:=r;exact call_range_1 (z8 I1 (by omega) (by omega) q1 q2 (by simpa using q))
theorem xS {a b : Expr}{ta : TA}{p pos : Pos}(hg : Gl X "range")(hm : X.mg "range" = none)(ha : PA X [a, b] ta)(hs : aai [a, b] X.env = [(false, eval a X.env), (false, eval b X.env)] := by rfl)(Uq : aai [b] X.env = [(false, eval b X.env)] := by rfl) :
   PI X tg (.Call (.Name "range" p) [a,b] [] pos) (Dt ta):=by
 intro gV s Z H R I h;refine Call_ (iM I hg hm boot_range (aa9 (aS (ha pos gV s Z H _ I h) λus s1 zq=>bQ zq λvs H1 I1 r1 q1=>?_) (by rw[hs,Uq]) (by rw[Uq];rfl)));obtain⟨i,j,e,⟨q1,q2,q3,q4⟩,q⟩:=q1;subst e;cases r1 with
 | cons r rr =>
   cases rr with
   | cons r' rr =>
     cases rr
     obtain⟨t,rfl⟩:=r;obtain⟨t',rfl⟩:=r';exact call_range_2 (z8 I1 q1 q2 q3 q4 q)
def zv (J:It)(g:TG)(tb:TS)(D:Ends)(Z : St)(H1:Hp):Prop:=∃ W:Nat->Nat->St->Hp->Prop,(∃ m,W 0 m Z H1)/\∀ i m Z H,W i m Z H ->
 (J.stop i H/\D.nx Z H)∨(J.go i H/\∃ N:St->Hp->Prop,(∀ Z' H',N Z' H'->∃ m',m'<m/\W (i+1) m' Z' H')/\∀ x H',J.sq i H x H'->g x Z H' λZ2 H2=>tb { D with nx:=N,ct:=N,bk:=D.nx } Z2 H2)
@[reducible] def HH (wi:TI) (g:TG) (tb:TS):TS:=λD Z H=>wi Z H λJ H1=>zv J g tb D Z H1
def iB (fp:List Addr)(h:Heap):List (Addr×Obj):=fp.filterMap λb=>(h.get? b).map λo=>(b,o)
theorem jb {fp:List Addr}{o:Obj}(hb:b∈fp)(e:h.get? b=some o):(b,o)∈iB fp h:=List.mem_filterMap.mpr ⟨b,hb,by rw[e];rfl⟩
theorem xy (hp:p∈iB fp h):p.1∈fp/\h.get? p.1=some p.2:=by
 obtain⟨b,hb,e⟩:=List.mem_filterMap.mp hp;cases q:h.get? b with
 | none=>rw[q] at e;cases e
 | some o =>
   rw[q] at e;have e':(b,o)=p:=aax e;subst e';exact⟨hb,q⟩
theorem Inv.pinned (I:Inv X gV Z H s)(hf:∀ b∈fp,pZ X gV H b)(ho:∀ b∈fp,∃ o,s.heap.get? b=some o/\∀ v,o.data≠.cell v):Inv X (gV++iB fp s.heap) Z H s :=
 I.qL λp hp=>(List.mem_append.mp hp).elim (λz=>I.pin p (aay _ z)) λz=>by
   obtain⟨hb,e⟩:=xy z;obtain⟨f0,f1,f2,_⟩:=hf p.1 hb;obtain⟨o,e',d⟩:=ho p.1 hb;rw[e] at e';cases e';exact⟨e,f0,f1,f2,d⟩
theorem Inv.mU (I:Inv X (gV++pl) Z H s):Inv X gV Z H s:=I.qL λp hp=>I.pin p (aay _ (aa6 _ hp))
variable {tb:TS}
theorem Bj {iter:Expr}{body:List Stmt}{wi:TI}{g:TG}{pos:Pos}(hp:PassesOwn (model X.prog X.w) X.A X.env X.xe)(hc:X.calm=true)(hi:PI X tg iter wi)(hg:PG X tg g)(hb:gj X body tb)
   (hs:∀ x,foldedSetIterable iter X.env x=pure x:=by intro _;rfl):PS X (.For tg iter body [] pos) (HH wi g tb):=by
 intro gV s Z H D I h;refine wpAny_For (aS (hi gV s Z H _ I h) λv s1 h1=>aS h1 λitv s2 h2=>?_) hs;obtain⟨it,fp,tn,J,H2,e,I2,T,W8,f2,W,⟨m0,w0⟩,Vg⟩:=h2;subst e
 -- what stays true of the iterator's objects through the loop
 have Vi:∀ {H':Hp},(∀ b∈fp,H' b=none)->∀ b∈fp,pZ X gV H' b:=λhn b hb=>⟨hn b hb,(f2 b hb).2⟩;refine codeAny_forLoop_any (λn s'=>∃ i Z' H',Inv X gV Z' H' s'/\tn i s'.heap/\(∀ b∈fp,H' b=none)/\W i n Z' H') ?_ m0 ⟨0,Z,H2,I2,W8,λb hb=>(f2 b hb).1,w0⟩;rintro n s3 ⟨i,Z3,H3,I3,st3,fr3,w3⟩;rcases Vg i n Z3 H3 w3 with ⟨stop,qn⟩ | ⟨go,N,hN,step⟩
 . refine ab1 hp (aS (T.done X rfl rfl rfl hc i gV s3 Z3 H3 X.xe I3 (Vi fr3) st3 stop) λr s4 zq=>?_);obtain⟨hr,I4⟩:=zq;subst hr;exact abK ⟨Z3,H3,I4,qn⟩
 . refine ab1 hp (aS (T.item X rfl rfl rfl hc i gV s3 Z3 H3 X.xe I3 (Vi fr3) st3 go) λr s4 zq=>nO zq λu hr h4=>?_);subst hr;refine ab1 hp (aS h4 λ_ s5 zq=>?_);obtain⟨x,H5,I5,r5,y5,st5,fr5⟩:=zq;have I5':=I5.pinned (Vi fr5) (T.obj _ _ st5);refine ab1 hp (aS (hg _ s5 Z3 H5 x u _ I5' r5 (step x H5 y5)) λ_ s6 zq=>?_);obtain⟨Z6,H6,I6,q6⟩:=zq;refine ab1 hp (aS (hb _ s6 Z6 H6 _ I6 q6) λf s7 q7=>?_);have again:∀ {Z7:St} {H7:Hp},Inv X (gV++iB fp s5.heap) Z7 H7 s7->N Z7 H7->∃ m,m<n/\∃ i Z' H',Inv X gV Z' H' s7/\tn i s7.heap/\(∀ b∈fp,H' b=none)/\W i m Z' H':=λ{Z7 H7} I7 n7=>by
     obtain⟨m',hm,w7⟩:=hN Z7 H7 n7;refine⟨m',hm,i+1,Z7,H7,I7.mU,T.keep _ _ _ st5 λb hb o e=>(I7.pin (b,o) (aay _ (aay _ (jb hb e)))).1,λb hb=>?_,w7⟩;obtain⟨o,e,d⟩:=T.obj _ _ st5 b hb;exact(I7.pin (b,o) (aay _ (aay _ (jb hb e)))).2.1
   cases f with
   | next=>obtain⟨Z7,H7,I7,n7⟩:=q7;exact again I7 n7
   | cont=>obtain⟨Z7,H7,I7,n7⟩:=q7;exact again I7 n7
   | brk=>obtain⟨Z7,H7,I7,q7⟩:=q7;exact⟨Z7,H7,I7.mU,q7⟩
   | ret v=>obtain⟨x7,Z7,H7,I7,r7,q7⟩:=q7;exact⟨x7,Z7,H7,I7.mU,r7,q7⟩
end
theorem fi {K:W.Frag}{a:Addr}{xs:List V}{g:TG}{tb:TS}{D:Ends}(Pv:Nat->St->Hp->Prop)(h0:Pv 0 Z H)(hl:∀ i Z H,i<=xs.length->Pv i Z H->ar K H a xs)
   (hs:∀ i x Z H,xs[i]? = some x->Pv i Z H->g x Z H λZ2 H2=>tb { D with nx:=Pv (i+1),ct:=Pv (i+1),bk:=D.nx } Z2 H2) (hd:∀ Z H,Pv xs.length Z H->D.nx Z H) :
   ∃ W:Nat->Nat->St->Hp->Prop,(∃ m,W 0 m Z H)/\∀ i m Z H,W i m Z H ->
     ((xH K a).stop i H/\D.nx Z H)∨((xH K a).go i H/\∃ N:St->Hp->Prop,(∀ Z' H',N Z' H'->∃ m',m'<m/\W (i+1) m' Z' H')/\∀ x H',(xH K a).sq i H x H'->g x Z H' λZ2 H2=>tb { D with nx:=N,ct:=N,bk:=D.nx } Z2 H2):=by
 refine⟨λi m Z H=>m=xs.length - i/\i<=xs.length/\Pv i Z H,⟨xs.length,by simp,aaU _,h0⟩,?_⟩;rintro i m Z H ⟨rfl,hi,p⟩;have q:=hl i Z H hi p;by_cases S9:i<xs.length
 . refine .inr ⟨⟨xs, xs[i], q, by simp[S9]⟩, Pv (i + 1), λZ' H' p' => ⟨xs.length - (i + 1), by omega, rfl, S9, p'⟩, λx H' y => ?_⟩;obtain⟨e,y⟩:=y;subst e;exact hs i x Z _ (y xs q) p
 . have e : i = xs.length := by omega
   subst e;exact .inl ⟨⟨xs,q,aag _⟩,hd Z H p⟩
theorem fV {lo:Int}{n:Nat}{g:TG}{tb:TS}{D:Ends}(Pv:Nat->St->Hp->Prop)(h0:Pv 0 Z H)
   (hs:∀ i Z H,i<n->Pv i Z H->g (.int (lo+i)) Z H λZ2 H2=>tb { D with nx:=Pv (i+1),ct:=Pv (i+1),bk:=D.nx } Z2 H2) (hd:∀ Z H,Pv n Z H->D.nx Z H) :
   ∃ W:Nat->Nat->St->Hp->Prop,(∃ m,W 0 m Z H)/\∀ i m Z H,W i m Z H ->
     ((oQ lo n).stop i H/\D.nx Z H)∨((oQ lo n).go i H/\∃ N:St->Hp->Prop,(∀ Z' H',N Z' H'->∃ m',m'<m/\W (i+1) m' Z' H')/\∀ x H',(oQ lo n).sq i H x H'->g x Z H' λZ2 H2=>tb { D with nx:=N,ct:=N,bk:=D.nx } Z2 H2):=by
 refine⟨λi m Z H=>m=n - i/\i<=n/\Pv i Z H,⟨n,by simp,aaU _,h0⟩,?_⟩;rintro i m Z H ⟨rfl,hi,p⟩;by_cases S9:i<n
 . refine .inr ⟨S9, Pv (i + 1), λZ' H' p' => ⟨n - (i + 1), by omega, rfl, S9, p'⟩, λx H' y => ?_⟩;obtain⟨e,y⟩:=y;subst e y;exact hs i Z _ S9 p
 . have e : i = n := by omega
   subst e;exact .inl ⟨aag _,hd Z H p⟩
abbrev R2:=V->V->Hp->VK->Prop
def bR (X:Cx)(f:Value->Value->Sem Value)(r:R2):Prop :=
 ∀ (gV:List (Addr×Obj)) (s:Shared) (Z : St) (H:Hp) (x y:V) (v u:Value) (Q:VK),Inv X gV Z H s->RelV x v->RelV y u->r x y H Q ->
   wpAny (model X.prog X.w) X.A (f v u) (EP X gV Z Q) X.xe s
def J5 (X:Cx)(f:Value->Sem Value)(r:V->Hp->VK->Prop):Prop :=
 ∀ (gV:List (Addr×Obj)) (s:Shared) (Z : St) (H:Hp) (x:V) (v:Value) (Q:VK),Inv X gV Z H s->RelV x v->r x H Q ->
   wpAny (model X.prog X.w) X.A (f v) (EP X gV Z Q) X.xe s
def cX (X:Cx)(f:Value)(r:List V->Hp->VK->Prop):Prop :=
 ∀ (gV:List (Addr×Obj)) (s:Shared) (Z : St) (H:Hp) (xs:List V) (us:List Value) (Q:VK),Inv X gV Z H s->aM xs us->r xs H Q ->
   wpAny (model X.prog X.w) X.A (call f us) (EP X gV Z Q) X.xe s
def RJ (X:Cx)(r:V->Hp->(Bool->Hp->Prop)->Prop):Prop :=
 ∀ (gV:List (Addr×Obj)) (s:Shared) (Z : St) (H:Hp) (x:V) (v:Value) (Q:Bool->Hp->Prop),Inv X gV Z H s->RelV x v->r x H Q ->
   wpAny (model X.prog X.w) X.A (truthy v) (TP X gV Z Q) X.xe s
@[reducible] def br (r:R2) (ta tb:TE):TE:=λZ H Q=>ta Z H λx H1=>tb Z H1 λy H2=>r x y H2 Q
@[reducible] def R7 (r:V->Hp->VK->Prop) (ta:TE):TE:=λZ H Q=>ta Z H λx H1=>r x H1 Q
def rI (C:Int->Int->Prop)(g:Int->Int->V):R2:=λx y H Q=>∃ i j,x=.int i/\y=.int j/\C i j/\Q (g i j) H
@[reducible] def lK (g:Int->Int->V):R2:=λx y H Q=>Gg x λi=>Gg y λj=>MN (g i j) λv=>Q v H
theorem G8 (h:lK g x y H Q):∃ i j,x=.int i/\y=.int j/\Q (g i j) H:=by
 obtain⟨i,e,h⟩:=vz h;obtain⟨j,e2,h⟩:=vz h;exact⟨i,j,e,e2,GO h⟩
@[reducible] def rU (g:Int->V):V->Hp->VK->Prop:=λx H Q=>Gg x λi=>MN (g i) λv=>Q v H
section
variable {X:Cx} {a b c:Expr} {ta tb tc:TE} {pos:Pos}
theorem JB (ha:PE X a ta)(hb:PE X b tb){R:V->V->Hp->Prop}(I:Inv X gV Z H s)
   (h:ta Z H λx H1=>tb Z H1 λy H2=>R x y H2) {Q:Value->Shared->Prop} {f:Value->Value->Sem Value}
   (hf:∀ v u s2 x y H2,Inv X gV Z H2 s2->RelV x v->RelV y u->R x y H2->wpAny (model X.prog X.w) X.A (f v u) Q X.xe s2) :
   wpAny (model X.prog X.w) X.A (eval a X.env) (λv s₁=>wpAny (model X.prog X.w) X.A (eval b X.env) (λu s₂=>wpAny (model X.prog X.w) X.A (f v u) Q X.xe s₂) X.xe s₁) X.xe s:=by
 refine aS (ha gV s Z H _ I h) λv s1 zq=>bQ zq λx H1 I1 r1 q1=>?_;refine aS (hb gV s1 Z H1 _ I1 q1) λu s2 zq=>bQ zq λy H2 I2 r2 q2=>?_;exact hf v u s2 x y H2 I2 r1 r2 q2
variable {r:R2}
theorem cQ (ho:bR X (abD op) r)(ha:PE X a ta)(hb:PE X b tb):PE X (.BinOp a op b pos) (br r ta tb):=by
 intro gV s Z H Q I h;exact wpAny_BinOp (JB ha hb I h λv u s2 x y H2 I2 rx ry q=>ho gV s2 Z H2 x y v u Q I2 rx ry q)
theorem Kx {op:UnaryOp}{r:V->Hp->VK->Prop}(ho:J5 X (unaryOp op) r)(ha:PE X a ta):PE X (.UnaryOp op a pos) (R7 r ta):=by
 intro gV s Z H Q I h;exact UnaryOp_ (aS (ha gV s Z H _ I h) λv s1 zq=>bQ zq λx H1 I1 r1 q1=>ho gV s1 Z H1 x v Q I1 r1 q1)
theorem FC {f:Value->Value->Sem Value}{C:Int->Int->Prop}{g:Int->Int->Int}
   (rule:∀ (i j:Int) (t u:Tok) (s:Shared) (Q:Value->Shared->Prop) (E:Value->Shared->Prop),C i j->Q (.int (g i j) s.toks) { s with toks:=s.toks+1 }->wpAny (model X.prog X.w) X.A (f (.int i t) (.int j u)) Q E s) :
   bR X f (rI C λi j=>.int (g i j)):=by
 intro gV s Z H x y v u Q I rx ry h;obtain⟨i,j,rfl,rfl,hc,q⟩:=h;obtain⟨t,rfl⟩:=rx;obtain⟨t',rfl⟩:=ry;exact rule i j t t' s _ _ hc ⟨.int (g i j),H,I.tok _,⟨_,rfl⟩,q⟩
theorem zm {f:Value->Value->Sem Value}{g:Int->Int->Int}
   (rule:∀ (i j:Int) (t u:Tok) (s:Shared) (Q:Value->Shared->Prop) (E:Value->Shared->Prop),Q (.int (g i j) s.toks) { s with toks:=s.toks+1 }->wpAny (model X.prog X.w) X.A (f (.int i t) (.int j u)) Q E s) :
   bR X f (lK λi j=>.int (g i j)):=by
 intro gV s Z H x y v u Q I rx ry h;obtain⟨i,j,rfl,rfl,q⟩:=G8 h;obtain⟨t,rfl⟩:=rx;obtain⟨t',rfl⟩:=ry;exact rule i j t t' s _ _ ⟨.int (g i j),H,I.tok _,⟨_,rfl⟩,q⟩
theorem EW {f:Value->Value->Sem Value}{g:Int->Int->Bool}
   (rule:∀ (i j:Int) (t u:Tok) (s:Shared) (Q:Value->Shared->Prop) (E:Value->Shared->Prop),Q (.bool (g i j)) s->wpAny (model X.prog X.w) X.A (f (.int i t) (.int j u)) Q E s) :
   bR X f (lK λi j=>.bl (g i j)):=by
 intro gV s Z H x y v u Q I rx ry h;obtain⟨i,j,rfl,rfl,q⟩:=G8 h;obtain⟨t,rfl⟩:=rx;obtain⟨t',rfl⟩:=ry;exact rule i j t t' s _ _ ⟨.bl (g i j),H,I,rfl,q⟩
def Ek (i j:Int):Prop:=0<j/\j<1073741824
def Ad (i j:Int):Prop:=(-(2 ^ 64)<i/\i<2 ^ 64)∨(-(2 ^ 64)<j/\j<2 ^ 64)
theorem Ad.ok (h:Ad i j):IntMulOk i j:=by
 rcases h with ⟨h1,h2⟩ | ⟨h1,h2⟩
 . exact .of_left (intBits_le_64 h1 h2)
 . exact .of_right (intBits_le_64 h1 h2)
theorem D9 (k:Nat):(0:Int)<=2 ^ k:=by
 rw[two_pow_cast];exact abl _
theorem M8:bR X (abD .Add) (lK λi j=>.int (i+j)):=zm λ_ _ _ _ _ _ _ q=>add_int q
theorem lZ:bR X (abD .Sub) (lK λi j=>.int (i - j)):=zm λ_ _ _ _ _ _ _ q=>sub_int q
theorem MU:bR X (abD .Mult) (rI Ad λi j=>.int (i*j)):=FC λ_ _ _ _ _ _ _ hc q=>mul_int q hc.ok
theorem CT:bR X (abD .FloorDiv) (rI Ek λi j=>.int (i/j)):=FC λi j _ _ _ _ _ hc q=>by
 have h1:(0:Int)<j:=hc.1;have h2:j<1073741824:=hc.2;exact floordiv_int (by omega) (by rw[Int.fdiv_eq_ediv_of_nonneg i (by omega)];exact q) (.inl (PyProof.noPylong_small (by omega)))
theorem vd:bR X (abD .Mod) (rI (λ_ j=>0<j) λi j=>.int (i%j)):=FC λi j _ _ _ _ _ hc q=>by
 have h1:(0:Int)<j:=hc;exact mod_int' (by omega) (by rw[Int.fmod_eq_emod_of_nonneg i (by omega)];exact q)
theorem GD:bR X (abD .RShift) (rI (λ_ j=>0<=j) λi j=>.int (i/2 ^ j.toNat)):=FC λi j _ _ _ _ _ hc q =>
 rshift_int hc (by rw[Int.fdiv_eq_ediv_of_nonneg i (D9 _)];exact q)
theorem uY:bR X (abD .BitAnd) (lK λi j=>.int (aaK i j)):=zm λ_ _ _ _ _ _ _ q=>and_int q
theorem Qx:bR X (abD .BitOr) (lK λi j=>.int (ady i j)):=zm λ_ _ _ _ _ _ _ q=>or_int q
theorem MO:bR X (abD .BitXor) (lK λi j=>.int (adj i j)):=zm λ_ _ _ _ _ _ _ q=>xor_int q
theorem QY {f:Value->Sem Value}{g:Int->Int}
   (rule:∀ (i:Int) (t:Tok) (s:Shared) (Q:Value->Shared->Prop) (E:Value->Shared->Prop),Q (.int (g i) s.toks) { s with toks:=s.toks+1 }->wpAny (model X.prog X.w) X.A (f (.int i t)) Q E s) :
   J5 X f (rU λi=>.int (g i)):=by
 intro gV s Z H x v Q I rx h;obtain⟨i,rfl,q⟩:=vz h
 replace q:=GO q
 obtain⟨t,rfl⟩:=rx;exact rule i t s _ _ ⟨.int (g i),H,I.tok _,⟨_,rfl⟩,q⟩
theorem Hl:J5 X (unaryOp .USub) (rU λi=>.int (-i)):=QY λ_ _ _ _ _ q=>neg_int q
theorem NH:J5 X (unaryOp .Invert) (rU λi=>.int (aav i)):=QY λ_ _ _ _ _ q=>invert_int q
end
def Ej:V->V->Bool
 | .aC,.aC=>true | .aC,.int _=>true | .int _,.aC=>true | .aC,.bl _=>true | .bl _,.aC=>true | .aC,.str _=>true | .str _,.aC=>true
 | .int _,.int _=>true | .bl _,.bl _=>true | .str _,.str _=>true | .byt _,.byt _=>true
 | .int _,.str _=>true | .str _,.int _=>true | .bl _,.str _=>true | .str _,.bl _=>true
 | _,_=>false
def Q6:R2:=λx y H Q=>Ej x y=true/\Q (.bl (decide (x=y))) H
def Q0:R2:=λx y H Q=>Ej x y=true/\Q (.bl (!decide (x=y))) H
theorem Dm:decide (V.int i=V.int j)=(i == j):=by
 rw[adk]
 simp
theorem Gs:decide (V.bl i=V.bl j)=(i == j):=by
 rw[adk]
 simp
theorem C8:decide (V.str i=V.str j)=(i == j):=by
 rw[adk]
 simp
theorem CU:decide (V.byt i=V.byt j)=(i.toList == j.toList):=by
 rw[adk];cases i
 cases j
 simp
section
variable {X:Cx} {a b c:Expr} {ta tb tc:TE} {pos:Pos}
theorem bA (I:Inv X gV Z H s)(q:Q (.bl k) H)(e:k=k'):EP X gV Z Q (.bool k') s:=by
 subst e;exact⟨.bl k,H,I,rfl,q⟩
theorem Qk:bR X (aaV .Eq) Q6:=by
 intro gV s Z H x y v u Q I rx ry h;obtain⟨hs,q⟩:=h;cases x with
 | aC =>
   cases rx
   cases y with
   | aC=>cases ry;exact PySem.EqNone.eq_none_none (bA I q (by simp))
   | bl j=>cases ry;exact PySem.EqNone.eq_none_bool (bA I q (by simp))
   | int j=>obtain⟨t',rfl⟩:=ry;exact PySem.EqNone.eq_none_int (bA I q (by simp))
   | str j=>obtain⟨t',rfl⟩:=ry;exact PySem.EqNone.eq_none_str (bA I q (by simp))
   | _=>exact absurd (show false=true from hs) aap
 | bl i =>
   cases rx
   cases y with
   | aC=>cases ry;exact PySem.EqNone.eq_bool_none (bA I q (by simp))
   | bl j=>cases ry;exact eq_bool (bA I q Gs)
   | str j=>obtain⟨t',rfl⟩:=ry;exact PySem.EqMixed.eq_bool_str (bA I q (by simp))
   | _=>exact absurd (show false=true from hs) aap
 | int i =>
   obtain⟨t,rfl⟩:=rx;cases y with
   | aC=>cases ry;exact PySem.EqNone.eq_int_none (bA I q (by simp))
   | int j=>obtain⟨t',rfl⟩:=ry;exact eq_int (bA I q Dm)
   | str j=>obtain⟨t',rfl⟩:=ry;exact PySem.EqMixed.eq_int_str (bA I q (by simp))
   | _=>exact absurd (show false=true from hs) aap
 | str i =>
   obtain⟨t,rfl⟩:=rx;cases y with
   | aC=>cases ry;exact PySem.EqNone.eq_str_none (bA I q (by simp))
   | bl j=>cases ry;exact PySem.EqMixed.eq_str_bool (bA I q (by simp))
   | int j=>obtain⟨t',rfl⟩:=ry;exact PySem.EqMixed.eq_str_int (bA I q (by simp))
   | str j=>obtain⟨t',rfl⟩:=ry;exact eq_str (bA I q C8)
   | _=>exact absurd (show false=true from hs) aap
 | byt i =>
   obtain⟨t,rfl⟩:=rx;cases y with
   | byt j=>obtain⟨t',rfl⟩:=ry;exact W.eq_bytes (bA I q CU)
   | _=>exact absurd (show false=true from hs) aap
 | _=>cases y <;> exact absurd (show false=true from hs) aap
theorem PV:bR X (aaV .NotEq) Q0:=by
 intro gV s Z H x y v u Q I rx ry h;obtain⟨hs,q⟩:=h;cases x with
 | aC =>
   cases rx
   cases y with
   | aC=>cases ry;exact PySem.EqNone.ne_none_none (bA I q (by simp))
   | bl j=>cases ry;exact PySem.EqNone.ne_none_bool (bA I q (by simp))
   | int j=>obtain⟨t',rfl⟩:=ry;exact PySem.EqNone.ne_none_int (bA I q (by simp))
   | str j=>obtain⟨t',rfl⟩:=ry;exact PySem.EqNone.ne_none_str (bA I q (by simp))
   | _=>exact absurd (show false=true from hs) aap
 | bl i =>
   cases rx
   cases y with
   | aC=>cases ry;exact PySem.EqNone.ne_bool_none (bA I q (by simp))
   | bl j=>cases ry;exact ne_bool (bA I q (congrArg not Gs))
   | str j=>obtain⟨t',rfl⟩:=ry;exact PySem.EqMixed.ne_bool_str (bA I q (by simp))
   | _=>exact absurd (show false=true from hs) aap
 | int i =>
   obtain⟨t,rfl⟩:=rx;cases y with
   | aC=>cases ry;exact PySem.EqNone.ne_int_none (bA I q (by simp))
   | int j=>obtain⟨t',rfl⟩:=ry;exact ne_int (bA I q (congrArg not Dm))
   | str j=>obtain⟨t',rfl⟩:=ry;exact PySem.EqMixed.ne_int_str (bA I q (by simp))
   | _=>exact absurd (show false=true from hs) aap
 | str i =>
   obtain⟨t,rfl⟩:=rx;cases y with
   | aC=>cases ry;exact PySem.EqNone.ne_str_none (bA I q (by simp))
   | bl j=>cases ry;exact PySem.EqMixed.ne_str_bool (bA I q (by simp))
   | int j=>obtain⟨t',rfl⟩:=ry;exact PySem.EqMixed.ne_str_int (bA I q (by simp))
   | str j=>obtain⟨t',rfl⟩:=ry;exact ne_str (bA I q (congrArg not C8))
   | _=>exact absurd (show false=true from hs) aap
 | byt i =>
   obtain⟨t,rfl⟩:=rx;cases y with
   | byt j=>obtain⟨t',rfl⟩:=ry;exact W.ne_bytes (bA I q (congrArg not CU))
   | _=>exact absurd (show false=true from hs) aap
 | _=>cases y <;> exact absurd (show false=true from hs) aap
theorem EL:bR X (aaV .Lt) (lK λi j=>.bl (decide (i<j))):=EW λ_ _ _ _ _ _ _ q=>lt_int q
theorem y_:bR X (aaV .LtE) (lK λi j=>.bl (decide (i<=j))):=EW λ_ _ _ _ _ _ _ q=>le_int q
theorem KA:bR X (aaV .Gt) (lK λi j=>.bl (decide (j<i))):=EW λ_ _ _ _ _ _ _ q=>gt_int q
theorem QC:bR X (aaV .GtE) (lK λi j=>.bl (decide (j<=i))):=EW λ_ _ _ _ _ _ _ q=>ge_int q
theorem MI:bR X (aaV .Is) (λx y H Q=>y=.aC/\Q (.bl (decide (x=.aC))) H):=by
 intro gV s Z H x y v u Q I rx ry h;obtain⟨rfl,q⟩:=h;cases ry
 refine is_none_gen (bA I q ?_)
 cases x <;> first
   | (cases rx;rfl)
   | (obtain⟨t,rfl⟩:=rx;rfl)
theorem La:bR X (aaV .IsNot) (λx y H Q=>y=.aC/\Q (.bl (!decide (x=.aC))) H):=by
 intro gV s Z H x y v u Q I rx ry h;obtain⟨rfl,q⟩:=h;cases ry
 refine isnot_none_gen (bA I q ?_)
 cases x <;> first
   | (cases rx;rfl)
   | (obtain⟨t,rfl⟩:=rx;rfl)
variable {r:R2} {f:Value->Value->Sem Value}
theorem bR.or (h:bR X f r)(h':bR X f r'):bR X f (λx y H Q=>r x y H Q∨r' x y H Q):=by
 intro gV s Z H x y v u Q I rx ry q;rcases q with q | q
 . exact h gV s Z H x y v u Q I rx ry q
 . exact h' gV s Z H x y v u Q I rx ry q
variable {op:CmpOp}
theorem dZ (b:Expr)(h:op≠.In:=by decide)(h2:op≠.NotIn:=by decide):adn op b=false:=by
 have e1:(op == CmpOp.In)=false:=by cases op <;> first | rfl | exact absurd rfl h
 have e2:(op == CmpOp.NotIn)=false:=by cases op <;> first | rfl | exact absurd rfl h2
 cases b <;> simp[adn,e1,e2]
theorem wL (ho:bR X (aaV op) r)(ha:PE X a ta)(hb:PE X b tb)(hm:adn op b=false):PE X (.Compare a [op] [b] pos) (br r ta tb):=by
 intro gV s Z H Q I h;exact wpAny_Compare1 (JB ha hb I h λv u s2 x y H2 I2 rx ry q=>ho gV s2 Z H2 x y v u Q I2 rx ry q) hm
@[reducible] def dC (t:TE):TT:=λZ H Q=>t Z H λx H'=>JO x λk=>Q k H'
theorem dO (ho:bR X (aaV op) r)(ha:PE X a ta)(hb:PE X b tb)(hm:adn op b=false):PT X (.Compare a [op] [b] pos) (dC (br r ta tb)):=by
 intro gV s Z H Q I h;refine wpAny_isTrue_Compare1 (aS (ha gV s Z H _ I h) λv s1 zq=>bQ zq λx H1 I1 r1 q1=>aS (hb gV s1 Z H1 _ I1 q1) λu s2 zq=>bQ zq λy H2 I2 r2 q2 =>
   aS (ho gV s2 Z H2 x y v u _ I2 r1 r2 q2) λc s3 zq=>bQ zq λz H3 I3 r3 q3=>?_) hm
 obtain⟨k,e,q3⟩:=uc q3;subst e;cases r3
 exact abk ⟨H3,I3,q3⟩
def Ar (r r':R2)(ta tb tc:TE):TE:=λZ H Q=>ta Z H λx H1=>tb Z H1 λy H2=>r x y H2 λz H3=>∃ k,z=.bl k /\
 (if k=true then tc Z H3 λw' H4=>r' y w' H4 Q else Q (.bl false) H3)
theorem Iu {op':CmpOp}{r':R2}(ho:bR X (aaV op) r)(VI:bR X (aaV op') r')(ha:PE X a ta)(hb:PE X b tb)(hc:PE X c tc)
   (hm:lastMarks [op,op'] [b,c]=false:=by with_unfolding_all rfl):PE X (.Compare a [op,op'] [b,c] pos) (Ar r r' ta tb tc):=by
 intro gV s Z H Q I h;refine Compare_chain (aS (ha gV s Z H _ I h) λv s1 zq=>bQ zq λx H1 I1 r1 q1=>chain_link (aS (hb gV s1 Z H1 _ I1 q1) λu s2 zq=>bQ zq λy H2 I2 r2 q2 =>
   aS (ho gV s2 Z H2 x y v u _ I2 r1 r2 q2) λd s3 ⟨z,H3,I3,r3,k,e,q3⟩=>?_)) hm
 subst e;cases r3
 refine abk ?_;cases k with
 | false=>exact ite_ff ⟨.bl false,H3,I3,rfl,q3⟩
 | true=>exact ite_tt (chain_last (aS (hc gV s3 Z H3 _ I3 q3) λw' s4 ⟨z',H4,I4,r4,q4⟩=>VI gV s4 Z H4 y z' u w' Q I4 r2 r4 q4))
theorem IJ {op':CmpOp}{r':R2}(ho:bR X (aaV op) r)(VI:bR X (aaV op') r')(ha:PE X a ta)(hb:PE X b tb)(hc:PE X c tc)
   (hm:lastMarks [op,op'] [b,c]=false:=by with_unfolding_all rfl):PT X (.Compare a [op,op'] [b,c] pos) (dC (Ar r r' ta tb tc)):=by
 intro gV s Z H Q I h;refine isTrue_chain (aS (ha gV s Z H _ I h) λv s1 zq=>bQ zq λx H1 I1 r1 q1=>test_link (aS (hb gV s1 Z H1 _ I1 q1) λu s2 zq=>bQ zq λy H2 I2 r2 q2 =>
   aS (ho gV s2 Z H2 x y v u _ I2 r1 r2 q2) λd s3 ⟨z,H3,I3,r3,k,e,q3⟩=>?_)) hm
 subst e;cases r3
 refine abk ?_;cases k with
 | false =>
   exact ite_ff ⟨H3,I3,q3⟩
 | true =>
   refine ite_tt (test_last (aS (hc gV s3 Z H3 _ I3 q3) λw' s4 zq=>bQ zq λz' H4 I4 r4 q4=>aS (VI gV s4 Z H4 y z' u w' _ I4 r2 r4 q4) λd' s5 zq=>bQ zq λz2 H5 I5 r5 q5=>?_));obtain⟨k2,e2,q5⟩:=uc q5;subst e2;cases r5
   exact abk ⟨H5,I5,q5⟩
def IL (K:W.Frag)(x:V)(H:Hp)(k:Bool):Prop :=
 match x with
 | .aC=>k=false
 | .bl b=>k=b
 | .int i=>k=(i != 0)
 | .str y=>y.length<=aal/\k=((y.length:Int) != 0)
 | .byt y=>y.size<=aal/\k=((y.size:Int) != 0)
 | .ref p=>(∃ xs,ar K H p xs/\k = !xs.isEmpty)∨(∃ xs,aI K H p xs/\k = !xs.isEmpty)∨∃ kvs,H p=some (.dK kvs)/\k = !kvs.isEmpty
 | _=>False
theorem Ep (r:KV kvs vs):(!vs.isEmpty) = !kvs.isEmpty:=by
 cases r <;> rfl
theorem vI (r:aM xs its):(!its.toArray.isEmpty) = !xs.isEmpty:=by
 cases r <;> simp
theorem mI:(aal:Nat)<2 ^ 63:=by rw[aaJ];decide
theorem MR:RJ X (λx H Q=>∃ k,IL X.K x H k/\Q k H):=by
 intro gV s Z H x v Q I rx h;obtain⟨k,e,q⟩:=h;have hl:=mI;have hs:aal=16777216:=aaJ;cases x with
 | aC =>
   cases rx
   have e':k=false:=e;subst e';exact truthy_none ⟨H,I,q⟩
 | bl b =>
   cases rx
   have e':k=b:=e;subst e';exact abk ⟨H,I,q⟩
 | int i =>
   obtain⟨t,rfl⟩:=rx;have e':k=(i != 0):=e;subst e';exact PySem.P.truthy_int ⟨H,I,q⟩
 | str y =>
   obtain⟨t,rfl⟩:=rx;obtain⟨hy,e'⟩:y.length<=aal/\k=((y.length:Int) != 0):=e;subst e';exact PySem.P.truthy_str (by omega) ⟨H,I.tok _,q⟩
 | byt y =>
   obtain⟨t,rfl⟩:=rx;obtain⟨hy,e'⟩:y.size<=aal/\k=((y.size:Int) != 0):=e;subst e';exact W.truthy_bytes (by omega) ⟨H,I.tok _,q⟩
 | ref p =>
   cases rx
   have e':(∃ xs,ar X.K H p xs/\k = !xs.isEmpty)∨(∃ xs,aI X.K H p xs/\k = !xs.isEmpty)∨∃ kvs,H p=some (.dK kvs)/\k = !kvs.isEmpty:=e;rcases e' with ⟨xs,hx,e'⟩ | ⟨xs,hx,e'⟩ | ⟨kvs,hx,e'⟩
   . subst e';obtain⟨its,r,pl,hz⟩:=I.list hx;have S4:=r.length;exact wpAny_truthy_list pl.isList (by simp only[aao];omega) ⟨H,I.tok _,by rw[vI r];exact q⟩
   . subst e';obtain⟨its,r,pl,hz⟩:=I.tuple hx;have S4:=r.length;exact truthy_tuple pl (by simp only[aao];omega) ⟨H,I.tok _,by rw[vI r];exact q⟩
   . subst e';obtain⟨hz,hS,vs,r,m⟩:kvs.length<=aal/\(p == ach)=false/\∃ vs,KV kvs vs/\s.heap.DictOf (c4 X.prog X.w) p vs:=I.az p _ hx;have S4:kvs.length=vs.length:=adC r;exact wpAny_truthy_dict hS m (by omega) ⟨H,I.tok _,by rw[Ep r];exact q⟩
 | _=>exact(show False from e).elim
theorem Il (ha : PE X a ta)(he : ∀ TJ, isTrue a X.env TJ = (do let v <- TJ; standAt a.pos; holding [v] (truthy v))) :
   PT X a (λZ H Q=>ta Z H λx H'=>∃ k,IL X.K x H' k/\Q k H'):=by
 intro gV s Z H Q I h;exact isTrue_plain (aS (ha gV s Z H _ I h) λv s1 zq=>bQ zq λx H1 I1 r1 q1=>MR gV s1 Z H1 x v Q I1 r1 q1) (he _)
theorem DO:bR X (abD .Add) (λx y H Q=>∃ i j,x=.str i/\y=.str j/\i.length+j.length<=aal/\Q (.str (i++j)) H):=by
 intro gV s Z H x y v u Q I rx ry h;obtain⟨i,j,rfl,rfl,hz,q⟩:=h;obtain⟨t,rfl⟩:=rx;obtain⟨t',rfl⟩:=ry;exact add_str (λt' tk=>⟨.str (i++j),H,I.tok _,⟨_,rfl⟩,q⟩) hz
theorem vals1 (r:aM [x] us):∃ u,us=[u]/\RelV x u:=by
 cases r with
 | cons r1 r2=>cases r2;exact⟨_,rfl,r1⟩
theorem vals2 (r:aM [x,y] us):∃ u w',us=[u,w']/\RelV x u/\RelV y w':=by
 cases r with
 | cons r1 r2 =>
   cases r2 with
   | cons r3 r4=>cases r4;exact⟨_,_,rfl,r1,r3⟩
theorem GV (hc:X.calm=true):cX X (.builtin "max") (λxs H Q=>∃ i j,xs=[.int i,.int j]/\Q (.int (if j > i then j else i)) H):=by
 intro gV s Z H xs us Q I r h;obtain⟨i,j,rfl,q⟩:=h;obtain⟨u,w',rfl,⟨t,rfl⟩,⟨t',rfl⟩⟩:=vals2 r;refine max_two_ints (I.ok.hd hc) λh' tk k=>⟨_,H,I.kept k,?_,q⟩;by_cases hj:j > i
 . rw[if_pos hj,if_pos hj];exact⟨_,rfl⟩
 . rw[if_neg hj,if_neg hj];exact⟨_,rfl⟩
theorem F3:cX X (.type "int") (λxs H Q=>(∃ i,xs=[.int i]/\Q (.int i) H)∨∃ k,xs=[.bl k]/\Q (.int (if k then 1 else 0)) H):=by
 intro gV s Z H xs us Q I r h;rcases h with ⟨i,rfl,q⟩ | ⟨k,rfl,q⟩
 . obtain⟨u, rfl, t, rfl⟩ := vals1 r;exact call_int_int ⟨.int i,H,I,⟨_,rfl⟩,q⟩
 . obtain⟨u, rfl, r1⟩ := vals1 r;cases r1
   exact call_int_bool ⟨.int (if k then 1 else 0),H,I.tok _,⟨_,rfl⟩,q⟩
def O7 (K:W.Frag)(x:V)(H:Hp)(n:Nat):Prop :=
 match x with
 | .str y=>y.length<=aal/\n=y.length
 | .byt y=>y.size<=aal/\n=y.size
 | .ref p=>(∃ xs,ar K H p xs/\n=xs.length)∨∃ xs,aI K H p xs/\n=xs.length
 | _=>False
theorem Jq:cX X (.builtin "len") (λxs H Q=>∃ x n,xs=[x]/\O7 X.K x H n/\Q (.int n) H):=by
 intro gV s Z H xs us Q I r h;obtain⟨x,n,rfl,e,q⟩:=h;obtain⟨u,rfl,rx⟩:=vals1 r;have hl:=mI;have hs:aal=16777216:=aaJ;cases x with
 | str y =>
   obtain⟨t,rfl⟩:=rx;obtain⟨hy,e'⟩:y.length<=aal/\n=y.length:=e;subst e';exact len_str (by omega) ⟨.int _,H,I.tok _,⟨_,rfl⟩,q⟩
 | byt y =>
   obtain⟨t,rfl⟩:=rx;obtain⟨hy,e'⟩:y.size<=aal/\n=y.size:=e;subst e';exact W.len_bytes (by omega) ⟨.int _,H,I.tok _,⟨_,rfl⟩,q⟩
 | ref p =>
   cases rx
   have e':(∃ xs,ar X.K H p xs/\n=xs.length)∨∃ xs,aI X.K H p xs/\n=xs.length:=e;rcases e' with ⟨xs,hx,e'⟩ | ⟨xs,hx,e'⟩
   . subst e';obtain⟨its,r',pl,hz⟩:=I.list hx;have S4:=r'.length;exact Calls.call_len_list pl.isList (by simp only[aao];omega) ⟨.int xs.length,H,I.tok _,⟨_,by simp only[aao];rw[S4]⟩,q⟩
   . subst e';obtain⟨its,r',pl,hz⟩:=I.tuple hx;have S4:=r'.length;exact len_tuple pl (by simp only[aao];omega) ⟨.int xs.length,H,I.tok _,⟨_,by simp only[aao];rw[S4]⟩,q⟩
 | _=>exact(show False from e).elim
end
structure tT (h:Heap)(x dx C:Addr)(mA:Str->Option Value):Prop where
 obj:h.get? x=some (ac7 C dx)
 ns:h.Ns1 dx mA
 ne:dx≠x
theorem GI (n:h.Ns1 dx mA):∃ od,h.get? dx=some od/\∀ name,W.lookIn name od=some (mA name):=by
 obtain⟨o,es,ep,ho,hd,hk,_,hm⟩:=n;refine⟨o,ho,λname=>?_⟩;have e:=hm name;unfold nsFind findBy at e;rw[<- Array.find?_toList] at e;unfold W.lookIn;rw[hd];dsimp only;split
 . rename_i y q;rw[q] at e;exact congrArg some e
 . rename_i q;rw[q] at e;have a:es.toList.any (·.refKey)=false:=by
     rw[List.any_eq_false];intro y hy;obtain⟨z,t,hkey⟩:=hk y (Array.mem_toList_iff.mp hy);simp[DictEntry.refKey,hkey]
   have a' : ¬ es.toList.any (·.refKey)=true:=by rw[a];exact aap
   rw[if_neg a'];exact congrArg some e
variable {C:Addr}
theorem tT.look (I:tT h x dx C mA):∃ od,W.InstAt h x (ac7 C dx) C (some od)/\∀ name,W.lookIn name od=some (mA name) :=
 let ⟨od,ho,hl⟩:=GI I.ns
 ⟨od,⟨I.obj,rfl,rfl,ho⟩,hl⟩
section
variable {prog:Program} {w:World} {A:Around} {E:Value->Shared->Prop} {s:Shared} {K:W.Frag} {x dx C f:Addr} {mA:Str->Option Value} {name:Str} {v:Value}
theorem get_map (X:K.In s.heap)(I:tT s.heap x dx C mA)(hg:W.plainGet K C name=true)(hh:W.hasDictIn K C=true)
   (ha:abh K (.ref C) name=some none) (hv:mA name=some v) (hv':W.handedIn v=true) (h:Q v { s with toks:=s.toks+1 }) :
   wpAny (model prog w) A (getAttr (.ref x) name expr) Q E s:=by
 obtain⟨od,J,hl⟩:=I.look;exact W.get_value X J (W.plainGet_of hg).1 (W.findObj_own hh ha rfl (by rw[hl,hv])) hv' h
theorem HK (X:K.In s.heap)(I:tT s.heap x dx C mA)(hg:W.plainGet K C name=true)
   (hf:abh K (.ref C) name=some (some (.ref f))) (ht:W.isFn K (.ref f)=true) (hv:mA name=none) (h:Q (.ref f,[.ref x]) s) :
   wpAny (model prog w) A (acV (.ref x) name pl) Q E s:=by
 obtain⟨od,J,hl⟩:=I.look;exact W.method_fn X J (W.plainGet_of hg).1 (W.plainGet_of hg).2 hf (beq_iff_eq.mp ht) (by show(W.lookIn name od).map (·.isSome)=some false;rw[hl,hv];rfl) h
theorem qN (X:K.In s.heap)(I:tT s.heap x dx C mA)
   (hs:abh K (.ref C) "__setattr__" = some (some (.builtin "object.__setattr__"))) (hp:W.plainOver K C=true) (ht:W.takerIn K C name=some none) (hh:W.hasDictIn K C=true)
   (hw:PySem.Within mA ns) (hsz:ns.length<=aal)
   (h:∀ h',tT h' x dx C (λy=>if y=name then some v else mA y)->ab_ dx s.heap h'->Q () { s with heap:=h',toks:=s.toks+2 }) :
   wpAny (model prog w) A (setAttr (.ref x) name v) Q E s:=by
 obtain⟨od,J,hl⟩:=I.look;refine W.set_plain X J hs (W.osa_open (s:={ s with toks:=s.toks+1 }) (r:=none) X J hp ht λb=>?_);obtain⟨cd,hc,WW⟩:=W.any_some hh;have hx:s.heap.get? x=some ⟨.ref C,some dx,.plain,#[]⟩:=I.obj;refine aad (aaj (aad (aad (wpAny_loadPart hx (aad (W.Looks.here (s:={ s with toks:=s.toks+1 }) (W.looks_clsIn X hc) ?_))))));rw[WW];refine aaj (a:=some dx) (aad (aaj (aad ?_)));refine wpAny_nsSet1 (s:={ s with toks:=s.toks+1 }) I.ns λh' hn2 Uq=>?_;obtain⟨oD,esD,epD,hoD,hdD,hcD⟩:=hn2.count (PySem.Within.cons name v hw);refine aad (wpAny_lookBehind hoD (by rw[hdD];exact pastItsLine_dict (aaL hcD (by rw[aaH];omega))) ?_);exact aaj (h _ ⟨(Uq.2 _ (Ne.symm I.ne)).trans I.obj,hn2,I.ne⟩ Uq)
theorem II (X:K.In s.heap)(hm:W.makesIn K C=true)
   (hi:abh K (.ref C) "__init__" = some (some (.ref f))) (hf:W.typeIn K (.ref f)=some (.type "function"))
   (h:codeAny (model prog w) (A.under (.builtin "type.__call__" ⟨.ref C::vs,kw⟩)) (.call (.ref f) ⟨.ref (s.heap.objs.size+1)::vs,kw⟩) (W.InitBack (s.heap.objs.size+1) R)
     { s with heap:=(s.heap.push aca).push (ac7 C s.heap.objs.size) }) :
   codeAny (model prog w) A (.call (.ref C) ⟨vs,kw⟩) R s:=by
 obtain⟨hh,g,d,t,os⟩:=s;exact W.make_core (W.makes_of X hm) (W.looks_findIn X hi) (λself=>W.bind_fn X self hf) (.inl rfl) h
end
def au (f:Str)(v:V):List (Str×V)->List (Str×V)
 | []=>[(f,v)]
 | (g,x)::r=>if g=f then (g,v)::r else (g,x)::au f v r
theorem fL (f g : Str)(v : V) : ∀ fs : List (Str × V), (au f v fs).lookup g = if g = f then some v else fs.lookup g
 | [] => by
   show abC g [(f,v)]=_;by_cases h:g=f
   . have hb : (g == f) = true := beq_iff_eq.mpr h;simp only[abC,hb,if_pos h]
   . have hb : (g == f) = false := beq_eq_false_iff_ne.mpr h;simp only[abC,hb,if_neg h]
 | (k, x) :: r => by
   have ih:=fL f g v r;rw[show au f v ((k,x)::r)=(if k=f then (k,v)::r else (k,x)::au f v r) from rfl];by_cases hk:k=f
   . rw[if_pos hk];by_cases h:g=k
     . have hb : (g == k) = true := beq_iff_eq.mpr h;simp only[abC,hb,if_pos (h.trans hk)]
     . have hb : (g == k) = false := beq_eq_false_iff_ne.mpr h;simp only[abC,hb,if_neg (λe:g=f=>h (e.trans hk.symm))]
   . rw[if_neg hk];by_cases h:g=k
     . have hb : (g == k) = true := beq_iff_eq.mpr h;simp only[abC,hb,if_neg (λe:g=f=>hk (h.symm.trans e))]
     . have hb : (g == k) = false := beq_eq_false_iff_ne.mpr h;simp only[abC,hb];exact ih
theorem pF (f:Str)(v:V):∀ fs:List (Str×V),f∈(au f v fs).map (·.1)/\∀ g,g∈fs.map (·.1)->g∈(au f v fs).map (·.1)
 | []=>⟨by simp[au],λg h=>by simp at h⟩
 | (k, x) :: r => by
   obtain⟨i1,i2⟩:=pF f v r;rw[show au f v ((k,x)::r)=(if k=f then (k,v)::r else (k,x)::au f v r) from rfl];by_cases hk:k=f
   . rw[if_pos hk];subst hk;exact⟨by simp,λg h=>by simpa using h⟩
   . rw [if_neg hk];refine ⟨?_,λg h=>?_⟩
     . rw[aaR];exact abc _ i1
     . rw[aaR] at h ⊢;rcases List.mem_cons.mp h with e | e
       . exact List.mem_cons.mpr (.inl e)
       . exact abc _ (i2 g e)
theorem lE (f:Str)(v:V):∀ fs:List (Str×V),(au f v fs).length<=fs.length+1
 | []=>by simp[au]
 | (k, x) :: r => by
   have ih:=lE f v r;rw[show au f v ((k,x)::r)=(if k=f then (k,v)::r else (k,x)::au f v r) from rfl];by_cases hk:k=f
   . rw[if_pos hk,aaH,aaH];omega
   . rw[if_neg hk,aaH,aaH];omega
theorem ff.some_of {v:V}{o:Option Value}(r:ff (some v) o):∃ u,o=some u/\RelV v u:=by
 cases o with
 | none=>exact(show False from r).elim
 | some u=>exact⟨u,rfl,r⟩
theorem ff.none_of {o:Option Value}(r:ff none o):o=none:=by
 cases o with
 | none=>rfl
 | some u=>exact(show False from r).elim
theorem GS (r:RelV v u):W.handedIn u=true:=by
 cases v with
 | aC=>cases (show u=abq from r);rfl
 | bl b=>cases (show u=adh b from r);rfl
 | int i=>obtain⟨t,e⟩:=(show ∃ t,u=abt i t from r);cases e;rfl
 | str x=>obtain⟨t,e⟩:=(show ∃ t,u=adF x t from r);cases e;rfl
 | byt b=>obtain⟨t,e⟩:=(show ∃ t,u=Value.bytes b t from r);cases e;rfl
 | AU b=>obtain⟨t,e⟩:=(show ∃ t,u=Value.float b t from r);cases e;rfl
 | ref a=>cases (show u=Td a from r);rfl
 | ty n=>cases (show u=acY n from r);rfl
section
variable {P:Program} {w:World} {H H':Hp} {h h':Heap} {a C dx:Addr} {fs U7:List (Str×V)}
theorem qy (az:de P w H h)(e:H a=some (.ins C dx fs)):∃ mA,tT h a dx C mA/\(∀ f,ff (fs.lookup f) (mA f))/\PySem.Within mA (fs.map (·.1))/\fs.length<=1000/\H dx=some (.own a):=by
 obtain⟨d,z,ne,ob,mA,n,r,q⟩:=(show b9 P w H h a (.ins C dx fs) from az a _ e)
 exact⟨mA,⟨ob,n,ne⟩,r,q,z,d⟩
end
structure dY (K:W.Frag)(C:Addr):Prop where
 pg:W.plainGet K C adm=true
 hd:W.hasDictIn K C=true
 po:W.plainOver K C=true
 sa:abh K (.ref C) "__setattr__" = some (some (.builtin "object.__setattr__"))
theorem dY.get {K:W.Frag}(c:dY K C)(f:Str):W.plainGet K C f=true:=c.pg
def a9 (K:W.Frag)(C:Addr)(f:Str):Prop:=abh K (.ref C) f=some none
theorem a9.PU {K:W.Frag}{f:Str}(n:a9 K C f):W.takerIn K C f=some none:=by
 unfold W.takerIn;rw[show abh K (.ref C) f=some none from n];rfl
structure z_ (K:W.Frag)(C:Addr)(m:Str)(f:Addr):Prop where
 at_:abh K (.ref C) m=some (some (.ref f))
 fn:W.isFn K (.ref f)=true
 kp:abi K (.ref f)=true
section
variable {X:Cx} {gV:List (Addr×Obj)} {Z : St} {H:Hp} {s:Shared} {a C dx:Addr} {fs:List (Str×V)} {f:Str} {v:V} {A:Around} {E:Value->Shared->Prop}
theorem Ds {b:Bool}{Q:Value->Shared->Prop}(I:Inv X gV Z H s)(e:H a=some (.ins C dx fs))(c:dY X.K C)(n:a9 X.K C f)(l:fs.lookup f=some v)
   (h:∀ u s',Inv X gV Z H s'->RelV v u->Q u s'):wpAny (model X.prog X.w) A (getAttr (.ref a) f b) Q E s:=by
 obtain⟨mA,O,r,_,_,_⟩:=qy I.az e;obtain⟨u,hu,ru⟩:=ff.some_of (v:=v) (o:=mA f) (by rw[<- l];exact r f);exact get_map I.df O (c.get f) c.hd n hu (GS ru) (h u _ (I.tok _) ru)
theorem uN (I:Inv X gV Z H s)(e:H a=some (.ins C dx fs))(c:dY X.K C)(k:z_ X.K C m g)(l:fs.lookup m=none)
   (h:Q (.ref g,[.ref a]) s):wpAny (model X.prog X.w) A (acV (.ref a) m pl) Q E s:=by
 obtain⟨mA,O,r,_,_,_⟩:=qy I.az e;have hn:mA m=none:=ff.none_of (by rw[<- l];exact r m);exact HK I.df O (c.get m) k.at_ k.fn hn h
theorem DJ (I:Inv X gV Z H s)(e:H a=some (.ins C dx fs))(c:dY X.K C)(n:a9 X.K C f)(hl:fs.length<1000)(ry:RelV y u)
   (h:∀ s',Inv X gV Z (upd H a (.ins C dx (au f y fs))) s'->Q () s'):wpAny (model X.prog X.w) A (setAttr (.ref a) f u) Q E s:=by
 obtain⟨mA,O,r,wi,_,ho⟩:=qy I.az e;have hz:(fs.map (·.1)).length<=aal:=by rw[aac,aaJ];omega
 refine qN I.df O c.sa c.po n.PU c.hd wi hz λh' O' sb=>h _ ?_;have hd:∃ o,h'.get? dx=some o:=let ⟨o,_,_,e',_⟩:=O'.ns;⟨o,e'⟩;refine I.write (x:=a) (e:=dx) (by rw[e];exact aan) (.inr ho) (λb q hb z=>(sb.2 b hb).trans z) hd ?_;refine⟨by rw[ak O.ne];exact ho,?_,O.ne,O'.obj,_,O'.ns,λg=>?_,λg hg=>?_⟩
 . have:=lE f y fs;omega
 . show ff ((au f y fs).lookup g) (if g = f then some u else mA g);rw[fL];by_cases q:g=f
   . rw[if_pos q,if_pos q];exact ry
   . rw[if_neg q,if_neg q];exact r g
 . by_cases q:g=f
   . rw[q];exact(pF f y fs).1
   . refine(pF f y fs).2 g (wi g λz=>hg ?_);show(if g=f then some u else mA g)=none;rw[if_neg q];exact z
theorem Inv.made (I:Inv X gV Z H s):Inv X gV Z (upd (upd H s.heap.objs.size (.own (s.heap.objs.size+1))) (s.heap.objs.size+1) (.ins C s.heap.objs.size []))
   { s with heap:=(s.heap.push aca).push (ac7 C s.heap.objs.size) }:=by
 have e1:(s.heap.push aca).get? s.heap.objs.size=some aca:=aat s.heap rfl;have e2:((s.heap.push aca).push (ac7 C s.heap.objs.size)).get? (s.heap.objs.size+1)=some (ac7 C s.heap.objs.size):=by
   have:=aat (s.heap.push aca) (o:=ac7 C s.heap.objs.size) rfl
   rwa [abP] at this
 have e3:(s.heap.push aca).Ns s.heap.objs.size (λ_=>none):=⟨aca,#[],_,e1,rfl,(λe he=>absurd he (by simp)),λ_=>rfl⟩
 have I1:=I.laid (a:=s.heap.objs.size) (o:=.own (s.heap.objs.size+1)) (h':=s.heap.push aca) (t':=s.toks) (λb u q=>aaf _ q) (aag _) ⟨_,e1⟩;refine I1.laid (a:=s.heap.objs.size+1) (o:=.ins C s.heap.objs.size []) (t':=s.toks) (λb u q=>aaf _ q) (acw (abP _ _)) ?_;have ne:s.heap.objs.size≠s.heap.objs.size+1:=aaw (acE _);refine⟨by rw[ak ne,aa],aaU _,ne,e2,λ_=>none,(Heap.Ns1.of_empty e3).at λo q=>aaf _ q,λ_=>aan,λy hy=>absurd rfl hy⟩
theorem L7 {f:Str}{s:Shared}(hb:ab3 e f env (eval e env)=eval e env)
   (h:wpAny (model prog w) A (eval e env) (λo s₁=>wpAny (model prog w) A (getAttr o f true) Q E s₁) E s):wpAny (model prog w) A (eval (.Attribute e f pos) env) Q E s :=
 Attribute_any_ h (by rw[arm_eval_Attribute,hb])
end
def Ov (K:W.Frag)(f:Str):V->Hp->VK->Prop:=λx H1 Q=>∃ a C dx fs v,x=.ref a/\H1 a=some (.ins C dx fs)/\dY K C/\a9 K C f/\fs.lookup f=some v/\Q v H1
@[reducible] def AN (K:W.Frag) (ta:TE) (f:Str):TE:=λZ H Q=>ta Z H λx H1=>Ov K f x H1 Q
def JT (K:W.Frag)(f:Str)(y:V)(D:Ends)(Z : St):V->Hp->Prop:=λx H2=>∃ a C dx fs,x=.ref a/\H2 a=some (.ins C dx fs)/\dY K C/\a9 K C f/\fs.length<1000/\D.nx Z (upd H2 a (.ins C dx (au f y fs)))
@[reducible] def O6 (K:W.Frag) (ta tv:TE) (f:Str):TS:=λD Z H=>tv Z H λy H1=>ta Z H1 λx H2=>JT K f y D Z x H2
section
variable {X:Cx} {o e value:Expr} {f:Str} {pos Tx TV:Pos} {ta tv:TE}
theorem OW (he:PE X e ta)(hb:ab3 e f X.env (eval e X.env)=eval e X.env):PE X (.Attribute e f pos) (AN X.K ta f):=by
 intro gV s Z H Q I h;refine L7 hb (aS (he gV s Z H _ I h) λu s1 zq=>?_);obtain⟨x,H1,I1,rx,a,C,dx,fs,v,ex,ea,c,n,l,q⟩:=zq;subst ex;obtain rfl:u=Td a:=rx;exact Ds I1 ea c n l λu' s2 I2 ru=>⟨v,H1,I2,ru,q⟩
theorem Pp (ha:PE X o ta)(hv:PE X value tv)(hs:acU value (some (.Attribute o f Tx)) pos.line X.env=pure false):PS X (.Assign [.Attribute o f Tx] value pos) (O6 X.K ta tv f):=by
 intro gV s Z H D I h;refine plainObj_wpAny_Assign_Attribute (aS (hv gV s Z H _ I h) λu s1 zq=>bQ zq λy H1 I1 ry q=>aS (ha gV s1 Z H1 _ I1 q) λov s2 zq=>?_) hs;obtain⟨x,H2,I2,rx,a,C,dx,fs,ex,ea,c,n,l,q2⟩:=zq;subst ex;obtain rfl:ov=Td a:=rx;exact DJ I2 ea c n l ry λs3 I3=>⟨Z,_,I3,q2⟩
end
section
variable {X:Cx} {gV:List (Addr×Obj)} {Z : St} {H:Hp} {s:Shared} {A:Around} {E:Value->Shared->Prop} {Q:Value->Shared->Prop} {c:Value} {b:Bool}
inductive fF (K:W.Frag) (H:Hp):V->Value->Prop where
 | aC:fF K H .aC (.type "NoneType")
 | bl (x:Bool):fF K H (.bl x) (.type "bool")
 | int (i:Int):fF K H (.int i) (.type "int")
 | str (x:Str):fF K H (.str x) (.type "str")
 | AU (x:UInt64):fF K H (.AU x) (.type "float")
 | lst {a:Addr} {xs:List V} (e:H a=some (.lst xs)):fF K H (.ref a) (.type "list")
 | ky {a:Addr} {o:Obj} {xs:List V} (e:H a=some (.ky o (.lst xs))):fF K H (.ref a) (.type "list")
 | tup {a:Addr} {xs:List V} (e:H a=some (.tup xs)):fF K H (.ref a) (.type "tuple")
 | dK {a:Addr} {kvs:List (Key×V)} (e:H a=some (.dK kvs)):fF K H (.ref a) (.type "dict")
 | dT {a:Addr} {kvs:List (List Key×V)} (e:H a=some (.dT kvs)):fF K H (.ref a) (.type "dict")
 | ins {a C dx:Addr} {fs:List (Str×V)} (e:H a=some (.ins C dx fs)) (cl:dY K C) (ha:abh K (.ref C) "__class__" = some (some (.builtin "object.__class__")))
     (hn:W.specialIn K (.builtin "object.__class__") "__get__" = some (some (.builtin "getset_descriptor.__get__"))) (htk:W.takesIn K (.builtin "object.__class__")=some true)
     (hm:W.mroIn K C (.type "object")=some true):fF K H (.ref a) (.ref C)
theorem FD (I:Inv X gV Z H s)(rx:RelV x u)(ty:fF X.K H x t)(e:aci X.K t c=some b)(h:∀ tk,Q (.bool b) { s with toks:=tk }) :
   wpAny (model X.prog X.w) A (call (.builtin "isinstance") [u,c]) Q E s:=by
 cases ty with
 | aC=>cases (show u=abq from rx);exact acj W.kitx_none I.df aan e (λz=>nomatch z) h
 | bl y=>cases (show u=adh y from rx);exact acj W.kitx_bool I.df aan e (λz=>nomatch z) h
 | int i=>obtain⟨t,q⟩:=(show ∃ t,u=abt i t from rx);cases q;exact acj W.kitx_int I.df aan e (λz=>nomatch z) h
 | str y=>obtain⟨t,q⟩:=(show ∃ t,u=adF y t from rx);cases q;exact acj W.kitx_str I.df aan e (λz=>nomatch z) h
 | AU y=>obtain⟨t,q⟩:=(show ∃ t,u=Value.float y t from rx);cases q;exact acj W.kitx_float I.df aan e (λz=>nomatch z) h
 | @lst a xs ea =>
   cases (show u=Td a from rx)
   obtain⟨_,_,n,_,h1⟩:=(show b9 X.prog X.w H s.heap a (.lst xs) from I.az a _ ea)
   exact acj W.kitx_list I.df ⟨_,h1,rfl⟩ e (λz=>nomatch z) h
 | @ky a ob xs ea =>
   cases (show u=Td a from rx)
   obtain⟨_,_,_,n,_,h1⟩:=(show b9 X.prog X.w H s.heap a (.ky ob (.lst xs)) from I.az a _ ea)
   exact acj W.kitx_list I.df ⟨_,h1,rfl⟩ e (λz=>nomatch z) h
 | @tup a xs ea =>
   cases (show u=Td a from rx)
   obtain⟨_,_,_,p⟩:=(show b9 X.prog X.w H s.heap a (.tup xs) from I.az a _ ea)
   obtain⟨o,h1,h2,_⟩:=p;exact acj W.kitx_tuple I.df ⟨o,h1,h2⟩ e (λz=>nomatch z) h
 | @dK a kvs ea =>
   cases (show u=Td a from rx)
   obtain⟨_,_,vs,_,p⟩:=(show b9 X.prog X.w H s.heap a (.dK kvs) from I.az a _ ea)
   obtain⟨o,es,ep,h1,h2,_⟩:=p;exact acj W.kitx_dict I.df ⟨o,h1,h2.1⟩ e (λz=>nomatch z) h
 | @dT a kvs ea =>
   cases (show u=Td a from rx)
   obtain⟨_,_,xs,_,o,es,ep,h1,h2,_⟩:=(show b9 X.prog X.w H s.heap a (.dT kvs) from I.az a _ ea)
   exact acj W.kitx_dict I.df ⟨o,h1,h2.1⟩ e (λz=>nomatch z) h
 | @ins a C dx fs ea cl ha hn htk hm =>
   cases (show u=Td a from rx)
   obtain⟨mA,O,_⟩:=qy I.az ea;obtain⟨od,J,_⟩:=O.look;exact acj (W.kitx_own (cl.get _) cl.hd ha hn htk hm) I.df J e (λz=>nomatch z) h
end
structure bI (k:Nat)(A:Around):Prop where
 hd:A.handled=none
 dp:A.depth+1*k+5<recursionLimit
 un:A.units+16*k+200<cLine
 gd:A.guards=some []
theorem bI.mono (r:bI k A)(h:j<=k):bI j A:=⟨r.hd,by have:=r.dp;omega,by have:=r.un;omega,r.gd⟩
theorem bI.deeper (r:bI (k+1) A)(env:Env):bI k (A.deeper env) :=
 ⟨r.hd,by have:=r.dp;show A.depth+1+1*k+5<_;omega,by have:=r.un;show A.units+3+16*k+200<_;omega,r.gd⟩
variable {kw:List (Str×Value)}
theorem DM:(A.under (.builtin "type.__call__" ⟨.ref C::us,kw⟩)).depth=A.depth+1:=by
 first | rfl | simp[Around.under,Code.weight,Code.isCreation,Code.isGuard,Code.isCaller,Code.frames,Code.isFrame,guardIds]
theorem EF:(A.under (.builtin "type.__call__" ⟨.ref C::us,kw⟩)).units=A.units+1:=by
 first | rfl | simp[Around.under,Code.cUnits,Code.frames,Code.isFrame]
theorem BZ:(A.under (.builtin "type.__call__" ⟨.ref C::us,kw⟩)).guards=A.guards:=by
 have e:(Code.builtin "type.__call__" ⟨.ref C::us,kw⟩).guards=[]:=by first | rfl | simp[Code.guards,Code.isGuard,guardIds]
 simp only[Around.under,e,pushGuards]
theorem bI.make (r:bI (k+1) A)(C:Addr)(us:List Value)(kw:List (Str×Value)):bI k (A.under (.builtin "type.__call__" ⟨.ref C::us,kw⟩)) :=
 ⟨r.hd,by have:=r.dp;rw[DM];omega,by have:=r.un;rw[EF];omega,by rw[BZ];exact r.gd⟩
theorem bI.depth (r:bI k A):A.depth<recursionLimit:=by have:=r.dp;omega
theorem bI.units (r:bI k A):A.units+64<cLine:=by have:=r.un;omega
@[reducible] def aR:TA:=λ_ H Q=>Q [] H
@[reducible] def ay (ta:TE) (tr:TA):TA:=λZ H Q=>ta Z H λx H1=>tr Z H1 λxs H2=>Q (x::xs) H2
section
variable {X:Cx} {e:Expr} {es:List Expr} {te:TE} {t:TA} {pos:Pos}
theorem aD:PA X [] aR:=λ_ _ _ _ H Q I h=>Calls.spliced_nil ⟨[],H,I,.nil,h⟩
theorem aj (ha:PE X e te)(hr:PA X es t)(hs:aai (e::es) X.env=(false,eval e X.env)::aai es X.env:=by rfl):PA X (e::es) (ay te t):=by
 intro pos gV s Z H Q I h;rw[hs];show wpAny _ _ (spliced ((false,eval e X.env)::backTo pos (aai es X.env))) _ _ s;refine adL (aS (ha gV s Z H _ I h) λu s1 zq=>bQ zq λx H1 I1 r1 q1=>?_);exact aS (hr pos gV s1 Z H1 _ I1 q1) λus s2 zq=>bQ zq λxs H2 I2 r2 q2=>⟨x::xs,H2,I2,.cons r1 r2,q2⟩
@[reducible] def ju (t:TA):TE:=λZ H Q=>t Z H λxs H1=>Dv xs 100 (∀ p,H1 p=none->Q (.ref p) (upd H1 p (.tup xs)))
@[reducible] def oH (t:TA):TE:=λZ H Q=>t Z H λxs H1=>Dv xs 100 (∀ p,H1 p=none->Q (.ref p) (upd H1 p (.lst xs)))
theorem pO {x1}(h:PA X es t):PE X (.Tuple es x1 pos) (ju t):=by
 intro gV s Z H Q I hq;refine wpAny_Tuple_spliced (aS (h pos gV s Z H _ I hq) λus s1 zq=>bQ zq λxs H1 I1 r z0=>?_);obtain⟨z1,q⟩:=qv z0;have z:xs.length<=aal:=aaL z1 (by rw[aaJ];decide);refine⟨by rw[<- r.length];exact z,?_⟩;have hf:H1 s1.heap.objs.size=none:=I1.az.fresh (aag _);refine⟨.ref s1.heap.objs.size,upd H1 s1.heap.objs.size (.tup xs),I1.laid (t':=s1.toks) (λb u e=>aaf _ e) (aag _) ?_,rfl,q _ hf⟩;exact⟨z,us,r,⟨_,aat _ rfl,rfl,_,rfl⟩⟩
theorem lI (h:PA X es t):PE X (.List es pos) (oH t):=by
 intro gV s Z H Q I hq;refine wpAny_List_spliced (aS (h pos gV s Z H _ I hq) λus s1 zq=>bQ zq λxs H1 I1 r z0=>?_);obtain⟨z1,q⟩:=qv z0;have z:xs.length<=aal:=aaL z1 (by rw[aaJ];decide);refine⟨by rw[<- r.length];exact z,?_⟩;have hf:H1 s1.heap.objs.size=none:=I1.az.fresh (aag _);refine⟨.ref s1.heap.objs.size,upd H1 s1.heap.objs.size (.lst xs),I1.laid (t':=s1.toks) (λb u e=>aaf _ e) (aag _) ?_,rfl,q _ hf⟩;exact⟨z,us,0,r,aat _ rfl⟩
end
abbrev Sp:=List V->Hp->VK->XK->Prop
abbrev dM:=List Env->Hp->Shared->XK->Value->Shared->Prop
structure ub (P:Program)(w:World)(K:W.Frag)(mg:Str->Option Value)(base:Heap)(A:Around)(outer:List Env)(s:Shared)(H:Hp):Prop where
 frames:A.frames=some outer
 mod:Mod K mg base
 bs:∀ b o,base.get? b=some o->s.heap.get? b=some o/\H b=none
 rl:base.objs.size<=s.heap.objs.size
 gH:s.heap.FunFrames base outer
 vt:∀ b∈cU outer,H b=none
 az:de P w H s.heap
 bare:AllBare s.gens
def CE (outer:List Env)(P:Program)(w:World)(H:Hp)(s:Shared)(Q:VK)(u:Value)(s':Shared):Prop :=
 ∃ v H',s'.os=s.os/\AllBare s'.gens/\Un (cU outer) [] H H' s.heap s'.heap/\de P w H' s'.heap/\RelV v u/\Q v H'
def CR (CX:dM)(outer:List Env)(P:Program)(w:World)(H:Hp)(s:Shared)(Q:VK)(E:XK)(r:Result)(s':Shared):Prop :=
 match r with
 | .ok (.ret u)=>CE outer P w H s Q u s'
 | .ok _=>False
 | .error e=>CX outer H s E e s'
structure c7 (P:Program)(w:World)(K:W.Frag)(mg:Str->Option Value)(base:Heap)(CX:dM)(k:Nat)(f:Addr)(fd:aa4)(ps:List Str)(sp:Sp):Prop where
 len:∀ vs H Q E,sp vs H Q E->vs.length=ps.length
 run:∀ (A:Around) (outer:List Env) (s:Shared) (H:Hp) (args:Args) (us:List Value) (vs:List V) (Q:VK) (E:XK),bI k A->ub P w K mg base A outer s H->BindsTo s fd args (ps.zip us)->aM vs us->sp vs H Q E ->
   codeAny (model P w) A (.call (.ref f) args) (CR CX outer P w H s Q E) s
theorem c7.mono {P:Program}{w:World}{K:W.Frag}{mg:Str->Option Value}{base:Heap}{CX:dM}{j k:Nat}{f:Addr}{fd:aa4}{ps:List Str}{sp:Sp}(F:c7 P w K mg base CX j f fd ps sp)(h:j<=k) :
   c7 P w K mg base CX k f fd ps sp:=⟨F.len,λA outer s H args us vs Q E hr=>F.run A outer s H args us vs Q E (hr.mono h)⟩
theorem ub.make {P:Program}{w:World}{K:W.Frag}{mg:Str->Option Value}{base:Heap}{outer:List Env}(e:ub P w K mg base A outer s H)(C:Addr)(us:List Value)(kw:List (Str×Value)) :
   ub P w K mg base (A.under (.builtin "type.__call__" ⟨.ref C::us,kw⟩)) outer s H:=⟨by first | exact e.frames | (simpa [Around.under,Code.envs,Code.isFrame,pushEnvs] using e.frames),e.mod,e.bs,e.rl,e.gH,e.vt,e.az,e.bare⟩
section
variable {X:Cx} {gV:List (Addr×Obj)} {Z : St} {H:Hp} {s s':Shared}
theorem Inv.zP (I:Inv X gV Z H s):ub X.prog X.w X.K X.mg X.base X.A X.stack s H :=
 ⟨I.ok.frames,I.ok.mod,I.bs,aaL I.ok.rl I.sz,I.stack,I.lN,I.az,I.bare⟩
theorem Inv.after (I:Inv X gV Z H s)(h:CE X.stack X.prog X.w H s Q u s'):EP X gV Z Q u s':=by
 obtain⟨v,H',os,bare,un,az,r,q⟩:=h;obtain⟨hh,g,d,t,os'⟩:=s';obtain rfl:os'=s.os:=os;exact⟨v,H',I.call (h':=hh) (g':=g) (d':=d) (t':=t) (ch:=[]) un az bare (λb z=>absurd z (by simp)),r,q⟩
end
def KG (sp:Sp)(Vf:List V)(E:XK)(t:TA):TE:=λZ H Q=>t Z H λvs H1=>sp (vs++Vf) H1 Q E
def Kw (C:Addr)(sp:Sp)(Vf:List V)(E:XK)(t:TA):TE:=λZ H Q=>t Z H λvs H1=>∀ x dx,H1 x=none->H1 dx=none->dx≠x ->
 sp (.ref x::(vs++Vf)) (upd (upd H1 dx (.own x)) x (.ins C dx [])) (λv H2=>v=.aC/\Q (.ref x) H2) E
def Binds (K:W.Frag)(fd:aa4)(ps:List Str)(ds:List Value):Prop :=
 ∀ (s:Shared) (us:List Value),K.In s.heap->(us++ds).length=ps.length->BindsTo s fd ⟨us,[]⟩ (ps.zip (us++ds))
theorem Binds.all {K:W.Frag}{fd:aa4}{ps:List Str}(h:∀ us:List Value,us.length=ps.length->abW fd ⟨us,[]⟩=pure (ps.zip us)):Binds K fd ps []:=λs us _ hl=>by
 rw[aaM] at hl ⊢;exact .of_eq (h us hl)
def dE (CX:dM)(X:Cx)(E:XK):Prop:=∀ (gV:List (Addr×Obj)) (Z : St) (H:Hp) (s:Shared) (e:Value) (s':Shared),Inv X gV Z H s->CX X.stack H s E e s'->X.xe e s'
section
variable {X:Cx} {CX:dM} {k:Nat} {f C:Addr} {fd:aa4} {ps:List Str} {sp:Sp} {Vf:List V} {ds:List Value} {E:XK} {x m:Str} {p pos S_:Pos} {e o:Expr} {es:List Expr} {ta:TE} {t:TA}
theorem AF {gV:List (Addr×Obj)}{Z : St}{H:Hp}{s:Shared}{us:List Value}(F:c7 X.prog X.w X.K X.mg X.base CX k f fd ps sp)(hr:bI k X.A)(hb:Binds X.K fd ps ds)(hd:aM Vf ds)(hx:dE CX X E)
   (I:Inv X gV Z H s) (r:aM vs us) (h:sp (vs++Vf) H Q E):wpAny (model X.prog X.w) X.A (call (.ref f) us) (EP X gV Z Q) X.xe s:=by
 have r2:aM (vs++Vf) (us++ds):=r.append hd;have hl:(us++ds).length=ps.length:=by rw[<- r2.length];exact F.len _ _ _ _ h
 refine acO (ab0 (F.run X.A X.stack s H ⟨us,[]⟩ (us++ds) (vs++Vf) Q E hr I.zP (hb s us I.df hl) r2 h) λr s' hq=>?_);cases r with
 | error e=>exact hx gV Z H s e s' I hq
 | ok fl =>
   cases fl with
   | ret u=>exact I.after hq
   | next=>exact aaW hq
   | brk=>exact aaW hq
   | cont=>exact aaW hq
theorem Me (F:c7 X.prog X.w X.K X.mg X.base CX k f fd ps sp)(hr:bI k X.A)(hg:Gl X x)(hm:X.mg x=some (.ref f))(hk:abi X.K (.ref f)=true)(hb:Binds X.K fd ps ds)(hd:aM Vf ds)(hx:dE CX X E)
   (ha:PA X (e::es) t) (Tt:(x == ("__debug__" : Str))=false:=by decide) (he:aai (e::es) X.env=(false,eval e X.env)::aai es X.env:=by rfl) (S6:(backTo pos (aai es X.env)).any (·.1)=false:=by rfl) :
   PE X (.Call (.Name x p) (e::es) [] pos) (KG sp Vf E t):=by
 intro gV s Z H Q I h;refine abg (eT I hg hm ?_ Tt);refine adw (h₀:=X.base) I.ok.mod.uh hk (aS (ha pos gV s Z H _ I h) λus s1 zq=>bQ zq λvs H1 I1 r q=>⟨I1.df,?_⟩) he S6;exact AF F hr hb hd hx I1 r q
structure Mk (K:W.Frag)(C f:Addr):Prop where
 makes:W.makesIn K C=true
 init:abh K (.ref C) "__init__" = some (some (.ref f))
 fn:W.isFn K (.ref f)=true
 kp:abi K (.ref C)=true
theorem ID {gV:List (Addr×Obj)}{Z : St}{H:Hp}{s:Shared}{us:List Value}(M:Mk X.K C f)(F:c7 X.prog X.w X.K X.mg X.base CX k f fd ps sp)(hr:bI (k+1) X.A)(hb:Binds X.K fd ps ds)(hd:aM Vf ds)
   (hx:dE CX X E) (I:Inv X gV Z H s) (r:aM vs us)
   (h:∀ x dx,H x=none->H dx=none->dx≠x->sp (.ref x::(vs++Vf)) (upd (upd H dx (.own x)) x (.ins C dx [])) (λv H2=>v=.aC/\Q (.ref x) H2) E) :
   wpAny (model X.prog X.w) X.A (call (.ref C) us) (EP X gV Z Q) X.xe s:=by
 have hq:=h (s.heap.objs.size+1) s.heap.objs.size (I.az.fresh (abm _)) (I.az.fresh (aag _)) (aaw (acE _));have I2:=Inv.made (C:=C) I;have r2:aM (V.ref (s.heap.objs.size+1)::(vs++Vf)) (Td (s.heap.objs.size+1)::(us++ds)):=.cons rfl (r.append hd);have hl:(Td (s.heap.objs.size+1)::us++ds).length=ps.length:=by
   have e:=r2.length;rw[F.len _ _ _ _ hq] at e;exact e.symm
 refine acO (II (f:=f) I.df M.makes M.init (beq_iff_eq.mp M.fn) (ab0 (F.run _ X.stack _ _ ⟨Td (s.heap.objs.size+1)::us,[]⟩ (Td (s.heap.objs.size+1)::(us++ds)) _ _ E (hr.make C us [])
   (I2.zP.make C us []) (hb _ (Td (s.heap.objs.size+1)::us) I2.df hl) r2 hq) λr s' hq'=>?_))
 cases r with
 | error e=>exact hx gV Z _ _ e s' I2 hq'
 | ok fl =>
   cases fl with
   | ret u =>
     obtain⟨v,H',I3,rv,ev,q3⟩:=I2.after hq';subst ev;exact⟨rv,⟨V.ref (s.heap.objs.size+1),H',I3,rfl,q3⟩⟩
   | next=>exact aaW hq'
   | brk=>exact aaW hq'
   | cont=>exact aaW hq'
theorem Df (M:Mk X.K C f)(F:c7 X.prog X.w X.K X.mg X.base CX k f fd ps sp)(hr:bI (k+1) X.A)(hg:Gl X x)(hm:X.mg x=some (.ref C))(hb:Binds X.K fd ps ds)(hd:aM Vf ds)(hx:dE CX X E)
   (ha:PA X (e::es) t) (Tt:(x == ("__debug__" : Str))=false:=by decide) (he:aai (e::es) X.env=(false,eval e X.env)::aai es X.env:=by rfl) (S6:(backTo pos (aai es X.env)).any (·.1)=false:=by rfl) :
   PE X (.Call (.Name x p) (e::es) [] pos) (Kw C sp Vf E t):=by
 intro gV s Z H Q I h;refine abg (eT I hg hm ?_ Tt);refine adw (h₀:=X.base) I.ok.mod.uh M.kp (aS (ha pos gV s Z H _ I h) λus s1 zq=>bQ zq λvs H1 I1 r q=>⟨I1.df,?_⟩) he S6;exact ID M F hr hb hd hx I1 r q
end
structure aq (N P:List Str)(sc:Scope):Prop where
 kind:sc.kind=.function
 co:sc.isCoroutine=false
 gen:sc.isGenerator=false
 nd:N.Nodup
 pre:N.take P.length=P
 par:∀ x∈P,sc.names.lookup x=some .local∨sc.names.lookup x=some .cell
 M7:∀ y∈sc.names,y.2≠.free
variable {x:Str} {kindOf:Str->Option NameKind}
theorem xE:∀ {binds:List (Str×Value)} {m:Str->Option Value},(∀ v,(x,v) ∉ binds)->bindL kindOf binds m x=m x
 | [],_,_=>rfl
 | (n, v) :: r, m, h => by
   unfold bindL;rw[xE λw hw=>h w (abc _ hw)];split
   . have : x ≠ n := by rintro rfl; exact h v acb
     simp[this]
   . rfl
theorem yc:∀ {binds:List (Str×Value)} {m:Str->Option Value},(∀ v,(x,v) ∉ binds)->bindC kindOf binds m x=m x
 | [],_,_=>rfl
 | (n, v) :: r, m, h => by
   unfold bindC;rw[yc λw hw=>h w (abc _ hw)];split
   . rfl
   . have : x ≠ n := by rintro rfl; exact h v acb
     simp[this]
theorem xn:∀ {P:List Str} {vs:List Value} {i:Nat} {m:Str->Option Value},P.Nodup->P[i]? = some x->vs[i]? = some v->kindOf x=some .local ->
   bindL kindOf (P.zip vs) m x=some v
 | [],_,_,_,_,h,_,_=>by simp at h
 | _::_,[],_,_,_,_,h,_=>by simp at h
 | p :: P, w :: vs, 0, m, nd, h1, h2, hk => by
   simp at h1 h2;subst h1;subst h2;show bindL kindOf ((p,w)::P.zip vs) m p=_;unfold bindL;rw[xE λv hv=>(List.nodup_cons.mp nd).1 (List.of_mem_zip hv).1,if_pos hk]
   simp
 | p :: P, w :: vs, i + 1, m, nd, h1, h2, hk => by
   show bindL kindOf ((p,w)::P.zip vs) m x=_;unfold bindL;exact xn (i:=i) (List.nodup_cons.mp nd).2 (by simpa using h1) (by simpa using h2) hk
theorem x9:∀ {P:List Str} {vs:List Value} {i:Nat} {m:Str->Option Value},P.Nodup->P[i]? = some x->vs[i]? = some v->kindOf x≠some .local ->
   bindC kindOf (P.zip vs) m x=some v
 | [],_,_,_,_,h,_,_=>by simp at h
 | _::_,[],_,_,_,_,h,_=>by simp at h
 | p :: P, w :: vs, 0, m, nd, h1, h2, hk => by
   simp at h1 h2;subst h1;subst h2;show bindC kindOf ((p,w)::P.zip vs) m p=_;unfold bindC;rw[yc λv hv=>(List.nodup_cons.mp nd).1 (List.of_mem_zip hv).1,if_neg hk]
   simp
 | p :: P, w :: vs, i + 1, m, nd, h1, h2, hk => by
   show bindC kindOf ((p,w)::P.zip vs) m x=_;unfold bindC;exact x9 (i:=i) (List.nodup_cons.mp nd).2 (by simpa using h1) (by simpa using h2) hk
def start (N:List Str)(vs:List V):St:=vs.map some++aau (N.length - vs.length) none
def bW (CX:dM)(P:Program)(w:World)(K:W.Frag)(mg:Str->Option Value)(base:Heap)(N:List Str)(qual:Str)(scope:Scope)(f:Addr)(cd:Value)(A:Around)(outer:List Env)(s:Shared)(H:Hp)(E:XK):Cx where
 prog:=P
 w:=w
 K:=K
 mg:=mg
 base:=base
 A:=A.deeper (envOfC qual scope s.heap.objs.size f cd)
 N:=N
 s₀:=s
 H₀:=H
 env:=envOfC qual scope s.heap.objs.size f cd
 outer:=outer
 stack:=envOfC qual scope s.heap.objs.size f cd::outer
 ex:=[]
 calm:=true
 fn:=λ_=>true
 pn:=[]
 xe:=λe s'=>wpAny (model P w) (A.deeper (envOfC qual scope s.heap.objs.size f cd)) (leaving (envOfC qual scope s.heap.objs.size f cd) e) (λ_ s''=>CX outer H s E e s'') (λe' s''=>CX outer H s E e' s'') s'
theorem Bf {sc:Scope}{n:Nat}(h:sc.names.lookup x=some .cell):∃ c,(cellsFrom n sc.names []).lookup x=some c:=by
 have q:=W.cellsFrom_some sc.names n [] (.inl h);exact Option.isSome_iff_exists.mp q
theorem E7 {CX:dM}{P:Program}{w:World}{K:W.Frag}{mg:Str->Option Value}{base:Heap}{N ps:List Str}{qual:Str}{scope:Scope}{f:Addr}{cd:Value}{A:Around}{outer:List Env}{s s1:Shared}{H:Hp}{E:XK}{us:List Value}{vs:List V}
   (S:aq N ps scope) (hd:A.handled=none) (e0:ub P w K mg base A outer s H) (hl:vs.length=ps.length) (r:aM vs us)
   (x:InCallC s s.heap.objs.size (bindL (envOfC qual scope s.heap.objs.size f cd).kindOf (ps.zip us) λ_=>none) (cellsFrom (s.heap.objs.size+1) scope.names []) (bindC (envOfC qual scope s.heap.objs.size f cd).kindOf (ps.zip us) λ_=>none) s1) :
   Inv (bW CX P w K mg base N qual scope f cd A outer s H E) [] (start N vs) H s1:=by
 have S6:ps.length<=N.length:=by have:=congrArg List.length S.pre;rw[aaz] at this;omega
 obtain⟨h1,tk,rfl,hk⟩:=x.done;have noA:∀ b:Addr,b ∉ (bW CX P w K mg base N qual scope f cd A outer s H E).ex:=λb z=>absurd (show b∈([]:List Addr) from z) (by simp)
 refine ⟨⟨e0.mod,S.kind,rfl,rfl,aag _,λy z c h1 h2=>?_,λy hy=>?_,λy c _ h=>?_,λ_=>hd,Around.frames_deeper e0.frames,.inr ⟨rfl,rfl⟩,λb z=>absurd z (noA b),e0.bs,e0.rl,λb _ _=>noA b,λb z=>absurd z (noA b),e0.gH,e0.vt⟩,
   rfl,e0.bare,Un.kept hk,⟨_,x.toInCall.ns,λi y v h1 h2 h3=>?_⟩,λy c h=>⟨_,x.cell y c h⟩,e0.az.fresh (aag _),λy c h=>?_,λp hp=>absurd (show p∈([]:List (Addr×Obj)) from hp) (by simp),e0.az.kept hk,?_⟩
 . exact name_of_addr x.apart (ab4 h1) (ab4 h2)
 . have hy : scope.names.lookup y = some .cell ∨ scope.names.lookup y = some .free := hy;rcases hy with hy | hy
   . exact Bf hy
   . exact absurd rfl (S.M7 _ (ab4 hy))
 . exact adp (x.above y c (ab4 h))
 . have hi : i < vs.length := by
     unfold start at h2;by_cases hi:i<vs.length
     . exact hi
     . rw[aaq (by simpa using hi)] at h2;rw[abI] at h2;split at h2 <;> cases h2
   have ha:vs[i]? = some v:=by
     unfold start at h2;rw[aas (by simpa using hi),aah] at h2;cases e:vs[i]? with
     | none=>rw[e] at h2;cases h2
     | some a=>rw[e] at h2;cases h2;rfl
   obtain⟨u,hu,rv⟩:=r.get ha;have hp:ps[i]? = some y:=by
     rw[<- S.pre,List.getElem?_take_of_lt (by omega)];exact h1
   have ndP:ps.Nodup:=by rw[<- S.pre];exact S.nd.sublist (List.take_sublist _ _)
   refine⟨u,rv,?_⟩;rcases S.par y (aak hp) with k | k
   . exact .inl ⟨k,xn ndP hp hu k⟩
   . obtain⟨c, e⟩ := Bf (n := s.heap.objs.size + 1) k;refine .inr ⟨.inl k,c,e,?_⟩;have q:=x.cell y c e;rw[x9 ndP hp hu (by show scope.names.lookup y≠_;rw[k];decide)] at q;exact q
 . exact e0.az.fresh (adp (x.above y c (ab4 h)))
 . unfold start;show _=N.length;rw[aab,aac,aaB];omega
theorem qx {CX:dM}{P:Program}{w:World}{K:W.Frag}{mg:Str->Option Value}{base:Heap}{k:Nat}{f:Addr}{name qual:Str}{params:Arguments}{body:List Stmt}{scope:Scope}{dV kV S8 pm S0 ct oc:Value}{an od:Option Addr}
   {Ts:Array (Option Value)} {N ps:List Str} {sp:Sp} (lk:K.lookup f=some ⟨oc,od,.func (W.fnOf name qual params body scope dV kV S8 pm an S0 ct),Ts⟩) (Ua:abR K S0 qual=true) (S:aq N ps scope)
   (len:∀ vs H Q E,sp vs H Q E->vs.length=ps.length)
   (S7:∀ (A:Around) (outer:List Env) (s:Shared) (H:Hp) (vs:List V) (Q:VK) (E:XK),bI k (A.deeper (envOfC qual scope s.heap.objs.size f S0))->sp vs H Q E ->
     ∃ t,gj (bW CX P w K mg base N qual scope f S0 A outer s H E) body t/\t { nx:=λ_ H'=>Q .aC H',rt:=Q } (start N vs) H) :
   c7 P w K mg base CX (k+1) f (W.fnOf name qual params body scope dV kV S8 pm an S0 ct) ps sp:=by
 refine⟨len,λA outer s H args us vs Q E hr e0 hb r UQ=>?_⟩;have hl:=len _ _ _ _ UQ;have KX:K.In s.heap:=e0.mod.uh.keeps λb o e=>(e0.bs b o e).1;have lim:s.heap.NoLimit:=e0.mod.nolimit.keeps λb o e=>(e0.bs b o e).1;have hkind:∀ y∈ps.zip us,scope.names.lookup y.1=some .local∨(scope.names.lookup y.1=some .cell/\((cellsFrom (s.heap.objs.size+1) scope.names []).lookup y.1).isSome=true):=λ⟨n,v⟩ hy=>by
   rcases S.par n (List.of_mem_zip hy).1 with q | q
   . exact .inl q
   . exact .inr ⟨q,W.cellsFrom_some _ _ _ (.inl q)⟩
 refine codeAny_call_function hr.depth (KX _ _ lk) rfl S.co S.gen rfl (W.codeRec_of KX Ua) (hb _ _ _ _ ?_);refine wpAny_newFunctionEnv_cells S.kind hkind λenv he s1 x=>?_;subst he;refine⟨lim.keeps x.toInCall.keep,codeAny_func ?_⟩;obtain⟨t,ht,hq⟩:=S7 A outer s H vs Q E (hr.deeper _) UQ;have I:Inv (bW CX P w K mg base N qual scope f S0 A outer s H E) [] (start N vs) H s1:=E7 S hr.hd e0 hl r x;refine aaI (ht [] s1 (start N vs) H _ I hq) (λfl s' hs=>?_) λe s' hs=>hs;have Ta:∀ {Z':St} {H':Hp} {v:V} {u:Value},Inv (bW CX P w K mg base N qual scope f S0 A outer s H E) [] Z' H' s'->RelV v u->Q v H'->CE outer P w H s Q u s' :=
   λ{Z' H' v u} J rv q=>⟨v,H',J.os,J.bare,J.base,J.az,rv,q⟩
 cases fl with
 | ret u =>
   obtain⟨v,Z',H',J,rv,q⟩:=hs;exact Ta J rv q
 | next =>
   obtain⟨Z',H',J,q⟩:=hs;exact Ta (v:=V.aC) (u:=abq) J rfl q
 | brk =>
   obtain⟨_,_,_,q⟩:=hs;exact aaW q
 | cont =>
   obtain⟨_,_,_,q⟩:=hs;exact aaW q
section
variable {X:Cx} {x:Str} {p pos:Pos} {e:Expr} {es:List Expr} {t:TA} {id T:String} {r:List V->Hp->VK->Prop}
@[reducible] def nB (r:List V->Hp->VK->Prop) (t:TA):TE:=λZ H Q=>t Z H λvs H1=>r vs H1 Q
theorem cJ (hc : cX X (.builtin id) r)(hg : Gl X x)(hm : X.mg x = none)(hv : aaX x = some (.builtin id))(ha : PA X (e :: es) t)(hn : x ≠ "__name__" := by decide)(Tt : (x == ("__debug__" : Str)) = false := by decide)
   (he:aai (e::es) X.env=(false,eval e X.env)::aai es X.env:=by rfl) (S6:(backTo pos (aai es X.env)).any (·.1)=false:=by rfl):PE X (.Call (.Name x p) (e::es) [] pos) (nB r t):=by
 intro gV s Z H Q I h;refine abg (iM I hg hm hv ?_ hn Tt);exact PyProof.Rows.callWith_builtin1 (aS (ha pos gV s Z H _ I h) λus s1 zq=>bQ zq λvs H1 I1 r1 q1=>hc gV s1 Z H1 vs us Q I1 r1 q1) he S6
theorem qc (hc : cX X (.type T) r)(hg : Gl X x)(hm : X.mg x = none)(hv : aaX x = some (.type T))(ha : PA X (e :: es) t)(hn : x ≠ "__name__" := by decide)(Tt : (x == ("__debug__" : Str)) = false := by decide)
   (he:aai (e::es) X.env=(false,eval e X.env)::aai es X.env:=by rfl) (S6:(backTo pos (aai es X.env)).any (·.1)=false:=by rfl):PE X (.Call (.Name x p) (e::es) [] pos) (nB r t):=by
 intro gV s Z H Q I h;refine abg (iM I hg hm hv ?_ hn Tt);exact aa9 (aS (ha pos gV s Z H _ I h) λus s1 zq=>bQ zq λvs H1 I1 r1 q1=>hc gV s1 Z H1 vs us Q I1 r1 q1) he S6
end
end L2
namespace HT
open PySem PyProof.Rows
section
variable {prog:Program} {w:World} {A:Around} {E:Value->Shared->Prop} {s:Shared}
theorem Le (ht:IsTup s.heap t vs.toArray)(hb:IsTup s.heap b ws.toArray)(hv:vs≠[])
   (h1:ws=[]->Q (.ref t) s) (h2:ws≠[]->Q (.ref s.heap.objs.size) { s with heap:=s.heap.push { cls:=.type "tuple",data:=.seq (vs++ws).toArray } })
   (hsz:vs.length+ws.length<=aal):wpAny (model prog w) A (abD .Add (.ref t) (.ref b)) Q E s:=by
 obtain⟨⟨cls,dd,data,sl⟩,ho,hc,n,hd⟩:=id ht;obtain⟨⟨cls2,dd2,data2,sl2⟩,ho2,hc2,n2,UJ⟩:=id hb;simp only at hc hd hc2 UJ;subst hc hd hc2 UJ;have e:vs.toArray++ws.toArray=(vs++ws).toArray:=by simp
 by_cases hw:ws=[]
 . exact concat_meets ⟨_,ho,rfl⟩ ⟨_,ho2,rfl⟩ noFill_tuple_add seq_tuple_add PySem.F.slot_tuple_add PySem.F.entry_tuple_add (PySem.F.args_tuple_add_2 _ _)
     (tuple_addW1 t b vs.toArray ws.toArray n n2 dd dd2 sl sl2 (by simpa using hv) (by simp[hw])) ⟨ho,ho2,h1 hw⟩
 . refine concat_meets ⟨_,ho,rfl⟩ ⟨_,ho2,rfl⟩ noFill_tuple_add seq_tuple_add PySem.F.slot_tuple_add PySem.F.entry_tuple_add (PySem.F.args_tuple_add_2 _ _)
     (tuple_addW2 t b vs.toArray ws.toArray n n2 dd dd2 sl sl2 (by simpa using hv) (by simpa using hw) (by rw[aao,aao];exact hsz)) ⟨ho,ho2,?_⟩
   rw[e];exact h2 hw
def bh (n d:Nat):Option Int->Nat
 | none=>d
 | some v=>if v<0 then (v+(n:Int)).toNat else min v.toNat n
theorem jg (n d k:Nat):bh n d (some (k:Int))=min k n:=by
 show(if (k:Int)<0 then ((k:Int)+(n:Int)).toNat else min (k:Int).toNat n)=min k n;rw[if_neg (by omega),aaD]
theorem ND (n d:Nat)(hd:d<=n)(o:Option Int):bh n d o<=n:=by
 cases o with
 | none=>exact hd
 | some v =>
   show(if v<0 then (v+(n:Int)).toNat else min v.toNat n)<=n;by_cases hv:v<0
   . rw[if_pos hv];omega
   . rw[if_neg hv];exact Nat.min_le_right _ _
theorem CQ (v:Int)(n d:Nat):(if v<0 then max (v+(n:Int)) 0 else min v (n:Int))=((bh n d (some v):Nat):Int):=by
 show(if v<0 then max (v+(n:Int)) 0 else min v (n:Int))=(((if v<0 then (v+(n:Int)).toNat else min v.toNat n):Nat):Int)
 by_cases hv:v<0
 . simp only[if_pos hv];omega
 . simp only[if_neg hv];omega
theorem EB (lo hi:Option Int)(n:Nat):acz lo hi 1 (n:Int)=(((bh n 0 lo:Nat):Int),((bh n n hi:Nat):Int)):=by
 have h1 : ¬ ((1:Int)<0):=by omega
 unfold acz;simp only[h1,if_false];refine Prod.ext ?_ ?_
 . cases lo with
   | none=>rfl
   | some v=>exact CQ v n 0
 . cases hi with
   | none=>rfl
   | some v=>exact CQ v n n
theorem D6 (i j:Nat):abQ (i:Int) (j:Int) 1=j - i:=by
 unfold abQ;have h1:(1:Int) > 0:=by omega
 simp only[h1,if_true,Int.ediv_one];split <;> omega
theorem ue (p:IsPart v o)(h:Q o s):wpAny (model prog w) A (Builtin.Slice.slicePartIndex v) Q E s:=by
 cases p with
 | none=>exact slicePart_none h
 | int i t=>exact slicePart_int h
theorem tf {sl:Addr}{vl vu:Value}{lo hi:Option Int}{n:Nat}{Q:Int×Int×Nat->Shared->Prop}(hs:s.heap.IsSliceOf sl vl vu .none)(pl:IsPart vl lo)(pu:IsPart vu hi)
   (h:Q (((bh n 0 lo:Nat):Int),1,bh n n hi - bh n 0 lo) s):wpAny (model prog w) A (Builtin.Slice.sliceApplied (.ref sl) (pure (n:Int))) Q E s:=by
 obtain⟨os,hos,hcs,hds⟩:=id hs;unfold Builtin.Slice.sliceApplied Builtin.Slice.sliceFields;refine aad (aad (aby hos hds (x:=vl) rfl (aad (aby hos hds (x:=vu) rfl (aad (aby hos hds (x:=.none) rfl (aaj ?_)))))));refine aad (slicePart_none ?_);show wpAny _ _ (if ((1:Int) == 0)=true then _ else _) _ _ s;rw[if_neg (by decide)];refine aad (ue pl (aad (ue pu (aad (aaj ?_)))));show wpAny _ _ (match acz lo hi 1 (n:Int) with | (lo,hi)=>pure (lo,(1:Int),abQ lo hi 1)) _ _ s;rw[EB lo hi n];show wpAny _ _ (pure (((bh n 0 lo:Nat):Int),(1:Int),abQ ((bh n 0 lo:Nat):Int) ((bh n n hi:Nat):Int) 1)) _ _ s;rw[D6];exact aaj h
theorem IV (xs:Array Value)(i k:Nat):((ab9 k).filterMap λ(m:Nat)=>xs[((i:Int)+(m:Int)*1).toNat]?).toArray=((xs.toList.drop i).take k).toArray:=by
 have e:(λ(m:Nat)=>xs[((i:Int)+(m:Int)*1).toNat]?)=λm=>xs[i+m]?:=by
   funext m
   have:((i:Int)+(m:Int)*1).toNat=i+m:=by omega
   rw[this]
 rw[e]
 have:=pick_run xs i k
 rw[adP] at this;have e2:((λx=>xs[x]?) ∘ λx=>i+x)=λm=>xs[i+m]?:=rfl;rw[e2] at this;rw[this]
theorem qZ {t sl:Addr}{items:Array Value}{vl vu:Value}{lo hi:Option Int}{Q:Value->Shared->Prop}(ht:IsTup s.heap t items)(hs:s.heap.IsSliceOf sl vl vu .none)(pl:IsPart vl lo)(pu:IsPart vu hi)
   (hw : ¬ (bh items.size 0 lo=0/\bh items.size items.size hi=items.size))
   (h:Q (.ref s.heap.objs.size) { s with heap:=s.heap.push { cls:=.type "tuple",data:=.seq ((items.toList.drop (bh items.size 0 lo)).take (bh items.size items.size hi - bh items.size 0 lo)).toArray } })
   (hsz:items.size<=aal):wpAny (model prog w) A (getItem (.ref t) (.ref sl)) Q E s:=by
 have Vy:sizeOk (.seq ((items.toList.drop (bh items.size 0 lo)).take (bh items.size items.size hi - bh items.size 0 lo)).toArray):=by
   show((items.toList.drop (bh items.size 0 lo)).take (bh items.size items.size hi - bh items.size 0 lo)).toArray.size<=aal;rw[aao,aaz,abz,ab5];omega
 have hj:bh items.size items.size hi<=items.size:=ND _ _ (aag _) hi;obtain⟨os,hos,hcs,hds⟩:=id hs;have hTs:s.TypeIs (.ref sl) "slice":=⟨os,hos,hcs⟩
 unfold getItem
 try with_reducible refine aba ?_
 first | refine aad (aaj ?_) | skip
 refine aad (wpAny_sequenceKey ht.typeIs (by decide) ?_)
 refine aad (acu (name:=aae "__getitem__") ht.typeIs PyProof.Rows.slot_tuple_getitem
   (acK PyProof.Rows.slot_tuple_getitem ht.typeIs entry_tuple_getitem ?_ (args_tuple_getitem _ _)))
 show wpAny _ _ (Builtin.Tuple.tupleItemsOf (.ref t) >>= _) _ _ s;refine aad (tupleItemsOf_ ht ?_);refine aad (wpAny_typeOf hTs ?_);rw[if_pos (by decide)];refine aad (tf hs pl pu ?_);have VJ : ¬ ((((bh items.size 0 lo:Nat):Int) == 0 && (1:Int) == 1 && (bh items.size items.size hi - bh items.size 0 lo) == items.size)=true):=by
   intro q;rw[aaN,aaN] at q;have q1:((bh items.size 0 lo:Nat):Int)=0:=eq_of_beq q.1.1;have q2:bh items.size items.size hi - bh items.size 0 lo=items.size:=eq_of_beq q.2;exact hw ⟨by omega,by omega⟩
 show wpAny _ _ (if (((bh items.size 0 lo:Nat):Int) == 0 && (1:Int) == 1 && (bh items.size items.size hi - bh items.size 0 lo) == items.size)=true then _ else _) _ _ s;rw[if_neg VJ,IV]
 first
   | exact aad (m:=abT _) (abw (aaj ⟨_,rfl,aaj h⟩) Vy)
   | exact aad (m:=abT _) (abw (aad (aaj (aaj ⟨_,rfl,aaj h⟩))) Vy)
   | exact aad (aad (m:=abT _) (abw (aaj (aaj ⟨_,rfl,aaj h⟩)) Vy))
   | exact aad (aad (m:=abT _) (abw (aaj ⟨_,rfl,aaj h⟩) Vy))
end
end HT
namespace L2
open PySem PySem.Spec PyProof.Rows
abbrev TO:=St->Hp->(Option Int->Hp->Prop)->Prop
def PO (X:Cx)(e:Option Expr)(t:TO):Prop :=
 ∀ (gV:List (Addr×Obj)) (s:Shared) (Z : St) (H:Hp) (Q:Option Int->Hp->Prop),Inv X gV Z H s->t Z H Q ->
   wpAny (model X.prog X.w) X.A (evalPart e X.env) (λu s'=>∃ o H',Inv X gV Z H' s'/\IsPart u o/\Q o H') X.xe s
@[reducible] def ij:TO:=λ_ H Q=>Q none H
@[reducible] def m6 (t:TE):TO:=λZ H Q=>t Z H λx H1=>Gg x λi=>Q (some i) H1
section
variable {X:Cx} {e:Expr} {te:TE} {lo hi:Option Expr} {tl th:TO} {pos p2:Pos}
theorem LS:PO X none ij:=by
 intro gV s Z H Q I h;rw[evalPart_none];exact aaj ⟨none,H,I,.none,h⟩
theorem LM (h:PE X e te):PO X (some e) (m6 te):=by
 intro gV s Z H Q I hw;rw[evalPart_some];refine aS (h gV s Z H _ I hw) λu s1 zq=>bQ zq λx H1 I1 r1 q1=>?_;obtain⟨i,rfl,q⟩:=vz q1;obtain⟨t,rfl⟩:=r1;exact⟨some i,H1,I1,.int i t,q⟩
def vE (X:Cx)(r:V->Option Int->Option Int->Hp->VK->Prop):Prop :=
 ∀ (gV:List (Addr×Obj)) (s:Shared) (Z : St) (H:Hp) (x:V) (v vl vu:Value) (lo hi:Option Int) (sl:Addr) (Q:VK),Inv X gV Z H s->RelV x v->s.heap.IsSliceOf sl vl vu .none->IsPart vl lo->IsPart vu hi->r x lo hi H Q ->
   ∃ T id,adM (.type T) "__getitem__" = pure (some (.builtin id))/\s.TypeIs v T/\wpAny (model X.prog X.w) X.A (getItem v (.ref sl)) (EP X gV Z Q) X.xe s
theorem vE.or (h:vE X r)(h':vE X r'):vE X (λx lo hi H Q=>r x lo hi H Q∨r' x lo hi H Q):=by
 intro gV s Z H x v vl vu lo hi sl Q I rx hs pl pu q;rcases q with q | q
 . exact h gV s Z H x v vl vu lo hi sl Q I rx hs pl pu q
 . exact h' gV s Z H x v vl vu lo hi sl Q I rx hs pl pu q
@[reducible] def AH (r:V->Option Int->Option Int->Hp->VK->Prop) (te:TE) (tl th:TO):TE:=λZ H Q=>te Z H λx H1=>tl Z H1 λl H2=>th Z H2 λu H3=>r x l u H3 Q
theorem IF {r:V->Option Int->Option Int->Hp->VK->Prop}(hr:vE X r)(he:PE X e te)(hl:PO X lo tl)(hu:PO X hi th):PE X (.Subscript e (.Slice lo hi none p2) pos) (AH r te tl th):=by
 intro gV s Z H Q I h;refine Subscript_ (aS (he gV s Z H _ I h) λv s1 zq=>bQ zq λx H1 I1 r1 q1=>?_);refine wpAny_Slice (aS (hl gV s1 Z H1 _ I1 q1) λvl s2 zq=>bQ zq λl H2 I2 pl q2=>aS (hu gV s2 Z H2 _ I2 q2) λvu s3 zq=>bQ zq λu H3 I3 pu q3=>?_);rw[evalPart_none];refine aaj ?_;have I4:Inv X gV Z H3 { s3 with heap:=s3.heap.push { cls:=.type "slice",data:=.fields #[vl,vu,.none] } }:=I3.kept (t':=s3.toks) λb ob q=>aaf _ q;obtain⟨T,id,hT,ht,hg⟩:=hr gV { s3 with heap:=s3.heap.push { cls:=.type "slice",data:=.fields #[vl,vu,.none] } } Z H3 x v vl vu l u s3.heap.objs.size Q I4 r1 (Heap.IsSliceOf.new ..) pl pu q3;show wpAny (model X.prog X.w) X.A (subscriptTail e (.Slice lo hi none p2) v (.ref s3.heap.objs.size)) (EP X gV Z Q) X.xe { s3 with heap:=s3.heap.push { cls:=.type "slice",data:=.fields #[vl,vu,.none] } };exact tail_any (ops:=[.ref s3.heap.objs.size,v]) ht hT hg (by with_unfolding_all rfl)
def fS (xs:List V)(lo hi:Option Int):List V:=(xs.drop (HT.bh xs.length 0 lo)).take (HT.bh xs.length xs.length hi - HT.bh xs.length 0 lo)
theorem rL (xs:List V)(lo hi:Option Int):(fS xs lo hi).length<=xs.length:=by
 unfold fS;rw[aaz,abz];omega
def OX (K:W.Frag):V->Option Int->Option Int->Hp->VK->Prop:=λx lo hi H Q=>∃ a xs,x=.ref a/\aI K H a xs /\
 ¬ (HT.bh xs.length 0 lo=0/\HT.bh xs.length xs.length hi=xs.length)/\∀ p,H p=none->Q (.ref p) (upd H p (.tup (fS xs lo hi)))
theorem Mz:vE X (OX X.K):=by
 intro gV s Z H x v vl vu lo hi sl Q I rx hs pl pu h;obtain⟨a,xs,rfl,hx,hw,q⟩:=h;cases rx
 obtain⟨its,r,ht,hz⟩:=I.tuple hx;have S4:its.toArray.size=xs.length:=by rw[aao];exact r.length.symm
 refine⟨"tuple",_,PyProof.Rows.slot_tuple_getitem.lookup,ht.typeIs,?_⟩;refine HT.qZ ht hs pl pu (by rw[S4];exact hw) ?_ (by rw[S4];exact hz);rw[S4];refine⟨.ref s.heap.objs.size,_,I.laid (t':=s.toks) (o:=.tup (fS xs lo hi)) (λb ob q=>aaf _ q) (aag _) ?_,rfl,q _ (I.az.fresh (aag _))⟩;exact⟨aaL (rL xs lo hi) hz,_,(r.drop (HT.bh xs.length 0 lo)).take (HT.bh xs.length xs.length hi - HT.bh xs.length 0 lo),IsTup.new _ _⟩
def JV (K:W.Frag):R2:=λx y H Q=>∃ a b xs ys,x=.ref a/\y=.ref b/\aI K H a xs/\aI K H b ys/\xs≠[]/\xs.length+ys.length<=aal /\
 (ys=[]->Q (.ref a) H)/\(ys≠[]->∀ p,H p=none->Q (.ref p) (upd H p (.tup (xs++ys))))
variable {us:List Value} {xs:List V}
theorem aM.wc (r:aM xs us):us=[] ↔ xs=[]:=by
 cases r with
 | nil=>simp
 | cons _ _=>simp
theorem L6:bR X (abD .Add) (JV X.K):=by
 intro gV s Z H x y v u Q I rx ry h;obtain⟨a,b,xs,ys,rfl,rfl,ha,hb,hx,hz,q1,q2⟩:=h;cases rx
 cases ry
 obtain⟨its,r1,p1,_⟩:=I.tuple ha;obtain⟨U2,r2,p2,_⟩:=I.tuple hb;refine HT.Le p1 p2 (λz=>hx (r1.wc.mp z)) (λz=>⟨.ref a,H,I,rfl,q1 (r2.wc.mp z)⟩) (λz=>?_) (by rw[<- r1.length,<- r2.length];exact hz);refine⟨.ref s.heap.objs.size,_,I.laid (t':=s.toks) (o:=.tup (xs++ys)) (λb ob q=>aaf _ q) (aag _) ?_,rfl,q2 (λw=>z (r2.wc.mpr w)) _ (I.az.fresh (aag _))⟩;exact⟨by rw[aab];exact hz,_,r1.append r2,IsTup.new _ _⟩
end
def oq (n:Nat)(i:Int):Option Nat:=if 0<=i then (if i<n then some i.toNat else none) else if -(n:Int)<=i then some (i+n).toNat else none
def cT {α : Type}(xs:List α)(i:Int):Option α:=(oq xs.length i).bind λj=>xs[j]?
variable {n:Nat}
theorem Dj (h:oq n i=some j):seqIndex? i n=some j/\j<n/\-(n:Int)<=i/\i<n:=by
 unfold oq at h;by_cases h0 : 0<=i
 . rw[if_pos h0] at h;by_cases h1:i<n
   . rw[if_pos h1] at h;have e:i.toNat=j:=aax h;exact⟨by rw[seqIndex_of h0 h1,e],by omega,by omega,h1⟩
   . rw[if_neg h1] at h;cases h
 . rw[if_neg h0] at h;by_cases h1 : -(n:Int)<=i
   . rw[if_pos h1] at h;have e:(i+n).toNat=j:=aax h;exact⟨by rw[seqIndex_neg (by omega) h1,e],by omega,h1,by omega⟩
   . rw[if_neg h1] at h;cases h
variable {α : Type}
theorem wN (h:cT xs i=some v):∃ j,seqIndex? i xs.length=some j/\xs[j]? = some v/\j<xs.length/\-(xs.length:Int)<=i/\i<xs.length:=by
 unfold cT at h;cases e:oq xs.length i with
 | none=>rw[e] at h;cases h
 | some j =>
   rw[e] at h;obtain⟨h1,h2,h3,h4⟩:=Dj e;exact⟨j,h1,h,h2,h3,h4⟩
theorem bG {xs:List α}{j:Nat}{v : α}(h:xs[j]? = some v):cT xs (j:Int)=some v:=by
 have hj:j<xs.length:=(List.getElem?_eq_some_iff.mp h).1;have e:oq xs.length (j:Int)=some j:=by
   unfold oq;rw[if_pos (by omega),if_pos (by omega)];simp
 unfold cT;rw[e];exact h
def LD (b:Expr):Prop:=∀ o i,subscripted b false o i=operate [o,i] (getItem o i)
def nX (X:Cx)(r:R2):Prop :=
 ∀ (value Tp:Expr) (gV:List (Addr×Obj)) (s:Shared) (Z : St) (H:Hp) (x y:V) (v u:Value) (Q:VK),Inv X gV Z H s->RelV x v->RelV y u->r x y H Q ->
   subscripted Tp false v u=operate [v,u] (getItem v u)->wpAny (model X.prog X.w) X.A (subscriptTail value Tp v u) (EP X gV Z Q) X.xe s
def G5 (X:Cx)(id:String)(r:V->List V->Hp->VK->Prop):Prop :=
 ∀ (gV:List (Addr×Obj)) (s:Shared) (Z : St) (H:Hp) (x:V) (xs:List V) (v:Value) (us:List Value) (Q:VK),Inv X gV Z H s->RelV x v->aM xs us->r x xs H Q ->
   wpAny (model X.prog X.w) X.A (call (.builtin id) (v::us)) (EP X gV Z Q) X.xe s
section
variable {X:Cx} {a b:Expr} {ta tb:TE} {pos:Pos}
theorem nX.or (h:nX X r)(h':nX X r'):nX X (λx y H Q=>r x y H Q∨r' x y H Q):=by
 intro value Tp gV s Z H x y v u Q I rx ry q hs;rcases q with q | q
 . exact h value Tp gV s Z H x y v u Q I rx ry q hs
 . exact h' value Tp gV s Z H x y v u Q I rx ry q hs
theorem cB (hr:nX X r)(ha:PE X a ta)(hb:PE X b tb)(hs:LD b):PE X (.Subscript a b pos) (br r ta tb):=by
 intro gV s Z H Q I h;exact Subscript_ (JB ha hb I h λv u s2 x y H2 I2 rx ry q=>hr a b gV s2 Z H2 x y v u Q I2 rx ry q (hs _ _))
def OM (K:W.Frag):R2:=λx y H Q=>∃ p xs i v,x=.ref p/\y=.int i/\ar K H p xs/\cT xs i=some v/\Q v H
def Mv (K:W.Frag):R2:=λx y H Q=>∃ p xs i v,x=.ref p/\y=.int i/\aI K H p xs/\cT xs i=some v/\Q v H
def Ph:R2:=λx y H Q=>∃ z i c,x=.str z/\y=.int i/\z.length<=aal/\cT z.cps.toList i=some c/\Q (.str ⟨#[c]⟩) H
theorem LB:nX X (OM X.K):=by
 intro value Tp gV s Z H x y v u Q I rx ry h hs;obtain⟨p,xs,i,z,rfl,rfl,hq,he,q⟩:=h;cases rx
 obtain⟨t,rfl⟩:=ry;obtain⟨its,r,pl,hz⟩:=I.list hq;obtain⟨j,h1,h2,h3,h4,h5⟩:=wN he;obtain⟨w,ew,V3⟩:=r.get h2;have hl:=r.length;have hn:=mI;have Ta:EP X gV Z Q w s:=⟨z,H,I,V3,q⟩
 by_cases h0 : 0<=i
 . have hj : i.toNat = j := by
     rw[seqIndex_of h0 h5] at h1;exact aax h1
   exact item_listR pl.isList h0 (by omega) (by rw[hj];simpa using ew) Ta hs
 . have hj : (i + (its.toArray.size : Int)).toNat = j := by
     rw[seqIndex_neg (by omega) h4] at h1;rw[aao,<- hl];exact aax h1
   exact adz (x:=w) pl.isList.typeIs slot_list_getitem.lookup
     (wpAny_getItem_list_neg (Q:=λr s'=>r=w/\EP X gV Z Q r s') pl.isList (by omega) (by rw[aao] <;> omega) (by omega) (by rw[hj];simpa using ew) ⟨rfl,Ta⟩) hs
theorem Nn:nX X (Mv X.K):=by
 intro value Tp gV s Z H x y v u Q I rx ry h hs;obtain⟨p,xs,i,z,rfl,rfl,hq,he,q⟩:=h;cases rx
 obtain⟨t,rfl⟩:=ry;obtain⟨its,r,pl,hz⟩:=I.tuple hq;obtain⟨j,h1,h2,h3,h4,h5⟩:=wN he;obtain⟨w,ew,V3⟩:=r.get h2;have hl:=r.length;have hn:=mI;have Ta:EP X gV Z Q w s:=⟨z,H,I,V3,q⟩
 exact adz (x:=w) pl.typeIs slot_tuple_getitem.lookup
   (getItem_tuple (j:=j) (Q:=λr s'=>r=w/\EP X gV Z Q r s') pl (by omega) (by omega) (by rw[aao,<- hl];exact h1) (by simpa using ew) ⟨rfl,Ta⟩) hs
theorem Pl:nX X Ph:=by
 intro value Tp gV s Z H x y v u Q I rx ry h hs;obtain⟨z,i,c,rfl,rfl,hz,he,q⟩:=h;obtain⟨t,rfl⟩:=rx;obtain⟨t',rfl⟩:=ry;obtain⟨j,h1,h2,h3,h4,h5⟩:=wN he;have hl:z.cps.toList.length=z.length:=by simp[Str.length]
 rw[hl] at h1 h4 h5;have hn:=mI;exact tail_any (typeIs_str s z t) slot_str_getitem.lookup (getItem_str (c:=c) (by
   have e1:decide (i < -(2 ^ 63:Int))=false:=decide_eq_false (by omega);have e2:decide (i ≥ 2 ^ 63)=false:=decide_eq_false (by omega);rw[e1,e2,adO]) (by rw[h1];simpa using h2) ⟨.str ⟨#[c]⟩,H,I.tok _,⟨_,rfl⟩,q⟩) hs
def Q2 (K:W.Frag):R2:=λx y H Q=>OM K x y H Q∨Mv K x y H Q∨Ph x y H Q
theorem Nk:nX X (Q2 X.K):=LB.or (Nn.or Pl)
theorem EM (its:List Value)(n j:Nat)(u:Value):acH (·.setIfInBounds j u) { cls:=.type "list",data:=.seq its.toArray n }={ cls:=.type "list",data:=.seq (its.set j u).toArray n }:=by
 simp[acH]
variable {xs:List V} {s:Shared} {H:Hp} {gV:List (Addr×Obj)}
theorem Inv.lst {Z : St}{p:Addr}(I:Inv X gV Z H s)(h:H p=some (.lst xs)) :
   ∃ (its:List Value) (n:Nat),aM xs its/\s.heap.get? p=some { cls:=.type "list",data:=.seq its.toArray n }/\xs.length<=aal:=by
 obtain⟨z,its,n,r,e⟩:=I.az p _ h;exact⟨its,n,r,e,z⟩
theorem Inv.Mu {Z : St}{p:Addr}{ys:List V}{its its':List Value}{n n':Nat}{f:Obj->Obj}(I:Inv X gV Z H s)(h:H p=some (.lst xs))
   (ho:s.heap.get? p=some { cls:=.type "list",data:=.seq its.toArray n }) (hf:f { cls:=.type "list",data:=.seq its.toArray n }={ cls:=.type "list",data:=.seq its'.toArray n' }) (r:aM ys its') (hz:ys.length<=aal) (t:Nat) :
   Inv X gV Z (upd H p (.lst ys)) { s with heap:=s.heap.update p f,toks:=t }:=by
 have e:(s.heap.update p f).get? p=some { cls:=.type "list",data:=.seq its'.toArray n' }:=by
   rw[aa_ f ho (by rw[hf] <;> rfl),hf]
 refine I.write (x:=p) (e:=p) (by rw[h];trivial) (.inl rfl) (λb u hb q=>(aaZ _ _ (Ne.symm hb)).trans q) ⟨_,e⟩ ?_;exact⟨hz,its',n',r,e⟩
def D1:V->V->V->Hp->(Hp->Prop)->Prop:=λo i v H Q=>∃ p xs k j,o=.ref p/\i=.int k/\H p=some (.lst xs)/\oq xs.length k=some j/\Q (upd H p (.lst (xs.set j v)))
theorem set_list:Mt X D1:=by
 intro gV s Z H o i v ov iv u Q I ro ri rv h;obtain⟨p,xs,k,j,rfl,rfl,hp,hj,q⟩:=h;cases ro
 obtain⟨t,rfl⟩:=ri;obtain⟨its,n,r,ho,hz⟩:=I.lst hp;obtain⟨h1,h2,h3,h4⟩:=Dj hj;have hl:=r.length;have hn:=mI;have I':Inv X gV Z (upd H p (.lst (xs.set j v))) { s with heap:=s.heap.update p (acH (·.setIfInBounds j u)) } :=
   I.Mu hp ho (EM its n j u) (r.set rv j) (by rw[aa0];exact hz) s.toks
 by_cases h0 : 0<=k
 . have hk : k.toNat = j := by
     rw[seqIndex_of h0 h4] at h1;exact aax h1
   exact W.ki_setAt ho h0 (by omega) (by rw[aao,<- hl];exact h4) (by rw[hk];exact⟨_,I',q⟩)
 . have hk : (k + (its.toArray.size : Int)).toNat = j := by
     rw[seqIndex_neg (by omega) h3] at h1;rw[aao,<- hl];exact aax h1
   exact W.ki_setBack ho (by omega) (by rw[aao,<- hl];exact h3) (by omega) (by rw[hk];exact⟨_,I',q⟩)
theorem AV (lo hi:Option Int)(n:Nat):(acW lo hi none n).1=((HT.bh n 0 lo:Nat):Int)/\(acW lo hi none n).2.1=((HT.bh n n hi:Nat):Int)/\(acW lo hi none n).2.2=1:=by
 refine⟨?_,?_,rfl⟩
 . cases lo with
   | none=>simp[acW,HT.bh]
   | some i =>
     simp only[acW,HT.bh,Option.getD_none,show(1:Int) > 0 by decide,if_true];by_cases h:i<0
     . simp only[h,if_true] <;> omega
     . simp only[h,if_false] <;> omega
 . cases hi with
   | none=>simp[acW,HT.bh]
   | some i =>
     simp only[acW,HT.bh,Option.getD_none,show(1:Int) > 0 by decide,if_true];by_cases h:i<0
     . simp only[h,if_true] <;> omega
     . simp only[h,if_false] <;> omega
theorem yh (its:List Value)(lo hi:Option Int):slicePick its.toArray lo hi none=((its.drop (HT.bh its.length 0 lo)).take (HT.bh its.length its.length hi - HT.bh its.length 0 lo)).toArray:=by
 obtain⟨h1,h2,h3⟩:=AV lo hi its.toArray.size;unfold slicePick;rw[h1,h2,h3];simp only[sliceRange_one,pick_run,aao] <;> rfl
def Oy (K:W.Frag):V->Option Int->Option Int->Hp->VK->Prop:=λx lo hi H Q=>∃ a xs,x=.ref a/\ar K H a xs/\∀ p,H p=none->Q (.ref p) (upd H p (.lst (fS xs lo hi)))
theorem KW:vE X (Oy X.K):=by
 intro gV s Z H x v vl vu lo hi sl Q I rx hs pl pu h;obtain⟨a,xs,rfl,hx,q⟩:=h;cases rx
 obtain⟨its,r,ht,hz⟩:=I.list hx;have S4:=r.length;refine⟨"list",_,slot_list_getitem.lookup,ht.isList.typeIs,?_⟩;refine wpAny_getItem_list_slice ht.isList hs pl pu .none (by simp) ?_ (by rw[aao] <;> omega);rw[yh,<- S4];refine⟨.ref s.heap.objs.size,_,I.laid (t':=s.toks) (o:=.lst (fS xs lo hi)) (λb ob q=>aaf _ q) (aag _) ?_,rfl,q _ (I.az.fresh (aag _))⟩;exact⟨aaL (rL xs lo hi) hz,_,0,(r.drop (HT.bh xs.length 0 lo)).take (HT.bh xs.length xs.length hi - HT.bh xs.length 0 lo),aat _ rfl⟩
def dR:V->Bool
 | .aC=>true
 | .bl _=>true
 | .int _=>true
 | .str _=>true
 | _=>false
def pS:V->V->Bool
 | .aC,.aC=>true
 | .bl a,.bl b=>a == b
 | .bl a,.int b=>(if a then 1 else 0) == b
 | .int a,.bl b=>a == (if b then 1 else 0)
 | .int a,.int b=>a == b
 | .str a,.str b=>a == b
 | _,_=>false
variable {u:Value} {y x:V}
theorem N3 (ry:RelV y u)(rx:RelV x v)(fy:dR y=true)(fx:dR x=true):SeqAt.EqAt A s u v (pS y x):=by
 cases y with
 | aC =>
   cases ry
   cases x with
   | aC=>cases rx;exact SeqAt.EqAt.same _
   | bl b=>cases rx;exact SeqAt.EqAt.none_bool b
   | int b=>obtain⟨t,rfl⟩:=rx;exact SeqAt.EqAt.none_int b t
   | str b=>obtain⟨t,rfl⟩:=rx;exact SeqAt.EqAt.none_str b t
   | _=>exact absurd (show false=true from fx) aap
 | bl a =>
   cases ry
   cases x with
   | aC=>cases rx;exact SeqAt.EqAt.bool_none a
   | bl b=>cases rx;exact SeqAt.EqAt.bool_bool a b
   | int b=>obtain⟨t,rfl⟩:=rx;exact SeqAt.EqAt.bool_int a b t
   | str b=>obtain⟨t,rfl⟩:=rx;exact SeqAt.EqAt.bool_str a b t
   | _=>exact absurd (show false=true from fx) aap
 | int a =>
   obtain⟨t',rfl⟩:=ry;cases x with
   | aC=>cases rx;exact SeqAt.EqAt.int_none a t'
   | bl b=>cases rx;exact SeqAt.EqAt.int_bool a t' b
   | int b=>obtain⟨t,rfl⟩:=rx;exact SeqAt.EqAt.int_int a t' b t
   | str b=>obtain⟨t,rfl⟩:=rx;exact SeqAt.EqAt.int_str a t' b t
   | _=>exact absurd (show false=true from fx) aap
 | str a =>
   obtain⟨t',rfl⟩:=ry;cases x with
   | aC=>cases rx;exact SeqAt.EqAt.str_none a t'
   | bl b=>cases rx;exact SeqAt.EqAt.str_bool a t' b
   | int b=>obtain⟨t,rfl⟩:=rx;exact SeqAt.EqAt.str_int a t' b t
   | str b=>obtain⟨t,rfl⟩:=rx;exact SeqAt.EqAt.str_str a t' b t
   | _=>exact absurd (show false=true from fx) aap
 | _=>exact absurd (show false=true from fy) aap
def jq (x:V)(u:Value):Bool:=match u with
 | .none=>pS .aC x
 | .bool b=>pS (.bl b) x
 | .int i _=>pS (.int i) x
 | .str z _=>pS (.str z) x
 | _=>false
theorem FI (r:RelV y u)(f:dR y=true):jq x u=pS y x:=by
 cases y with
 | aC=>cases r;rfl
 | bl b=>cases r;rfl
 | int i=>obtain⟨t,rfl⟩:=r;rfl
 | str z=>obtain⟨t,rfl⟩:=r;rfl
 | _=>exact absurd (show false=true from f) aap
theorem mj:∀ {xs:List V} {us:List Value},aM xs us->xs.all dR=true->us.any (jq x)=xs.any λy=>pS y x
 | _,_,.nil,_=>rfl
 | y :: xs, u :: us, .cons r t, f => by
   rw[acF,aaN] at f;rw[abA,abA,FI r f.1,mj t f.2]
theorem jN (rx:RelV x v)(fx:dR x=true):∀ {xs:List V} {us:List Value},aM xs us->xs.all dR=true->∀ u∈us,SeqAt.EqAt A s u v (jq x u)
 | _,_,.nil,_=>λu hu=>by cases hu
 | y :: xs, u :: us, .cons r t, f => λu' hu => by
   rw[acF,aaN] at f;rcases List.mem_cons.mp hu with rfl | hu
   . rw[FI r f.1];exact N3 r rx f.1 fx
   . exact jN rx fx t f.2 u' hu
def eY (x:V)(xs:List V):Bool:=xs.any λy=>pS y x
def xF (K:W.Frag)(neg:Bool):R2:=λx y H Q=>∃ p xs,y=.ref p/\(ar K H p xs∨aI K H p xs)/\dR x=true/\xs.all dR=true/\Q (.bl (if neg then !eY x xs else eY x xs)) H
theorem Hc:bR X (aaV .In) (xF X.K false):=by
 intro gV s Z H x y v u Q I rx ry h;obtain⟨p,xs,rfl,hq,fx,fs,q⟩:=h;cases ry
 rcases hq with hq | hq
 . obtain⟨its, r, pl, hz⟩ := I.list hq;refine SeqAt.in_listAt (jq x) pl.isList (λw hw=>jN rx fx r fs w (by simpa using hw)) ⟨.bl _,H,I,rfl,?_⟩;rw[show its.toArray.any (jq x)=its.any (jq x) by simp,mj r fs];exact q
 . obtain⟨its, r, pl, hz⟩ := I.tuple hq;refine SeqAt.in_tupleAt (jq x) pl (λw hw=>jN rx fx r fs w (by simpa using hw)) ⟨.bl _,H,I,rfl,?_⟩;rw[show its.toArray.any (jq x)=its.any (jq x) by simp,mj r fs];exact q
theorem Bo:bR X (aaV .NotIn) (xF X.K true):=by
 intro gV s Z H x y v u Q I rx ry h;obtain⟨p,xs,rfl,hq,fx,fs,q⟩:=h;cases ry
 rcases hq with hq | hq
 . obtain⟨its, r, pl, hz⟩ := I.list hq;refine SeqAt.notIn_listAt (jq x) pl.isList (λw hw=>jN rx fx r fs w (by simpa using hw)) ⟨.bl _,H,I,rfl,?_⟩;rw[show its.toArray.any (jq x)=its.any (jq x) by simp,mj r fs];exact q
 . obtain⟨its, r, pl, hz⟩ := I.tuple hq;refine SeqAt.notIn_tupleAt (jq x) pl (λw hw=>jN rx fx r fs w (by simpa using hw)) ⟨.bl _,H,I,rfl,?_⟩;rw[show its.toArray.any (jq x)=its.any (jq x) by simp,mj r fs];exact q
theorem BC:cX X (.type "list") (λxs H Q=>∃ p ys,xs=[.ref p]/\(ar X.K H p ys∨aI X.K H p ys)/\∀ l,H l=none->Q (.ref l) (upd H l (.lst ys))):=by
 intro gV s Z H xs us Q I r h;obtain⟨p,ys,rfl,hq,q⟩:=h;obtain⟨u,rfl,rx⟩:=vals1 r;cases rx
 have Ta : ∀ (its : List Value), aM ys its -> ys.length <= aal -> ∀ (h' : Heap) (c' : Nat), (∀ b o', s.heap.get? b = some o' -> h'.get? b = some o') ->
     h'.get? s.heap.objs.size=some { cls:=.type "list",dict:=none,data:=.seq its.toArray c',slots:=#[] }->EP X gV Z Q (.ref s.heap.objs.size) { s with heap:=h' }:=λits r' hz h' c' kp e =>
   ⟨.ref s.heap.objs.size,_,I.laid (t':=s.toks) kp (aag _) (show b9 X.prog X.w _ h' _ (.lst ys) from⟨hz,its,c',r',e⟩),rfl,q _ (I.az.fresh (aag _))⟩
 rcases hq with hq | hq
 . obtain⟨its, r', pl, hz⟩ := I.list hq;have S4:=r'.length;obtain⟨o,ho,hc,n,hd⟩:=pl.isList;exact call_list_seq p (.inl rfl) ho hc hd (λh' c' kp e=>Ta its r' hz h' c' kp e) (by simp only[aao] <;> omega)
 . obtain⟨its, r', pl, hz⟩ := I.tuple hq;have S4:=r'.length;obtain⟨o,ho,hc,n,hd⟩:=pl;exact call_list_seq p (.inr rfl) ho hc hd (λh' c' kp e=>Ta its r' hz h' c' kp e) (by simp only[aao] <;> omega)
def Dk (K:W.Frag)(T:String)(x:V)(H:Hp):Prop:=match x with
 | .str _=>T = "str"
 | .int _=>T = "int"
 | .ref p=>(T = "list"/\∃ xs,ar K H p xs)∨(T = "tuple"/\∃ o,K.lookup p=some o/\o.cls=.type "tuple"/\o.dict=none) ∨
     (T = "dict"/\((∃ kvs,H p=some (.dK kvs))∨∃ kvs,H p=some (.dT kvs)))∨(T = "set"/\∃ S n,H p=some (.set S n))
 | _=>False
theorem GR (I:Inv X gV Z H s)(r:RelV x v)(ty:Dk X.K T x H) :
   s.TypeIs v T/\∀ a,v=.ref a->∃ ob,s.heap.get? a=some ob/\ob.dict=none:=by
 cases x with
 | str z =>
   obtain⟨t,rfl⟩:=r;cases (show T = "str" from ty)
   exact⟨typeIs_str s z t,λ_ e=>nomatch e⟩
 | int i =>
   obtain⟨t,rfl⟩:=r;cases (show T = "int" from ty)
   exact⟨typeIs_int s i t,λ_ e=>nomatch e⟩
 | ref p =>
   cases r
   rcases ty with ⟨rfl,xs,hq⟩ | ⟨rfl,o,hk,hc,hd⟩ | ⟨rfl,hk⟩ | ⟨rfl,S,n,hk⟩
   . obtain ⟨its, _, pl, _⟩ := I.list hq;refine ⟨pl.isList.typeIs,λa e=>?_⟩;cases e
     obtain⟨o,n,e,c,hd,_⟩:=pl;exact⟨o,e,hd⟩
   . refine ⟨⟨o,I.df p o hk,hc⟩,λa e=>?_⟩;cases e
     exact⟨o,I.df _ o hk,hd⟩
   . have z : ∃ o, s.heap.get? p = some o /\ o.ExactDict := by
       rcases hk with ⟨kvs,hk⟩ | ⟨kvs,hk⟩
       . obtain⟨_, _, _, _, o, _, _, e, ex, _⟩ := I.az p _ hk;exact⟨o,e,ex⟩
       . obtain⟨_, _, _, _, o, _, _, e, ex, _⟩ := I.az p _ hk;exact⟨o,e,ex⟩
     obtain⟨o,e,ex⟩:=z;refine⟨⟨o,e,ex.1⟩,λa e2=>?_⟩;cases e2
     exact⟨o,e,ex.2.1⟩
   . obtain ⟨o, _, _, _, e, ex, _⟩ := I.az p _ hk;refine ⟨⟨o,e,ex.1⟩,λa e2=>?_⟩;cases e2
     exact⟨o,e,ex.2.1⟩
 | _=>exact aaW ty
@[reducible] def Oo (K:W.Frag) (T:String) (r:V->List V->Hp->VK->Prop) (to:TE):TE:=λZ H Q=>to Z H λx H1=>Dk K T x H1/\r x [] H1 Q
@[reducible] def Od (K:W.Frag) (T:String) (r:V->List V->Hp->VK->Prop) (to:TE) (t:TA):TE:=λZ H Q=>to Z H λx H1=>Dk K T x H1/\t Z H1 λxs H2=>r x xs H2 Q
variable {o e:Expr} {es:List Expr} {to:TE} {t:TA} {name:Str} {S_ S5:Pos} {T id:String} {r:V->List V->Hp->VK->Prop}
theorem NC (pa:PlainAttrs T)(slot:Slot T name id)(hty:typeOf (.builtin id)=pure (.type "method_descriptor"))(hm:G5 X id r)(ho:PE X o to)
   (Tq:ab3 o name X.env (eval o X.env)=eval o X.env:=by rfl) (T4:(S_.endLine == S5.line)=true:=by rfl):PE X (.Call (.Attribute o name S_) [] [] S5) (Oo X.K T r to):=by
 intro gV s Z H Q I h;refine wpAny_Call_method0_late Tq T4 (aS (ho gV s Z H _ I h) λv s1 zq=>?_);obtain⟨x,H1,I1,r1,ty,q1⟩:=zq;obtain⟨h1,h2⟩:=GR I1 r1 ty;exact⟨T,id,pa,slot,hty,h1,h2,ada rfl (PySem.evalArgs_none (hm gV s1 Z H1 x [] v [] Q I1 r1 .nil q1))⟩
theorem Qp (pa:PlainAttrs T)(slot:Slot T name id)(hty:typeOf (.builtin id)=pure (.type "method_descriptor"))(hm:G5 X id r)(ho:PE X o to)(ha:PA X (e::es) t)
   (Tq:ab3 o name X.env (eval o X.env)=eval o X.env:=by rfl)
   (Wq:((backTo S5 (aai (e::es) X.env)).all (λx=>!x.1) && (ac2 S5 (abZ [] X.env)).all (λx=>x.1.isSome)
     && decide ((e::es).length+([]:List Keyword).length+(if ([]:List Keyword).isEmpty then 0 else 1)<30))=true:=by rfl)
   (T4:(S_.endLine == S5.line)=true:=by rfl) (hs:aai (e::es) X.env=(false,eval e X.env)::aai es X.env:=by rfl) (Tj:(backTo S5 (aai es X.env)).any (·.1)=false:=by rfl) :
   PE X (.Call (.Attribute o name S_) (e::es) [] S5) (Od X.K T r to t):=by
 intro gV s Z H Q I h;refine wpAny_Call_method_late Tq Wq T4 rfl (aS (ho gV s Z H _ I h) λv s1 zq=>?_);obtain⟨x,H1,I1,r1,ty,q1⟩:=zq;obtain⟨h1,h2⟩:=GR I1 r1 ty;refine⟨T,id,pa,slot,hty,h1,h2,?_⟩;have hA:=ha S5 gV s1 Z H1 _ I1 q1;rw[hs] at hA ⊢;refine ada (by show(false || (backTo S5 (aai es X.env)).any (·.1))=false;rw[Tj] <;> rfl) (acA ?_);exact aS hA λus s2 zq=>bQ zq λvs H2 I2 r2 q2=>hm gV s2 Z H2 x vs v us Q I2 r1 r2 q2
end
def OO (X:Cx)(id:String)(r:V->List V->Hp->VK->Prop):Prop :=
 ∀ (gV:List (Addr×Obj)) (s:Shared) (Z : St) (H:Hp) (x:V) (xs:List V) (v:Value) (us:List Value) (Q:VK),Inv X gV Z H s->RelV x v->aM xs us->r x xs H Q ->
   wpAny (model X.prog X.w) X.A (call (.builtin id) (v::us)) (EP X gV Z Q) X.xe s
variable {us:List Value} {x:V}
theorem aM.one (h:aM [x] us):∃ u,us=[u]/\RelV x u:=by
 cases h with
 | cons r t=>cases t;exact⟨_,rfl,r⟩
theorem aM.zero:∀ {us:List Value},aM [] us->us=[]
 | _,.nil=>rfl
variable {xs:List V}
theorem aM.dropLast (h:aM xs us):aM xs.dropLast us.dropLast:=by
 induction h with
 | nil=>exact .nil
 | cons r t ih =>
   cases t with
   | nil=>exact .nil
   | cons q t'=>exact .cons r ih
theorem aM.rep (h:aM xs us):∀ k:Nat,aM (aau k xs).flatten (aau k us).flatten
 | 0=>.nil
 | k + 1 => by
   rw[abu,abu,acm,acm];exact aM.append h (aM.rep h k)
theorem ED (l:List α):l.eraseIdx (l.length - 1)=l.dropLast:=by
 induction l with
 | nil=>rfl
 | cons a r ih =>
   cases r with
   | nil=>rfl
   | cons b r =>
     have e:(a::b::r).length - 1=((b::r).length - 1)+1:=by
       have h1:(a::b::r).length=r.length+2:=rfl;have h2:(b::r).length=r.length+1:=rfl;omega
     rw[e,List.eraseIdx_cons_succ,ih];all_goals rfl
theorem foldl_rep (its:List Value):∀ (k:Nat) (TK:List Value),
   List.foldl (λx1 x2=>x1++x2) TK.toArray (aau k its.toArray)=(TK++(aau k its).flatten).toArray
 | 0,TK=>by simp
 | k + 1, TK => by
   have e:TK.toArray++its.toArray=(TK++its).toArray:=by simp
   have e2:(TK++its)++(aau k its).flatten=TK++(aau (k+1) its).flatten:=by
     rw[abu,acm,acn]
   rw[<- e2,<- foldl_rep its k (TK++its),<- e,abu,List.foldl_cons]
section
variable {X:Cx} {gV:List (Addr×Obj)} {Z : St} {H:Hp} {s:Shared} {l b:Addr} {xs ys zs:List V}
theorem Inv.Im {its its':List Value}{n:Nat}{f:Array Value->Array Value}{t':Nat}(I:Inv X gV Z H s)(hH:H l=some (.lst xs))
   (e:s.heap.get? l=some { cls:=.type "list",data:=.seq its.toArray n }) (hf:f its.toArray=its'.toArray) (hv:aM ys its') (hz:ys.length<=aal) :
   Inv X gV Z (upd H l (.lst ys)) { s with heap:=s.heap.update l (acH f),toks:=t' }:=by
 have q:=PySem.IsL.update e f;rw[hf] at q;refine I.write (x:=l) (e:=l) (by rw[hH];exact trivial) (.inl rfl) (λb' u hb hu=>(aaZ s.heap (acH f) (Ne.symm hb)).trans hu) ⟨_,q⟩ ?_;exact⟨hz,its',_,hv,q⟩
theorem Inv.O9 (I:Inv X gV Z H s)(hv:aM ys its)(hz:ys.length<=aal) :
   Inv X gV Z (upd H s.heap.objs.size (.lst ys)) { s with heap:=s.heap.push { cls:=.type "list",data:=.seq its.toArray },toks:=t' } :=
 I.laid (λ_ _ q=>aaf _ q) (aag _) ⟨hz,its,0,hv,aat _ rfl⟩
theorem Inv.fresh (I:Inv X gV Z H s):H s.heap.objs.size=none:=I.az.fresh (aag _)
theorem Inv.tG (I:Inv X gV Z H s)(hH:H l=some (.lst xs)):xs.length<=aal/\∃ (its:List Value) (n:Nat),aM xs its/\xs.length=its.length/\s.heap.get? l=some { cls:=.type "list",data:=.seq its.toArray n }:=by
 obtain⟨z,its,n,r,e⟩:=I.az l _ hH;exact⟨z,its,n,r,r.length,e⟩
theorem Bu (h:n<=aal):abV n=false:=by
 unfold abV;exact decide_eq_false (by omega)
end
section
variable {X:Cx}
def xj:V->List V->Hp->VK->Prop:=λx vs H Q=>∃ l xs y,x=.ref l/\vs=[y]/\H l=some (.lst xs)/\xs.length<aal/\Q .aC (upd H l (.lst (xs++[y])))
theorem ye:OO X "list.append" xj:=by
 intro gV s Z H x vs v us Q I rx rv h;obtain⟨l,xs,y,rfl,rfl,hH,hz,q⟩:=h;cases rx
 obtain⟨u,rfl,ru⟩:=rv.one;obtain⟨z,its,n,r,hl,e⟩:=I.tG hH;refine call_meets F.slot_list_append ⟨_,e,rfl⟩ F.entry_list_append (F.args_list_append_2 _ _) (PySem.list_append l its.toArray n u (by rw[aao];omega)) ⟨e,?_⟩;refine⟨.aC,_,I.Im (its':=its++[u]) hH e (by simp) (r.append (.cons ru .nil)) ?_,rfl,q⟩;rw[aab,aaF];omega
def Dq:V->List V->Hp->VK->Prop:=λx vs H Q=>∃ l b xs zs,x=.ref l/\vs=[.ref b]/\H l=some (.lst xs)/\H b=some (.lst zs)/\xs.length+zs.length<=aal/\Q .aC (upd H l (.lst (xs++zs)))
theorem F4:OO X "list.extend" Dq:=by
 intro gV s Z H x vs v us Q I rx rv h;obtain⟨l,b,xs,zs,rfl,rfl,hH,hB,hz,q⟩:=h;cases rx
 obtain⟨u,rfl,ru⟩:=rv.one;cases ru
 obtain⟨z,its,n,r,hl,e⟩:=I.tG hH;obtain⟨z2,U2,n2,r2,UG,e2⟩:=I.tG hB;have hsz:its.toArray.size+U2.toArray.size<=aal:=by rw[aao,aao];omega
 have WB : ¬ (!its.toArray.isEmpty && abV (its.toArray.size+U2.toArray.size))=true:=by
   rw[Bu hsz,Bool.and_false];exact aap
 refine call_meets F.slot_list_extend ⟨_,e,rfl⟩ F.entry_list_extend (F.args_list_extend_2 _ _)
   (AutoSeq1.list_extend_list_list_0 l its.toArray n b U2.toArray n2 WB (by rw[aao];omega) (by omega)) ⟨e,e2,?_⟩
 refine⟨.aC,_,I.Im (its':=its++U2) hH e (by simp) (r.append r2) ?_,rfl,q⟩;rw[aab];omega
def MC:V->List V->Hp->VK->Prop:=λx vs H Q=>∃ l xs y,x=.ref l/\vs=[]/\H l=some (.lst xs)/\xs[xs.length - 1]? = some y/\Q y (upd H l (.lst xs.dropLast))
theorem FL:OO X "list.pop" MC:=by
 intro gV s Z H x vs v us Q I rx rv h;obtain⟨l,xs,y,rfl,rfl,hH,hy,q⟩:=h;cases rx
 have hus:=rv.zero;subst hus;obtain⟨z,its,n,r,hl,e⟩:=I.tG hH;obtain⟨u,hu,ru⟩:=r.get hy;have hy':its.toArray[its.toArray.size - 1]? = some u:=by
   show its.toArray[its.length - 1]? = some u;rw[<- adg,<- hl];exact hu
 refine call_meets F.slot_list_pop ⟨_,e,rfl⟩ F.entry_list_pop (F.args_list_pop_1 _) (MeetsSeq.list_pop_last l its.toArray n u hy' (by rw[aao];omega)) ⟨e,?_⟩;refine⟨y,_,I.Im (its':=its.dropLast) hH e ?_ r.dropLast ?_,ru,q⟩
 . show its.toArray.eraseIdxIfInBounds (its.toArray.size - 1) = its.dropLast.toArray;rw[aao,List.eraseIdxIfInBounds_toArray,ED]
 . rw[List.length_dropLast];omega
def Oj:R2:=λx y H Q=>∃ l b xs zs,x=.ref l/\y=.ref b/\H l=some (.lst xs)/\H b=some (.lst zs)/\xs.length+zs.length<=aal/\∀ p,H p=none->Q (.ref p) (upd H p (.lst (xs++zs)))
theorem OC:bR X (abD .Add) Oj:=by
 intro gV s Z H x y v u Q I rx ry h;obtain⟨l,b,xs,zs,rfl,rfl,hH,hB,hz,q⟩:=h;cases rx
 cases ry
 obtain⟨z,its,n,r,hl,e⟩:=I.tG hH;obtain⟨z2,U2,n2,r2,UG,e2⟩:=I.tG hB;refine PySem.P.add_list e e2 ?_ (by rw[aao,aao];omega);have ea:its.toArray++U2.toArray=(its++U2).toArray:=by simp
 rw[ea];exact⟨.ref _,_,I.O9 (t':=s.toks) (r.append r2) (by rw[aab];omega),rfl,q _ I.fresh⟩
def MD:R2:=λx y H Q=>∃ l k xs,x=.ref l/\y=.int k/\H l=some (.lst xs)/\-(2 ^ 63)<=k/\k<2 ^ 63/\xs.length*k.toNat<=aal /\
 ∀ p,H p=none->Q (.ref p) (upd H p (.lst (aau k.toNat xs).flatten))
theorem len_rep (xs:List α)(k:Nat):(aau k xs).flatten.length=k*xs.length:=by
 induction k with
 | zero=>simp
 | succ k ih=>rw[abu,acm,aab,ih,Nat.succ_mul,Nat.add_comm]
theorem M6:bR X (abD .Mult) MD:=by
 intro gV s Z H x y v u Q I rx ry h;obtain⟨l,k,xs,rfl,rfl,hH,h1,h2,hz,q⟩:=h;cases rx
 obtain⟨t,rfl⟩:=ry;obtain⟨z,its,n,r,hl,e⟩:=I.tG hH;have S4:its.toArray.size*k.toNat<=aal:=by rw[aao,<- hl];exact hz
 have hcap : ¬ its.toArray.size*k.toNat > (2 ^ 63 - 1)/8:=by
   have:(aal:Nat)<=(2 ^ 63 - 1)/8:=by decide
   omega
 have hfit : ¬ (!Builtin.List.listFitsIndex k)=true:=by
   rw[fitsIndex_both h1 h2];exact aap
 have WB : ¬ abV (its.toArray.size*k.toNat)=true:=by
   rw[Bu S4];exact aap
 have hnew:List.foldl (λx1 x2=>x1++x2) #[] (aau (if its.toArray.isEmpty=true then 0 else k.toNat) its.toArray)=(aau k.toNat its).flatten.toArray:=by
   have f0:∀ m:Nat,List.foldl (λx1 x2=>x1++x2) #[] (aau m its.toArray)=(aau m its).flatten.toArray:=λm=>by
     have:=foldl_rep its m []
     rw[List.nil_append] at this;exact this
   rw[f0];cases its with
   | nil=>simp
   | cons a r'=>rw[if_neg (by simp)]
 refine wpAny_binaryOp_repeat_ref (T := "list") (U := "int") (by decide) ⟨_, e, rfl⟩ (λs' => typeIs_int s' k t) noFill_list_mul F.fills_int_mul F.slot_int_rmul repeat_list F.slot_int_index.lookup
   (call_meets F.slot_int_rmul (typeIs_int s k t) F.entry_int_rmul (F.args_int_rmul_2 _ _) (int___rmul___int_list k t l its.toArray n)
     ⟨e,rfl,⟨_,e,rfl⟩,call_meets F.slot_list_mul ⟨_,e,rfl⟩ F.entry_list_mul (F.args_list_mul_2 _ _) (AutoListH.list___mul___list_int_3 l its.toArray n k t hfit hcap WB) ⟨e,?_⟩⟩)
 rw[hnew];exact⟨.ref _,_,I.O9 (t':=s.toks) (r.rep k.toNat) (by rw[len_rep,Nat.mul_comm];exact hz),rfl,q _ I.fresh⟩
end
section
variable {κ : Type} [DecidableEq κ]
def cP (kvs:List (κ×V))(k : κ):Option V:=(kvs.find? λkv=>decide (kv.1=k)).map (·.2)
def putK (kvs:List (κ×V))(k : κ)(v:V):List (κ×V) :=
 if (kvs.any λkv=>decide (kv.1=k))=true then kvs.map (λkv=>if kv.1=k then (kv.1,v) else kv) else kvs++[(k,v)]
theorem mP {p : κ×V}{r:List (κ×V)}{k : κ}(e:p.1=k):cP (p::r) k=some p.2:=by simp[cP,abE,e]
theorem jF {p : κ×V}{r:List (κ×V)}{k : κ}(e : ¬ p.1=k):cP (p::r) k=cP r k:=by simp[cP,abE,e]
theorem jS (k : κ):∀ kvs:List (κ×V),(kvs.any λkv=>decide (kv.1=k))=(cP kvs k).isSome
 | []=>rfl
 | p :: r => by
   rw[abA];by_cases e:p.1=k
   . simp only[mP e,decide_eq_true e,Bool.true_or,adE]
   . rw[jF e,decide_eq_false e,ac4];exact jS k r
theorem sd (kvs:List (κ×V))(k : κ)(v:V):(putK kvs k v).length<=kvs.length+1:=by
 unfold putK;split
 . rw[aac];omega
 . rw[aab,aaH,acI];omega
variable {kvs:List (κ×V)}
theorem Hv (v:V)(h:cP kvs k=none):putK kvs k v=kvs++[(k,v)]:=by
 unfold putK;rw[jS,h];exact if_neg (by decide)
theorem ff.oR (r:ff o u):o.isSome=u.isSome:=by
 cases o with
 | none=>cases u with
   | none=>rfl
   | some _=>exact(show False from r).elim
 | some _=>cases u with
   | none=>exact(show False from r).elim
   | some _=>rfl
variable {vs:List (κ×Value)}
theorem KV.val (r:KV kvs vs)(k : κ):ff (cP kvs k) (valueAt vs k):=by
 unfold KV at r
 induction r with
 | nil=>exact aan
 | @cons p q ps qs h t ih =>
   obtain⟨h1,h2⟩:=h;by_cases e:p.1=k
   . have e' : q.1 = k := h1.symm.trans e;have b:valueAt (q::qs) k=some q.2:=by simp [valueAt,abE,e']
     rw[mP e,b];exact h2
   . have e' : ¬ q.1 = k := λz => e (h1.trans z);have b:valueAt (q::qs) k=valueAt qs k:=by simp [valueAt,abE,e']
     rw[jF e,b];exact ih
theorem KV.any (r:KV kvs vs)(k : κ):(kvs.any λkv=>decide (kv.1=k))=vs.any λkv=>decide (kv.1=k):=by
 unfold KV at r
 induction r with
 | nil=>rfl
 | cons h t ih=>rw[abA,abA,ih,h.1]
variable {u:Value} {y:V}
theorem KV.HN (r:KV kvs vs)(k : κ)(ry:RelV y u) :
   KV (kvs.map λkv=>if kv.1=k then (kv.1,y) else kv) (vs.map λkv=>if kv.1=k then (kv.1,u) else kv):=by
 unfold KV at r ⊢
 induction r with
 | nil=>exact .nil
 | @cons p q ps qs h t ih =>
   rw[aaR,aaR];refine .cons ?_ ih;obtain⟨h1,h2⟩:=h;by_cases e:p.1=k
   . rw[if_pos e,if_pos (h1.symm.trans e)];exact⟨h1,ry⟩
   . rw[if_neg e,if_neg (λz=>e (h1.trans z))];exact⟨h1,h2⟩
theorem KV.put (r:KV kvs vs)(k : κ)(ry:RelV y u):KV (putK kvs k y) (stored vs k u):=by
 unfold putK stored;rw[r.any k];by_cases e:(vs.any λkv=>decide (kv.1=k))=true
 . rw[if_pos e,if_pos e];exact r.HN k ry
 . rw[if_neg e,if_neg e];exact Paired.snoc r ⟨rfl,ry⟩
theorem KV.length (r:KV kvs vs):kvs.length=vs.length:=adC r
end
variable {u:Value}
theorem y4 (r:RelV (kV k) u):(c4 P w).is k u=true:=by
 cases k with
 | inl i=>obtain⟨t,e⟩:=(show ∃ t,u=abt i t from r);subst e;exact Cy P w i t
 | inr x=>obtain⟨t,e⟩:=(show ∃ t,u=adF x t from r);subst e;exact B8 P w x t
theorem xU:∀ {ks:List Key} {us:List Value},aM (ks.map kV) us->ItemsAre (c4 P w) ks us
 | [],_,r=>by rw[List.map_nil] at r;cases r;exact .nil
 | k :: ks, _, r => by
   rw[aaR] at r;cases r with
   | cons h t=>exact .cons (y4 h) (xU t)
abbrev KT (H:Hp):List (List Key×V)->List (List Key×Addr×Value)->Prop:=Paired λp q=>p.1=q.1/\H q.2.1=some (.tup (p.1.map kV))/\RelV p.2 q.2.2
variable {H:Hp}
theorem KT.val {kvs:List (List Key×V)}{xs:List (List Key×Addr×Value)}(r:KT H kvs xs)(k:List Key):ff (cP kvs k) ((atKey xs k).map (·.2)):=by
 induction r with
 | nil=>exact aan
 | @cons p q ps qs h t ih =>
   obtain⟨h1,_,h2⟩:=h;by_cases e:p.1=k
   . have e' : q.1 = k := h1.symm.trans e;have b:atKey (q::qs) k=some q.2:=by simp [atKey,abE,e']
     rw[mP e,b];exact h2
   . have e' : ¬ q.1 = k := λz => e (h1.trans z);have b:atKey (q::qs) k=atKey qs k:=by simp [atKey,abE,e']
     rw[jF e,b];exact ih
variable {y:V}
theorem KT.HN {kvs:List (List Key×V)}{xs:List (List Key×Addr×Value)}(r:KT H kvs xs)(k:List Key)(ry:RelV y u) :
   KT H (kvs.map λkv=>if kv.1=k then (kv.1,y) else kv) (xs.map (putAt k u)):=by
 induction r with
 | nil=>exact .nil
 | @cons p q ps qs h t ih =>
   rw[aaR,aaR];refine .cons ?_ ih;obtain⟨h1,h2,h3⟩:=h;unfold putAt;by_cases e:p.1=k
   . rw[if_pos e,if_pos (h1.symm.trans e)];exact⟨h1,h2,ry⟩
   . rw[if_neg e,if_neg (λz=>e (h1.trans z))];exact⟨h1,h2,h3⟩
theorem KT.put {kvs:List (List Key×V)}{xs:List (List Key×Addr×Value)}(r:KT H kvs xs)(k:List Key){b:Addr}(hb:H b=some (.tup (k.map kV)))(ry:RelV y u) :
   KT H (putK kvs k y) (storedH xs k b u):=by
 have e:(kvs.any λkv=>decide (kv.1=k))=(atKey xs k).isSome:=by
   rw[jS,(r.val k).oR,Option.isSome_map]
 unfold putK storedH;rw[e];by_cases q:(atKey xs k).isSome=true
 . rw[if_pos q,if_pos q];exact r.HN k ry
 . rw[if_neg q,if_neg q];exact Paired.snoc r ⟨rfl,hb,ry⟩
theorem KT.keeps {H':Hp}{kvs:List (List Key×V)}{xs:List (List Key×Addr×Value)}(r:KT H kvs xs)(ht:∀ b ys,H b=some (.tup ys)->H' b=some (.tup ys)):KT H' kvs xs :=
 Paired.Jt r λ_ _ z=>⟨z.1,ht _ _ z.2.1,z.2.2⟩
section
variable {P:Program} {w:World} {H:Hp} {h:Heap} {a:Addr}
theorem Kt {u:HO}(ok:de P w H h)(e:Rd H a u):b9 P w H h a u:=e.ok ok
theorem kR (ok:de P w H h)(e:Rd H a (.dK kvs)):kvs.length<=aal/\(a == ach)=false/\∃ vs,KV kvs vs/\h.DictOf (c4 P w) a vs :=
 show b9 P w H h a (.dK kvs) from Kt ok e
theorem QD (ok:de P w H h)(e:H a=some (.dK kvs)):kvs.length<=aal/\(a == ach)=false/\∃ vs,KV kvs vs/\h.DictOf (c4 P w) a vs:=kR ok (.inl e)
theorem vk (ok:de P w H h)(e:H a=some (.tup (ks.map kV))):(tupleKind (c4 P w)).is h ks a:=by
 obtain⟨_,its,r,o,h1,h2,n,h3⟩:=(show b9 P w H h a (.tup (ks.map kV)) from ok a _ e)
 exact⟨o,its.toArray,n,h1,h2,h3,by simpa using xU r⟩
theorem zd (ok:de P w H h)(e:Rd H a (.dT kvs)):kvs.length<=aal/\(a == ach)=false /\
   ∃ xs,KT H kvs xs/\h.DictOfH (tupleKind (c4 P w)) a xs:=by
 obtain⟨z,y,xs,r,o,es,ep,h1,h2,h3,h4,h5⟩:=(show b9 P w H h a (.dT kvs) from Kt ok e)
 refine⟨z,y,xs,r,o,es,ep,h1,h2,h3,h4,λx hx=>?_,h5⟩;have all:∀ {l:List (List Key×V)} {m:List (List Key×Addr×Value)},KT H l m->∀ x∈m,(tupleKind (c4 P w)).is h x.1 x.2.1:=by
   intro l m q
   induction q with
   | nil=>intro x hx;exact nomatch hx
   | @cons p q ps qs hq t ih =>
     intro x hx;rcases List.mem_cons.mp hx with e | hx
     . subst e;exact vk ok (by rw[<- hq.1];exact hq.2.1)
     . exact ih x hx
 exact all r x hx
theorem PX (ok:de P w H h)(e:H a=some (.dT kvs)):kvs.length<=aal/\(a == ach)=false /\
   ∃ xs,KT H kvs xs/\h.DictOfH (tupleKind (c4 P w)) a xs:=zd ok (.inl e)
end
def gq (H:Hp)(a:Addr)(y:V)(r:Option V):Prop :=
 (∃ kvs k,Rd H a (.dK kvs)/\y=kV k/\r=cP kvs k)∨∃ kvs k b,Rd H a (.dT kvs)/\y=.ref b/\H b=some (.tup (k.map kV))/\r=cP kvs k
def sU (H:Hp)(a:Addr)(y v:V)(H':Hp):Prop :=
 (∃ kvs k,H a=some (.dK kvs)/\y=kV k/\kvs.length<aal/\H'=upd H a (.dK (putK kvs k v))) ∨
 ∃ kvs k b,H a=some (.dT kvs)/\y=.ref b/\H b=some (.tup (k.map kV))/\kvs.length<aal/\H'=upd H a (.dT (putK kvs k v))
theorem gq.k {a:Addr}{kvs:List (Key×V)}{k:Key}(e:H a=some (.dK kvs)):gq H a (kV k) (cP kvs k):=.inl ⟨kvs,k,.inl e,rfl,rfl⟩
theorem sU.k {a:Addr}{kvs:List (Key×V)}{k:Key}{v:V}(e:H a=some (.dK kvs))(hl:kvs.length<aal):sU H a (kV k) v (upd H a (.dK (putK kvs k v))):=.inl ⟨kvs,k,e,rfl,hl,rfl⟩
section
variable {X:Cx} {gV:List (Addr×Obj)} {Z : St} {H:Hp} {s:Shared} {a:Addr} {y v:V} {u r:Value} {o:Option V} {A:Around} {E:Value->Shared->Prop}
theorem Inv.zD (I:Inv X gV Z H s):ach<s.heap.objs.size:=by
 have h:aa5<s.heap.objs.size:=(I.mod.glob.keeps I.bk).lt;exact Nat.lt_trans (by decide) h
variable {Q:Value->Shared->Prop}
theorem FK (hu:A.units+1<cLine)(I:Inv X gV Z H s)(g:gq H a y (some v))(ry:RelV y u)(h:∀ w' s',Inv X gV Z H s'->RelV v w'->Q w' s') :
   wpAny (model X.prog X.w) A (getItem (.ref a) u) Q E s:=by
 rcases g with ⟨kvs,k,e,ey,l⟩ | ⟨kvs,k,b,e,ey,eb,l⟩
 . subst ey;obtain⟨z,hd,vs,TM,dd⟩:=kR I.az e;obtain⟨w',hw,V3⟩:=ff.some_of (v:=v) (o:=valueAt vs k) (by rw[l];exact TM.val k);exact wpAny_getItem_of (y4 ry) dd.mapOf hw (h w' _ (I.tok _) V3)
 . subst ey;cases (show u=Td b from ry)
   obtain⟨z,hd,xs,TM,dd⟩:=zd I.az e;obtain⟨w',hw,V3⟩:=ff.some_of (v:=v) (o:=(atKey xs k).map (·.2)) (by rw[l];exact TM.val k);obtain⟨p,hp,UT⟩:=Option.map_eq_some_iff.mp hw;refine wpAny_getItem_heap (tupleKind_room_in1 hu) (vk I.az eb) dd hp ?_;rw[UT];exact h w' _ (I.tok _) V3
theorem Rc (hu:A.units+1<cLine)(I:Inv X gV Z H s)(g:gq H a y o)(ry:RelV y u)(h:∀ s',Inv X gV Z H s'->Q (.bool o.isSome) s') :
   wpAny (model X.prog X.w) A (aaV .In u (.ref a)) Q E s:=by
 rcases g with ⟨kvs,k,e,ey,l⟩ | ⟨kvs,k,b,e,ey,eb,l⟩
 . subst ey;obtain⟨z,hd,vs,TM,dd⟩:=kR I.az e;refine wpAny_in_of (y4 ry) hd dd.mapOf ?_;rw[<- (TM.val k).oR,<- l];exact h _ (I.tok _)
 . subst ey;cases (show u=Td b from ry)
   obtain⟨z,hd,xs,TM,dd⟩:=zd I.az e;refine wpAny_in_heap (tupleKind_room_in1 hu) (vk I.az eb) hd dd ?_;have q:=(TM.val k).oR;rw[Option.isSome_map] at q;rw[<- q,<- l];exact h _ (I.tok _)
theorem C_ (I:Inv X gV Z H s)(mu:Hi (H a))(hs:ab_ a s.heap h')(he:∃ q,h'.get? a=some q)(new:b9 X.prog X.w (upd H a ob) h' a ob) :
   Inv X gV Z (upd H a ob) { s with heap:=h',toks:=t' } :=
 I.write (x:=a) (e:=a) mu (.inl rfl) (λb q hb z=>(hs.2 b hb).trans z) he new
theorem GC (z:kvs.length<=aal)(hd:(a == ach)=false)(TM:KV kvs vs)(dd:h'.DictOf (c4 P w) a vs) :
   b9 P w H' h' a (.dK kvs):=⟨z,hd,vs,TM,dd⟩
theorem GF {H':Hp}{Q:Unit->Shared->Prop}(hu:A.units+1<cLine)(I:Inv X gV Z H s)(g:sU H a y v H')(ry:RelV y u)(rv:RelV v r)(h:∀ s',Inv X gV Z H' s'->Q () s') :
   wpAny (model X.prog X.w) A (setItem (.ref a) u r) Q E s:=by
 rcases g with ⟨kvs,k,e,ey,l,eH⟩ | ⟨kvs,k,b,e,ey,eb,l,eH⟩
 . subst ey eH;obtain ⟨z,hd,vs,TM,dd⟩:=QD I.az e;have hz:vs.length<=aal:=by rw [<- TM.length];exact z
   have hl:(putK kvs k v).length<=aal:=by have:=sd kvs k v;omega
   refine wpAny_setItem_pairs (hsz:=hz) (y4 ry) dd λh' dd' hs=>h _ ?_;have he:∃ q,h'.get? a=some q:=let ⟨q,_,_,hq,_⟩:=dd';⟨q,hq⟩;exact C_ I (by rw[e];exact aan) hs he (GC hl hd (TM.put k rv) dd')
 . subst ey eH;cases (show u=Td b from ry)
   obtain⟨z,hd,xs,TM,dd⟩:=PX I.az e;have hz:xs.length<=aal:=by rw[<- adC TM];exact z
   have hl:(putK kvs k v).length<=aal:=by have:=sd kvs k v;omega
   refine wpAny_setItem_heap (hsz:=hz) (tupleKind_room_in1 hu) (vk I.az eb) dd λh' dd' hs=>h _ ?_;obtain⟨q,es,ep,hq,h2,h3,h4,_,h5⟩:=dd';refine C_ I (by rw[e];exact aan) hs ⟨q,hq⟩ ⟨hl,hd,_,(TM.put k eb rv).keeps λc ys ec=>?_,q,es,ep,hq,h2,h3,h4,h5⟩;rw[ak (Kg ec e (λz=>nomatch z))];exact ec
end
section
variable {X:Cx} {gV:List (Addr×Obj)} {Z : St} {H:Hp} {s:Shared} {a:Addr} {kvs:List (Key×V)} {k:Key} {u:Value} {A:Around} {E:Value->Shared->Prop}
variable {Q:Value->Shared->Prop}
theorem P9 (I:Inv X gV Z H s)(e:Rd H a (.dK kvs))(h:∀ t s',Inv X gV Z H s'->Q (.int kvs.length t) s'):wpAny (model X.prog X.w) A (call (.builtin "len") [.ref a]) Q E s:=by
 obtain⟨z,hd,vs,TM,dd⟩:=kR I.az e;refine call_len_dict hd dd (by rw[<- TM.length];rw[aaJ] at z;omega) ?_;rw[<- TM.length];exact h _ _ (I.tok _)
end
def Pg (i:Expr):Prop:=∀ ov iv,subscripted i false ov iv=operate [ov,iv] (getItem ov iv)
theorem Mj {prog:Program}{w:World}{A:Around}{E:Value->Shared->Prop}{s:Shared}{env:Env}{value Tp:Expr}{pos:Pos}{T id:String}{Q:Value->Shared->Prop}
   (hl:adM (.type T) "__getitem__" = pure (some (.builtin id))) (hs:Pg Tp)
   (h:wpAny (model prog w) A (eval value env) (λo s₁=>wpAny (model prog w) A (eval Tp env) (λi s₂=>s₂.TypeIs o T/\wpAny (model prog w) A (getItem o i) Q E s₂) E s₁) E s) :
   wpAny (model prog w) A (eval (.Subscript value Tp pos) env) Q E s:=by
 refine Subscript_ (aaI h (λo s₁ h₁=>aaI h₁ (λi s₂ h₂=>?_) λ_ _ x=>x) λ_ _ x=>x);obtain⟨hT,h₂⟩:=h₂;unfold subscriptTail;refine aad ?_;rw[getitemInPython_of_ne hT.not_modules];refine aad (adG hT hl ?_);have Ta:wpAny (model prog w) A (subscripted Tp false o i) (λr s₃=>wpAny (model prog w) A (letTemporaryGo value o r >>= λ_=>pure r) Q E s₃) E s₂:=by
   rw[hs o i];exact wpAny_operating (aaI h₂ (λr s₃ h₃=>aad (wpAny_letTemporaryGo (aaj h₃))) λ_ _ x=>x)
 first
   | exact aaj (aad Ta)
   | exact aad (aaj (aad Ta))
   | exact aad Ta
variable {s:Shared} {gV:List (Addr×Obj)}
theorem CI (I:Inv X gV Z H s)(g:gq H a y o):s.TypeIs (.ref a) "dict":=by
 rcases g with ⟨kvs,k,e,_,_⟩ | ⟨kvs,k,b,e,_,_,_⟩
 . obtain⟨_, _, vs, _, dd⟩ := kR I.az e;exact dd.typeIs
 . obtain⟨_, _, xs, _, dd⟩ := zd I.az e;exact dd.typeIs
def Kk (td ty:TE):TE:=λZ H Q=>td Z H λx H1=>ty Z H1 λy H2=>∃ a v,x=.ref a/\gq H2 a y (some v)/\Q v H2
def OL (ty td:TE):TE:=λZ H Q=>ty Z H λy H1=>td Z H1 λx H2=>∃ a o,x=.ref a/\gq H2 a y o/\Q (.bl o.isSome) H2
def JR (td ty tv:TE):TS:=λD Z H=>tv Z H λv H1=>td Z H1 λx H2=>ty Z H2 λy H3=>∃ a H4,x=.ref a/\sU H3 a y v H4/\D.nx Z H4
section
variable {X:Cx} {o i e value:Expr} {pos Tx TV:Pos} {td ty tv:TE}
theorem wC (hu:X.A.units+1<cLine)(ho:PE X o td)(hi:PE X i ty)(hs:Pg i):PE X (.Subscript o i pos) (Kk td ty):=by
 intro gV s Z H Q I h;refine Mj PySem.F.slot_dict_getitem.lookup hs (aS (ho gV s Z H _ I h) λu s1 zq=>bQ zq λx H1 I1 rx q1=>aS (hi gV s1 Z H1 _ I1 q1) λiv s2 zq=>?_);obtain⟨y,H2,I2,ry,a,v,ex,g,q2⟩:=zq;subst ex;obtain rfl:u=Td a:=rx;exact⟨CI I2 g,FK hu I2 g ry λw' s3 I3 V3=>⟨v,H2,I3,V3,q2⟩⟩
theorem Au (hu:X.A.units+1<cLine)(hi:PE X i ty)(ho:PE X o td):PC X .In i o (OL ty td):=by
 intro gV s Z H Q I h;refine aS (hi gV s Z H _ I h) λiv s1 zq=>bQ zq λy H1 I1 ry q1=>aS (ho gV s1 Z H1 _ I1 q1) λu s2 zq=>?_;obtain⟨x,H2,I2,rx,a,ov,ex,g,q2⟩:=zq;subst ex;obtain rfl:u=Td a:=rx;exact Rc hu I2 g ry λs3 I3=>⟨.bl ov.isSome,H2,I3,rfl,q2⟩
theorem xk (hu:X.A.units+1<cLine)(ho:PE X o td)(hi:PE X i ty)(hv:PE X value tv)(hs:acU value (some (.Subscript o i Tx)) pos.line X.env=pure false) :
   PS X (.Assign [.Subscript o i Tx] value pos) (JR td ty tv):=by
 intro gV s Z H D I h;refine wpAny_Assign_Subscript (aS (hv gV s Z H _ I h) λr s1 zq=>bQ zq λv H1 I1 rv q1=>aS (ho gV s1 Z H1 _ I1 q1) λu s2 zq=>bQ zq λx H2 I2 rx q2=>aS (hi gV s2 Z H2 _ I2 q2) λiv s3 zq=>?_) hs;obtain⟨y,H3,I3,ry,a,H4,ex,g,q3⟩:=zq;subst ex;obtain rfl:u=Td a:=rx;exact GF hu I3 g ry rv λs4 I4=>⟨Z,H4,I4,q3⟩
end
theorem HU (h:Heap)(hb:ach<h.objs.size):b9 P w H (h.push { cls:=.type "dict",data:=.dict #[] }) h.objs.size (.dK []) :=
 ⟨aaU _,beq_eq_false_iff_ne.mpr (Ne.symm (aaw hb)),[],.nil,Heap.DictOf.new h⟩
def GJ:TE:=λ_ H Q=>∀ p,H p=none->Q (.ref p) (upd H p (.dK []))
section
variable {X:Cx} {pos:Pos}
theorem zR:PE X (.Dict [] [] pos) GJ:=λgV s Z H Q I h =>
 wpAny_Dict_empty ⟨.ref s.heap.objs.size,_,I.laid (a:=s.heap.objs.size) (o:=.dK []) (t':=s.toks) (λ_ _ q=>aaf _ q) (aag _) (HU s.heap I.zD),rfl,h _ (I.az.fresh (aag _))⟩
end
section
variable {X:Cx} {gV:List (Addr×Obj)} {Z : St} {H:Hp} {s:Shared} {a:Addr} {kvs:List (Key×V)} {A:Around} {E:Value->Shared->Prop}
variable {Q:Value->Shared->Prop}
theorem Jj (I:Inv X gV Z H s)(e:Rd H a (.dK kvs))(h:∀ p s',H p=none->Inv X gV Z (upd H p (.dK kvs)) s'->Q (.ref p) s'):wpAny (model X.prog X.w) A (call (.type "dict") [.ref a]) Q E s:=by
 obtain⟨z,hd,vs,TM,dd⟩:=kR I.az e;refine kt_call_dict hd dd (by rw[<- TM.length];exact z) λh' dd' hs=>?_;refine h _ _ (I.az.fresh (aag _)) (I.laid (a:=s.heap.objs.size) (o:=.dK kvs) (t':=s.toks) (λb q hq=>?_) (aag _) (GC z (beq_eq_false_iff_ne.mpr (Ne.symm (aaw I.zD))) TM dd'));exact(hs.2 b (aaw (aam hq))).trans (aaf _ hq)
end
end L2
namespace Att
open PySem PySem.W PySem.Calls PyProof.Rows
theorem uC:∀ (ns:List Int) (vs:List Value),WellAll P h vs (ns.map WData.int)->IntsAre vs ns:=by
 intro ns
 induction ns with
 | nil =>
   intro vs w;rw[List.map_nil] at w;cases w
   exact .nil
 | cons n ns ih =>
   intro vs w;rw[aaR] at w;cases w with
   | cons a b =>
     cases a
     exact .cons _ _ (ih _ b)
theorem Gn {l:OpenLaw}{n:Nat}(hn:l.most=some n){P:Params}{h:Heap}{args:List WData}{vals:List Value}
   (hpre:l.row.toRowW.claim.pre args=true) (hwl:WellAll P h vals args) :
   ∃ a vs ns,vals=[Td a]/\args=[WData.list (ns.map WData.int)]/\h.get? a=some { cls:=.type "list",data:=.seq vs.toArray }/\IntsAre vs ns/\ns.length<=n:=by
 have hsh:WShape.hasAll [] args [.list .int]=true:=(pre_splitW hpre).1;have hc:l.pre.holds [] { args:=args }=true:=(pre_splitW hpre).2;obtain⟨d,r,rfl,h1,h2⟩:=hasAllW_cons hsh;obtain rfl:=hasAllW_nil h2;obtain⟨xs,rfl,h3⟩:=hasW_list h1;obtain⟨ns,rfl⟩:=items_int h3;have S4:ns.length<=n:=by
   unfold OpenLaw.pre at hc;have h4:(WTm.not (.lt (.lit (.int (n:Int))) (.len (.arg 0)))).holds [] { args:=[.list (ns.map .int)] }=true:=by
     have h4:=(holds_andW hc).1;rw[hn] at h4;exact h4
   have h5:=condW_of h4 (w_not (w_lt w_lit (w_len_list (w_arg rfl))));rw[aac] at h5;refine Nat.le_of_not_lt λq=>?_;have q':(n:Int)<((ns.length:Nat):Int):=by omega
   first
     | (rw[decide_eq_true q'] at h5;exact absurd h5 (by decide))
     | (simp at h5;omega)
 cases hwl with
 | cons w1 w2 =>
   cases w2
   cases w1 with
   | list ho hall=>exact⟨_,_,ns,rfl,rfl,ho,uC ns _ hall,S4⟩
theorem Fs (l:OpenLaw)(args:List WData):l.row.toRowW.claim.post args (.bool true) args=true :=
 postW_of (r:=l.row.toRowW) (X:=(true == true))
   (show WShape.has [] (.bool true) .bool=true by first | rfl | decide | simp[WShape.has,WShape.arms,WShape.armsAll])
   (show(WTm.eq .res (.lit (.bool true))).value [] { args:=args,res:=some (.bool true),after:=args }=some (.bool (true == true)) from w_eq_bool (w_res rfl) w_lit) rfl
theorem BO {l:OpenLaw}{n:Nat}{q:Program}{UC:List Str}{XP:(Str->Option Value)->Heap->Prop}{YP:World->Heap->Prop}{d:DefRec}
   (hn:l.most=some n) (hdf:d.params.defaults=[])
   (call:∀ (w:World) (s₀ s₁ : Shared) (mg mb:Str->Option Value) (fa:Addr) (o:Obj) (pm cd S8:Value) (a:Addr) (vs:List Value) (ns:List Int),
     Ground q UC [] XP w s₀ mg mb s₁.heap->YP w s₁.heap ->
     s₁.heap.get? fa=some o->o.data=.func (docDef d.name d.params d.body d.scope pm cd S8)->s₁.heap.CodeRec cd d.name->mg d.name=some (.ref fa) ->
     s₁.heap.get? a=some { cls:=.type "list",data:=.seq vs.toArray }->IntsAre vs ns->ns.length<=n->s₁.gens = #[] ->
     codeAny (model l.prog w) callerA (.call (.ref fa) ⟨[.ref a],[]⟩) (λr s'=>r=.ok (.ret (.bool true))/\OldK s₁.heap s'.heap/\s'.os=s₁.os/\AllBare s'.gens) s₁) :
   WalkO q UC XP YP l.row.toRowW d [] (λf vs=>PySem.call f vs):=by
 intro w s₀ s₁ mg mb G Y fa o pm cd S8 dV kV ho hd Ua hD hmg hg args vals as hpre hlay hrd hwl hlo;obtain rfl:dV=.none:=Dflts.none hD hdf;obtain rfl:kV=.none:=Dflts.noKw hD;obtain⟨a,vs,ns,rfl,rfl,hobj,WC,S4⟩:=Gn hn hpre hwl;refine enter_call (ab0 (call w s₀ s₁ mg mb fa o pm cd S8 a vs ns G Y ho (fd_plain hd) Ua hmg hobj WC S4 hg) λr s' hq=>?_);obtain⟨rfl,h2,h3,h4⟩:=hq;exact⟨.inl ⟨.bool true,.bool true,[],rfl,λ_=>rfl,.bool true,Fs l _,λ_=>⟨List.Pairwise.nil,λ_ hm=>(nomatch hm)⟩⟩,h2,h3,h4⟩
end Att
namespace L2
open PySem PySem.Spec PyProof.Rows
theorem xT:∀ {vs:List Value} {ns:List Int},IntsAre vs ns->aM (ns.map V.int) vs
 | _,_,.nil=>.nil
 | _,_,.cons n t h=>.cons ⟨t,rfl⟩ (xT h)
def Jl (H:Hp):Prop:=∀ b,H b=none∨∃ o xs,H b=some (.ky o (.lst xs))
theorem Ic {P:Program}{w:World}{K:W.Frag}{mg mb:Str->Option Value}{CX:dM}{k:Nat}{fa a:Addr}{fd:aa4}{x:Str}{sp:Sp}{s₁ : Shared}{vs:List Value}{ns:List Int}
   (KX:K.In s₁.heap) (hns:s₁.heap.Ns aa5 mg) (hb:s₁.heap.Ns builtinsNs mb) (hbb:∀ x:Str,x ≠ "__name__"->mb x=aaX x) (hlim:s₁.heap.NoLimit) (hg:s₁.gens = #[])
   (ha:s₁.heap.get? a=some { cls:=.type "list",data:=.seq vs.toArray }) (hi:IntsAre vs ns) (hl:ns.length<=aal) (hr:bI k callerA)
   (F:∀ base:Heap,K.In base->base.Ns aa5 mg->c7 P w K mg base CX k fa fd [x] sp) (hbind:∀ (s:Shared) (u:Value),BindsTo s fd ⟨[u],[]⟩ [(x,u)])
   (UQ:∀ H:Hp,Jl H->ar K H a (ns.map V.int)->sp [.ref a] H (λv _=>v=.bl true) λ_ _ _=>False)
   (hCX:∀ H e s',CX [] H s₁ (λ_ _ _=>False) e s'->False) :
   codeAny (model P w) callerA (.call (.ref fa) ⟨[.ref a],[]⟩) (λr s'=>r=.ok (.ret (.bool true))/\OldK s₁.heap s'.heap/\s'.os=s₁.os/\AllBare s'.gens) s₁:=by
 have rv:=xT hi;have lenV:=hi.length
 -- from an abstract heap in which nothing but the script may be UO
 have core : ∀ H : Hp, Jl H -> ar K H a (ns.map V.int) -> de P w H s₁.heap -> (∀ b, H b ≠ none -> b = a) -> (H a ≠ none -> K.lookup a = none) ->
     codeAny (model P w) callerA (.call (.ref fa) ⟨[.ref a],[]⟩) (λr s'=>r=.ok (.ret (.bool true))/\OldK s₁.heap s'.heap/\s'.os=s₁.os/\AllBare s'.gens) s₁:=by
   intro H hO hS az hA hK;have Vz:∀ {b:Addr} {o:Obj},s₁.heap.get? b=some o->H b=none->(mR s₁.heap H).get? b=some o:=λe n=>Ih e n;have noA:∀ {b:Addr} {o:Obj} {es:Array DictEntry} {ep:Nat},s₁.heap.get? b=some o->o.data=.dict es ep->H b=none:=λ{b o es ep} e d=>by
     cases q:H b with
     | none=>rfl
     | some u =>
       have e':b=a:=hA b (by rw[q];simp);subst e';rw[ha] at e;cases e;have d':Data.seq vs.toArray _=Data.dict es ep:=d;cases d'
   have nsK:∀ {b:Addr} {m:Str->Option Value},s₁.heap.Ns b m->(mR s₁.heap H).Ns b m:=λ{b m} ⟨o,es,ep,e,d,r⟩=>⟨o,es,ep,Vz e (noA e d),d,r⟩;have hKb:K.In (mR s₁.heap H):=λb o e=>Vz (KX b o e) (by
     cases q:H b with
     | none=>rfl
     | some u =>
       have e':b=a:=hA b (by rw[q];simp);subst e';rw[hK (by rw[q];simp)] at e;cases e)
   have hM:Mod K mg (mR s₁.heap H):=⟨hKb,nsK hns,⟨mb,nsK hb,hbb⟩,let ⟨mc,h1,h2⟩:=hlim;⟨mc,nsK h1,h2⟩⟩
   have e0:ub P w K mg (mR s₁.heap H) callerA [] s₁ H:=⟨rfl,hM,λb o e=>Mc e,acw (F_ _ _),trivial,λb hb=>absurd (show b∈([]:List Addr) from hb) (by simp),az,.of_eq hg⟩
   refine ab0 ((F _ hKb (nsK hns)).run callerA [] s₁ H ⟨[.ref a],[]⟩ [.ref a] [.ref a] _ _ hr e0 (hbind s₁ (.ref a)) (.cons rfl .nil) (UQ H hO hS)) λr s' h=>?_;cases r with
   | error e=>exact(hCX H e s' h).elim
   | ok fl =>
     cases fl with
     | next=>exact aaW h
     | brk=>exact aaW h
     | cont=>exact aaW h
     | ret u =>
       obtain⟨v,H',os,bare,un,hok',r',q⟩:=h;have q':v=.bl true:=q;subst q';obtain rfl:u=adh true:=r';refine⟨rfl,OldK.of_keep λb o e=>?_,os,bare⟩;cases q:H b with
       | none=>exact un.keep b o e q (by intro z;exact absurd (show b∈([]:List Addr) from z) (by simp)) (by simp)
       | some u =>
         rcases hO b with z | ⟨ob,xs,z⟩
         . rw[q] at z;cases z
         . have z2 := un.iS b ob _ z;obtain⟨e1,_⟩:=az b _ z;obtain⟨e2,_⟩:=hok' b _ z2;rw[e] at e1;cases e1;exact e2
 cases hk:K.lookup a with
 | some o =>
   -- the script is one of the module's own objects
   have e:=KX a o hk;rw[ha] at e;cases e
   refine core (λ_=>none) (λ_=>.inl rfl) (.inr ⟨_,vs.toArray,_,hk,rfl,rfl,rfl,by rw[aao,lenV];exact hl,by simpa using rv⟩) (λb u z=>by have z':(none:Option HO)=some u:=z;cases z') (λb z=>absurd rfl z) λz=>absurd rfl z
 | none =>
   refine core (λb=>if b=a then some (.ky { cls:=.type "list",data:=.seq vs.toArray } (.lst (ns.map V.int))) else none) (λb=>?_) (.inl (.inr ⟨{ cls:=.type "list",data:=.seq vs.toArray },if_pos rfl⟩)) (λb u z=>?_) (λb z=>?_) λ_=>hk
   . by_cases hb:b=a
     . exact .inr ⟨_,_,if_pos hb⟩
     . exact .inl (if_neg hb)
   . by_cases hb:b=a
     . have z' := (if_pos hb).symm.trans z;cases z'
       subst hb;exact⟨ha,by rw[aac];exact hl,vs,_,rv,ha⟩
     . have z' := (if_neg hb).symm.trans z;cases z'
   . by_cases hb:b=a
     . exact hb
     . exact absurd (if_neg hb) z
abbrev Ki {K:W.Frag}{h:Heap}(_:K.In h):W.Frag:=K
theorem L8 {l:W.OpenLaw}{n k:Nat}{q:Program}{UC:List Str}{XP:(Str->Option Value)->Heap->Prop}{YP:World->Heap->Prop}{d:DefRec}{K:Params->W.Frag}{CX:World->dM}{sp:World->Sp}{x:Str}
   (hn:l.most=some n) (hn2:n<=aal) (hdf:d.params.defaults=[]) (hr:bI k callerA)
   (hY:∀ (w:World) (h:Heap),YP w h->(K w.params).In h)
   (F:∀ (w:World) (mg:Str->Option Value) (fa:Addr) (h:Heap),(K w.params).In h->h.Ns aa5 mg->mg d.name=some (.ref fa) ->
     ∃ fd:aa4,(∀ (s:Shared) (u:Value),BindsTo s fd ⟨[u],[]⟩ [(x,u)]) /\
       ∀ base:Heap,(K w.params).In base->base.Ns aa5 mg->c7 l.prog w (K w.params) mg base (CX w) k fa fd [x] (sp w))
   (UQ:∀ (w:World) (H:Hp) (a:Addr) (ns:List Int),ns.length<=n->Jl H->ar (K w.params) H a (ns.map V.int)->sp w [.ref a] H (λv _=>v=.bl true) λ_ _ _=>False)
   (hCX:∀ (w:World) (H:Hp) (s:Shared) (e:Value) (s':Shared),CX w [] H s (λ_ _ _=>False) e s'->False) :
   W.WalkO q UC XP YP l.row.toRowW d [] (λf vs=>PySem.call f vs):=by
 refine Att.BO hn hdf λw s₀ s₁ mg mb fa o pm cd S8 a vs ns G Y ho hd Ua hmg hobj WC S4 hg=>?_;have KX:=hY w _ Y;obtain⟨fd,hb,hF⟩:=F w mg fa _ KX G.T.g hmg;exact Ic KX G.T.g G.T.b G.T.builtins G.T.nolimit hg hobj WC (aaL S4 hn2) hr hF hb (λH hO hS=>UQ w H a ns S4 hO hS) λH e s'=>hCX w H s₁ e s'
def inClass (s:Stmt)(j:Nat):Stmt:=match s with
 | .ClassDef _ _ _ body _ _ _ _ _ _ _=>body.getD j (.Pass ⟨0,0,0,0⟩)
 | _=>.Pass ⟨0,0,0,0⟩
def a_ (s:Stmt):Arguments:=match s with
 | .FunctionDef _ a _ _ _ _ _ _ _ _=>a
 | _=>{ posonlyargs:=[],args:=[],vararg:=none,kwonlyargs:=[],kw_defaults:=[],kwarg:=none,defaults:=[] }
def aV (s:Stmt):List Stmt:=match s with
 | .FunctionDef _ _ b _ _ _ _ _ _ _=>b
 | _=>[]
def ah (s:Stmt):Scope:=match s with
 | .FunctionDef _ _ _ _ _ _ sc _ _ _=>sc
 | _=>{ kind:=.function,names:=[],isGenerator:=false,isCoroutine:=false }
abbrev cb:dM:=λ_ _ _ _ _ _=>False
abbrev E0:XK:=λ_ _ _=>False
theorem b_:dE cb X E0:=λ_ _ _ _ _ _ _ h=>h.elim
structure ee (K:W.Frag)(x qual:Str)(st:Stmt)(f:Addr)(fd:aa4):Prop where
 ex:∃ (oc:Value) (od:Option Addr) (kV S8 pm:Value) (an:Option Addr) (S0 ct:Value) (Ts:Array (Option Value)),
   fd=W.fnOf x qual (a_ st) (aV st) (ah st) .none kV S8 pm an S0 ct/\K.lookup f=some ⟨oc,od,.func fd,Ts⟩/\abR K S0 qual=true
 kp:abi K (.ref f)=true
section
variable {P:Program} {w:World} {K:W.Frag} {mg:Str->Option Value} {base:Heap}
variable {x:Str}
theorem ee.ok {qual:Str}{st:Stmt}{f:Addr}{fd:aa4}{N ps:List Str}{k:Nat}{sp:Sp}(F:ee K x qual st f fd)(S:aq N ps (ah st))(len:∀ vs H Q E,sp vs H Q E->vs.length=ps.length)
   (S7:∀ (S0:Value) (A:Around) (outer:List Env) (s:Shared) (H:Hp) (vs:List V) (Q:VK) (E:XK),bI k (A.deeper (envOfC qual (ah st) s.heap.objs.size f S0))->sp vs H Q E ->
     ∃ t,gj (bW cb P w K mg base N qual (ah st) f S0 A outer s H E).eV (aV st) t/\t { nx:=λ_ H'=>Q .aC H',rt:=Q } (start N vs) H):c7 P w K mg base cb (k+1) f fd ps sp:=by
 obtain⟨oc,od,kV,S8,pm,an,S0,ct,Ts,rfl,lk,Ua⟩:=F.ex;refine qx lk Ua S len λA outer s H vs Q E hr UQ=>?_;obtain⟨t,h,q⟩:=S7 S0 A outer s H vs Q E hr UQ;exact⟨t,h.eV,q⟩
theorem ee.binds {qual:Str}{st:Stmt}{f:Addr}{fd:aa4}{ps:List Str}(F:ee K x qual st f fd)
   (h:∀ (kV S8 pm:Value) (an:Option Addr) (S0 ct:Value) (us:List Value),us.length=ps.length->abW (W.fnOf x qual (a_ st) (aV st) (ah st) .none kV S8 pm an S0 ct) ⟨us,[]⟩=pure (ps.zip us)):Binds K fd ps []:=by
 obtain⟨oc,od,kV,S8,pm,an,S0,ct,Ts,rfl,lk,Ua⟩:=F.ex;exact .all (h kV S8 pm an S0 ct)
theorem gQ {qual:Str}{st:Stmt}{f:Addr}{oc:Value}{od an:Option Addr}{Ts:Array (Option Value)}{kV S8 pm S0 ct:Value}(l:K.lookup f=some ⟨oc,od,.func (W.fnOf x qual (a_ st) (aV st) (ah st) .none kV S8 pm an S0 ct),Ts⟩)
   (c:abR K S0 qual=true) (k:abi K (.ref f)=true):ee K x qual st f (W.fnOf x qual (a_ st) (aV st) (ah st) .none kV S8 pm an S0 ct):=⟨⟨oc,od,kV,S8,pm,an,S0,ct,Ts,rfl,l,c⟩,k⟩
end
theorem i_ (hr:bI k A):A.units+1<cLine:=aaG (Nat.add_le_add_left (by decide : 1<=64) _) hr.units
section
variable {X:Cx}
variable {x:Str}
theorem pv (i : Nat)(hN : X.N[i]? = some x := by rfl)(hv : OU X.env.scope x := by first | exact Or.inl rfl | exact Or.inr (Or.inl rfl) | exact Or.inr (Or.inr rfl))(hd : (x == ("__debug__" : Str)) = false := by decide)
   (Ua:(x == ("__classdict__" : Str))=false:=by decide):PE X (.Name x pos) (aA i):=FY hN hv hd Ua
theorem E9:cX X (.builtin "len") (λxs H Q=>∃ a kvs,xs=[V.ref a]/\H a=some (.dK kvs)/\Q (.int kvs.length) H):=by
 intro gV s Z H xs us Q I r h;obtain⟨a,kvs,rfl,ha,q⟩:=h;obtain⟨u,rfl,ru⟩:=vals1 r;cases ru
 exact P9 I (.inl ha) λt s' I'=>⟨.int kvs.length,H,I',⟨t,rfl⟩,q⟩
end
theorem Rk {A B:Prop}(h:B):if false=true then A else B:=by
 rw[if_neg aap];exact h
theorem Q7 {A B:Prop}(h:A):if true=true then A else B:=by
 rw[if_pos rfl];exact h
def ao (H H':Hp):Prop:=∀ b o,H b=some o->H' b=some o
theorem ao.refl (H:Hp):ao H H:=λ_ _ h=>h
theorem ao.trans (a:ao H H1)(b:ao H1 H2):ao H H2:=λc o h=>b c o (a c o h)
theorem ao.seq {K:W.Frag}{H H':Hp}{a:Addr}{xs:List V}(e:ao H H')(h:ar K H a xs):ar K H' a xs:=by
 rcases h with (h | ⟨o,h⟩) | h
 . exact .inl (.inl (e _ _ h))
 . exact .inl (.inr ⟨o,e _ _ h⟩)
 . exact .inr h
end L2
namespace Bt
theorem MH (a b:Nat)(h:a &&& b=0):a+b=a ||| b:=by
 have ha:a<2 ^ (a+b+1):=aaC adK (acG (by decide) (by omega));have hb:b<2 ^ (a+b+1):=aaC adK (acG (by decide) (by omega));have hab:a+b<2 ^ (a+b+1):=aaC adK (acG (by decide) (by omega));have e:=BitVec.add_eq_or_of_and_eq_zero (BitVec.ofNat (a+b+1) a) (BitVec.ofNat (a+b+1) b) (by
   apply BitVec.eq_of_toNat_eq;rw[BitVec.toNat_and,acM,acM,acD ha,acD hb,h]
   simp)
 have e2:=congrArg BitVec.toNat e;rw[BitVec.toNat_or,BitVec.toNat_add,acM,acM,acD ha,acD hb,acD hab] at e2;exact e2
def wo (s p:Nat):Nat:=s - (s &&& p)
theorem Qr (s p:Nat):wo s p=s ^^^ (s &&& p):=by
 unfold wo;have h:(s ^^^ (s &&& p))+(s &&& p)=s:=by
   have e:(s ^^^ (s &&& p)) &&& (s &&& p)=0:=by
     apply abp;intro i;simp only[aaT,Nat.testBit_xor,acC];cases s.testBit i <;> cases p.testBit i <;> rfl
   rw[MH _ _ e];apply abp;intro i;simp only[adD,aaT,Nat.testBit_xor];cases s.testBit i <;> cases p.testBit i <;> rfl
 omega
theorem jI (s p i:Nat):(wo s p).testBit i=(s.testBit i && !p.testBit i):=by
 rw[Qr];simp only[aaT,Nat.testBit_xor];cases s.testBit i <;> cases p.testBit i <;> rfl
end Bt
namespace L3
open PySem PySem.Spec PyProof.Rows L2
abbrev St:=L2.St
def gi (its:List Value):Obj:={ cls:=.type "list",data:=.seq its.toArray its.length }
theorem Gh (its:List Value)(y:Value):({ cls:=.type "list",data:=.seq (its.toArray.push y) (its.length+1) }:Obj)=gi (its++[y]):=by
 show({ cls:=.type "list",data:=.seq (its.toArray.push y) (its.length+1) }:Obj)={ cls:=.type "list",data:=.seq (its++[y]).toArray (its++[y]).length }
 rw[aab,aaF,List.push_toArray]
section
variable {prog:Program} {w:World} {A:Around} {R:Result->Shared->Prop} {s:Shared}
theorem Ca (I:Nat->Shared->Prop)
   (Vg : ∀ n s, I n s -> wpAny (model prog w) A (pyNext it) (λr s1 => match r with
     | none=>R (.ok .next) s1
     | some v=>wpAny (model prog w) A (adH Uo it v) (λ_ s2=>wpAny (model prog w) A (assign Uo env v) (λ_ s3 =>
         wpAny (model prog w) A (forIn Vs true λc r=>if r=true then do let ok <- isTrue c env (eval c env);pure (acy ok) else pure (acy r)) (λok s4 =>
           if ok=true then wpAny (model prog w) A (eval V1 env) (λx s5 =>
             wpAny (model prog w) A (call (.builtin "list.append") [TK,x]) (λ_ s6=>∃ m,m<n/\I m s6) (notedBy (model prog w) A env λe s'=>R (.error e) s') s5) (notedBy (model prog w) A env λe s'=>R (.error e) s') s4
           else ∃ m,m<n/\I m s4) (notedBy (model prog w) A env λe s'=>R (.error e) s') s3) (notedBy (model prog w) A env λe s'=>R (.error e) s') s2)
         (notedBy (model prog w) A env λe s'=>R (.error e) s') s1) (notedBy (model prog w) A env λe s'=>R (.error e) s') s)
   (n:Nat) (h:I n s) :
   codeAny (model prog w) A (.compLoop (.ListComp V1 [⟨Uo,iter,Vs,0⟩] scope pos) 0 it TK env) R s:=by
 refine codeAny_loop rfl I (λn s hI=>?_) n h;show wpAny _ A ((compTurn (.ListComp V1 [⟨Uo,iter,Vs,0⟩] scope pos) 0 it TK env).onRaise (λx=>do noteFrame x env;theTreesLotGoes x)) _ _ s;refine wpAny_noted ?_;rw[compTurn_list];refine aad (acr (aad (aaI (Vg n s hI) (λr s1 h1=>?_) λ_ _ h'=>h')));cases r with
 | none=>exact aaj h1
 | some v =>
   refine aad (aaI h1 (λ_ s2 h2=>?_) λ_ _ h'=>h');refine aad (aaI h2 (λ_ s3 h3=>aad (aaI h3 (λok s4 h4=>?_) λ_ _ h'=>h')) λ_ _ h'=>h');cases ok with
   | false=>exact aaj ⟨rfl,h4⟩
   | true =>
     exact aad (aad (aaI h4 (λx s5 h5=>aad (aaI h5 (λ_ s6 h6=>aaj (aaj ⟨rfl,h6⟩)) λ_ _ h'=>h')) λ_ _ h'=>h'))
end
def cw (X:Cx)(scope:Scope)(cl:List (Str×Addr))(own:List Str)(fr:List (Str×Nat))(C:Addr)(s2:Shared)(H2:Hp)(fp:List Addr):Cx :=
 { prog:=X.prog,w:=X.w,K:=X.K,mg:=X.mg,base:=X.base,A:=X.A,N:=own++fr.map (·.1),s₀:=s2,H₀:=H2,env:=compEnvC scope cl C X.env,outer:=X.stack,stack:=X.stack,
   ex:=fp,fn:=λ_=>false,calm:=X.calm,pn:=[],xe:=λ_ _=>False }
def mq (own:List Str)(fr:List (Str×Nat))(Z : St):St:=own.map (λ_=>none)++fr.map λp=>(Z[p.2]?).join
def As (env:Env):List (Str×Addr)->Prop
 | []=>True
 | (n,c)::r=>env.cells.lookup n=some c/\As env r
theorem As.get:∀ {cl:List (Str×Addr)} {x:Str} {c:Addr},As env cl->cl.lookup x=some c->env.cells.lookup x=some c
 | [],_,_,_,h=>by simp at h
 | (n, d) :: r, x, c, ok, h => by
   rw[abf] at h;cases e:x == n with
   | true =>
     rw[e] at h;have e':x=n:=by simpa using e
     cases h
     rw[e'];exact ok.1
   | false =>
     rw[e] at h;exact As.get ok.2 h
def yW (sc:Scope)(x:Str):Prop:=sc.names.lookup x=some .cell∨sc.names.lookup x=some .free
def Ao (X:Cx)(scope:Scope)(cl:List (Str×Addr)):List (Str×Nat)->Prop
 | []=>True
 | (x,j)::r=>(X.N[j]? = some x/\yW X.env.scope x/\yW (relabel scope X.env) x/\(cl.lookup x).isSome=true)/\Ao X scope cl r
variable {scope:Scope} {X:Cx}
theorem Ao.get:∀ {fr:List (Str×Nat)} {i:Nat} {p:Str×Nat},Ao X scope cl fr->fr[i]? = some p ->
   X.N[p.2]? = some p.1/\yW X.env.scope p.1/\yW (relabel scope X.env) p.1/\(cl.lookup p.1).isSome=true
 | [],_,_,_,h=>by simp at h
 | (x, j) :: r, 0, p, ok, h => by
   simp at h;subst h;exact ok.1
 | (x,j)::r,i+1,p,ok,h=>Ao.get (i:=i) ok.2 (by simpa using h)
structure AD (X:Cx)(scope:Scope)(cl:List (Str×Addr))(own:List Str)(fr:List (Str×Nat)):Prop where
 O5:closureFor scope X.env=pure cl
 cells:As X.env cl
 cU:Ao X scope cl fr
 kind:scope.kind=.function
 E4:∀ y∈scope.names,y.2≠.cell
 names:∀ y∈scope.names,y.2=.local->scope.names.lookup y.1=some .local
 has:(scope.names.all λy=>y.2 != .free || (cl.lookup y.1).isSome)=true
theorem iL {env:Env}{cl:List (Str×Addr)}:∀ {names:List (Str×NameKind)} {x:Str},(∀ y∈names,y.2≠.cell)->(names.all λy=>y.2 != .free || (cl.lookup y.1).isSome)=true ->
   ((names.map λ(n, k) => if (k == acQ && env.scope.kind == .function && env.kindOf n == some .cell) then (n, NameKind.cell) else (n, k)).lookup x = some .cell ∨
    (names.map λ(n,k)=>if (k == acQ && env.scope.kind == .function && env.kindOf n == some .cell) then (n,NameKind.cell) else (n,k)).lookup x=some .free)->∃ c,cl.lookup x=some c
 | [],_,_,_,h=>by rcases h with h | h <;> simp at h
 | (n, k) :: r, x, nc, ha, h => by
   rw[acF,aaN] at ha;have ih:=@iL env cl r x (λy hy=>nc y (abc _ hy)) ha.2;have nk:k≠.cell:=nc (n,k) acb;have hk:=ha.1;cases hx:x == n with
   | true =>
     have ex:x=n:=by simpa using hx
     subst ex;by_cases hf:k=.free
     . subst hf;have z:(cl.lookup x).isSome=true:=by simpa using hk
       exact Option.isSome_iff_exists.mp z
     . exfalso
       have hb:(k == acQ)=false:=by simpa using hf
       rcases h with h | h
       . rw[aaR] at h;simp only[hb,Bool.false_and,acd,if_false,abf,beq_self_eq_true] at h;exact nk (aax h)
       . rw[aaR] at h;simp only[hb,Bool.false_and,acd,if_false,abf,beq_self_eq_true] at h;exact hf (aax h)
   | false =>
     refine ih ?_;rcases h with h | h
     . left
       rw[aaR] at h;by_cases hc:(k == acQ && env.scope.kind == .function && env.kindOf n == some .cell)=true
       . simp only[hc,if_true,abf,hx] at h;exact h
       . simp only[hc,acd,if_false,abf,hx] at h;exact h
     . right
       rw[aaR] at h;by_cases hc:(k == acQ && env.scope.kind == .function && env.kindOf n == some .cell)=true
       . simp only[hc,if_true,abf,hx] at h;exact h
       . simp only[hc,acd,if_false,abf,hx] at h;exact h
def Hf (Y:Cx)(Vs:List Expr)(t:TT):Prop :=
 ∀ (gV:List (Addr×Obj)) (s:Shared) (Z : St) (H:Hp) (Q:Bool->Hp->Prop),Inv Y gV Z H s->t Z H Q ->
   wpAny (model Y.prog Y.w) Y.A (forIn Vs true λc r=>if r=true then do let ok <- isTrue c Y.env (eval c Y.env);pure (acy ok) else pure (acy r)) (TP Y gV Z Q) Y.xe s
@[reducible] def y7:TT:=λ_ H Q=>Q true H
theorem c9:Hf Y [] y7:=λ_ _ _ H _ I h=>wpAny_tests_nil ⟨H,I,h⟩
theorem wM (h:PT Y c t):Hf Y [c] t:=λgV s Z H Q I hw=>wpAny_tests_one (h gV s Z H Q I hw)
def DY (own:List Str)(fr:List (Str×Nat))(wi:TI)(g:TG)(tc:TT)(te:TE)(Ta:List V->Hp->Prop):St->Hp->Prop:=λZ H=>wi Z H λJ H1 =>
 ∃ W:Nat->Nat->List V->St->Hp->Prop,(∃ m,W 0 m [] (mq own fr Z) H1)/\∀ i m ys Z' H',W i m ys Z' H' ->
   (J.stop i H'/\ys.length<=aal/\Ta ys H') ∨
   (J.go i H'/\∃ N:List V->St->Hp->Prop,(∀ Vm Z2 H2,N Vm Z2 H2->Vm.length<=aal/\∃ m',m'<m/\W (i+1) m' Vm Z2 H2) /\
     ∀ x H2,J.sq i H' x H2->g x Z' H2 λZ3 H3=>tc Z3 H3 λb H4=>if b=true then te Z3 H4 λy H5=>N (ys++[y]) Z3 H5 else N ys Z3 H4)
structure Off (X:Cx)(gV:List (Addr×Obj))(H:Hp)(C:Addr):Prop where
 none:H C=none
 loc:C≠X.env.locals
 above:X.s₀.heap.objs.size<=C
 cell:∀ x c,X.env.cells.lookup x=some c->c≠C
 pin:∀ p∈X.pn++gV,p.1≠C
section
variable {X:Cx} {tg V1 iter:Expr} {Vs:List Expr} {scope:Scope} {cl:List (Str×Addr)} {own:List Str} {fr:List (Str×Nat)} {wi:TI} {g:TG} {tc:TT} {te:TE} {pos:Pos}
theorem x_ (hc:X.calm=true)(S:AD X scope cl own fr)(hi:PI X tg iter wi)(hg:∀ C s2 H2 fp,PG (cw X scope cl own fr C s2 H2 fp) tg g)
   (ht:∀ C s2 H2 fp,Hf (cw X scope cl own fr C s2 H2 fp) Vs tc) (he:∀ C s2 H2 fp,PE (cw X scope cl own fr C s2 H2 fp) V1 te)
   {gV:List (Addr×Obj)} {s:Shared} {Z : St} {H:Hp} {Ta:List V->Hp->Prop} (I:Inv X gV Z H s) (h:DY own fr wi g tc te Ta Z H)
   {RR:Value->Addr->Result->Shared->Prop}
   (hR:∀ (D C:Addr) (s4:Shared) (H3:Hp) (ys:List V) (m:Str->Option Value),H3 D=none->Inv X gV Z (upd H3 D (.lst ys)) s4->s4.heap.Ns C m->Off X gV (upd H3 D (.lst ys)) C->Ta ys H3->RR (.ref D) C (.ok .next) s4) :
   wpAny (model X.prog X.w) X.A (eval iter X.env) (λx s1=>wpAny (model X.prog X.w) X.A (pyIter x) (λitv s2=>wpAny (model X.prog X.w) X.A (newList []) (λTK s3 =>
     wpAny (model X.prog X.w) X.A (newFunctionEnv scope X.env.globals cl [] X.env.qual none .none (some X.env)) (λcenv s4 =>
       codeAny (model X.prog X.w) X.A (.compStart (.ListComp V1 [⟨tg,iter,Vs,0⟩] scope pos) 0 itv TK { cenv with scope:=relabel scope X.env }) (RR TK cenv.locals) s4) X.xe s3) X.xe s2) X.xe s1) X.xe s:=by
 refine aS (hi gV s Z H _ I h) λv s1 h1=>aS h1 λitv s2 h2=>?_;obtain⟨it,fp,tn,J,H2,rfl,I2,T,W8,f2,W,⟨m0,w0⟩,Vg⟩:=h2;refine abw (wpAny_newFunctionEnv S.E4 (by intro y hy;simp at hy) (λh1 hns1 hsb1=>?_) S.kind);dsimp only at hns1 hsb1 ⊢;generalize hHP:s2.heap.push { cls:=.type "list",dict:=none,data:=.seq ([]:List Value).toArray }=HP at hns1 hsb1 ⊢;have hC:HP.objs.size=s2.heap.objs.size+1:=by rw[<- hHP,abP]
 have hDC:s2.heap.objs.size≠HP.objs.size:=by rw[hC];exact aaw (acE _)
 have below:∀ b,b<s2.heap.objs.size->b≠HP.objs.size/\b≠s2.heap.objs.size:=λb hb=>⟨by rw[hC];exact aaw (acs hb),aaw hb⟩;have U8:∀ b o,s2.heap.get? b=some o->h1.get? b=some o:=λb o e=>hsb1.extBut b o (below b (aam e)).1 (aaf _ (hHP ▸ aaf _ e));have T3:h1.get? s2.heap.objs.size=some (gi []):=hsb1.extBut _ _ hDC (aaf _ (hHP ▸ aat _ rfl));have hfpo:∀ b∈fp,b<s2.heap.objs.size:=λb hb=>by obtain⟨o,e,_⟩:=T.obj 0 _ W8 b hb;exact aam e
 have Tz:∀ x c,cl.lookup x=some c->X.env.cells.lookup x=some c:=λx c e=>S.cells.get e;have hcD:∀ x c,X.env.cells.lookup x=some c->c<s2.heap.objs.size:=λx c e=>by obtain⟨v,q⟩:=I2.cell x c e;exact q.lt
 have st1:tn 0 h1:=T.keep _ _ _ W8 λb _ o e=>U8 b o e;have hDfree:H2 s2.heap.objs.size=none:=I2.az.fresh (aag _);have hCfree:H2 HP.objs.size=none:=I2.az.fresh (by rw[hC];exact abm _);have nostk:∀ b,s2.heap.objs.size<=b->b ∉ L2.cU X.stack:=λb hb hm=>by
   rcases List.mem_cons.mp (I2.p8 b hm) with e | e
   . exact absurd I2.lt (by rw[<- e];exact Nat.not_lt.mpr hb)
   . exact I2.OA hb e
 have hDlt:s2.heap.objs.size<h1.objs.size:=aam T3
 -- the block's context
 have YOk:(cw X scope cl own fr HP.objs.size s2 H2 fp).Ok:=by
   refine ⟨I2.ok.mod,S.kind,I2.ok.glob,I2.ok.blt,?_,λx y c e1 e2=>I2.ok.inj x y c (Tz _ _ e1) (Tz _ _ e2),λx hx=>?_,λx c hf=>?_,I2.ok.hd,I2.ok.frames,.inl rfl,λb hb=>⟨?_,λx c e=>?_⟩,
     I2.bs,aaL I2.ok.rl I2.sz,λb o e hb=>?_,λb hb hm=>?_,I2.stack,I2.lN⟩
   . show s2.heap.objs.size <= HP.objs.size;rw[hC];exact abm _
   . exact iL (env:=X.env) S.E4 S.has hx
   . cases hf
   . exact(below b (hfpo b hb)).1
   . exact(f2 b hb).2.2.2.2.1 x c (Tz _ _ e)
   . rcases(f2 b hb).2.2.2.1 with z | z
     . exact I2.ok.tW b o e z
     . exact absurd (aam (I2.ok.bs b o e).1) (Nat.not_lt.mpr z)
   . rcases List.mem_cons.mp (I2.p8 b hm) with e | e
     . exact(f2 b hb).2.1 e
     . exact(f2 b hb).2.2.1 e
 have hpinD : ∀ {h' : Heap} {its : List Value} {H' : Hp}, h'.get? s2.heap.objs.size = some (gi its) -> H' s2.heap.objs.size = none -> ∀ p ∈ ([(s2.heap.objs.size, gi its)] : List (Addr × Obj)),
     h'.get? p.1=some p.2/\H' p.1=none/\p.1≠HP.objs.size/\p.1 ∉ L2.cU X.stack/\∀ v,p.2.data≠.cell v:=λ{h' its H'} e n p hp=>by
   have e1:p=(s2.heap.objs.size,gi its):=by simpa using hp
   subst e1;exact⟨e,n,hDC,nostk _ (aag _),λv z=>by cases z⟩
 have IY:Inv (cw X scope cl own fr HP.objs.size s2 H2 fp) [(s2.heap.objs.size,gi [])] (mq own fr Z) H2 { s2 with heap:=h1,toks:=s2.toks+([]:List (Str×Value)).length }:=by
   refine⟨YOk,rfl,I2.bare,Un.kept U8,⟨_,hns1,λi x v e1 e2 e3=>?_⟩,λx c e=>?_,hCfree,λx c e=>I2.fO x c (Tz _ _ e),hpinD T3 hDfree,I2.az.kept U8,?_⟩
   . have W5 : (own ++ fr.map (·.1))[i]? = some x := e1;have e2':(own.map (λ_=>(none:Option V))++fr.map λp=>(Z[p.2]?).join)[i]? = some (some v):=e2;by_cases UH:i<own.length
     . rw[aas (by simpa using UH), aah] at e2';rw[aaa UH] at e2';cases e2'
     . rw[aaq (by simpa using UH), aah] at e2';rw[aaq (Nat.not_lt.mp UH),aah] at W5;rw[aac] at e2';cases ef:fr[i - own.length]? with
       | none=>rw[ef] at W5;cases W5
       | some p =>
         rw[ef] at W5 e2';have ex:p.1=x:=aax W5;have ev:(Z[p.2]?).join=some v:=aax e2';obtain⟨hN,hk,UA,hs⟩:=S.cU.get ef;have eZ : Z[p.2]? = some (some v):=by
           cases q : Z[p.2]? with
           | none=>rw[q] at ev;cases ev
           | some o=>rw[q] at ev;exact congrArg some ev
         obtain⟨m,hn,hl⟩:=I2.loc;obtain⟨u,r,l⟩:=hl p.2 p.1 v hN eZ (by rcases hk with k | k;exact .inr (.inl k);exact .inr (.inr k));subst ex;obtain⟨c,ec⟩:=Option.isSome_iff_exists.mp hs;refine⟨u,r,.inr ⟨UA,c,ec,?_⟩⟩;rcases l with ⟨hl1,_⟩ | ⟨_,c',ec',z⟩
         . have hl1' : X.env.scope.names.lookup p.1 = some .local := hl1;rcases hk with z | z
           . rw[z] at hl1';cases hl1'
           . rw[z] at hl1';cases hl1'
         . have := Tz _ _ ec;rw[ec'] at this;cases this
           exact z.keeps U8
   . obtain⟨v, z⟩ := I2.cell x c (Tz _ _ e);exact⟨v,z.keeps U8⟩
   . show (own.map (λ_ => (none : Option V)) ++ fr.map λp => (Z[p.2]?).join).length = (own ++ fr.map (·.1)).length
     simp
 have Vi:∀ {its:List Value} {H':Hp},(∀ b∈fp,H' b=none)->∀ b∈fp,pZ (cw X scope cl own fr HP.objs.size s2 H2 fp) [(s2.heap.objs.size,gi its)] H' b:=λ{its H'} hn b hb =>
   ⟨hn b hb,(below b (hfpo b hb)).1,λhm=>by
       rcases List.mem_cons.mp (I2.p8 b hm) with e | e
       . exact(f2 b hb).2.1 e
       . exact(f2 b hb).2.2.1 e,.inl hb,λx c e=>(f2 b hb).2.2.2.2.1 x c (Tz _ _ e),λp hp=>by
       have e1:p=(s2.heap.objs.size,gi its):=by
         have hp':p∈([]:List (Addr×Obj))++[(s2.heap.objs.size,gi its)]:=hp
         simpa using hp'
       subst e1;exact(below b (hfpo b hb)).2.symm⟩
 have loop : ∀ s3 : Shared, s3 = { s2 with heap := h1, toks := s2.toks + ([] : List (Str × Value)).length } ->
     codeAny (model X.prog X.w) X.A (.compLoop (.ListComp V1 [⟨tg,iter,Vs,0⟩] scope pos) 0 (.ref it) (.ref s2.heap.objs.size) (compEnvC scope cl HP.objs.size X.env)) (RR (.ref s2.heap.objs.size) HP.objs.size) s3:=by
   rintro s3 rfl
   refine Ca (λn s'=>∃ i ys its Z' H',Inv (cw X scope cl own fr HP.objs.size s2 H2 fp) [(s2.heap.objs.size,gi its)] Z' H' s'/\aM ys its/\tn i s'.heap/\(∀ b∈fp,H' b=none)/\W i n ys Z' H') ?_ m0
     ⟨0,[],[],mq own fr Z,H2,IY,.nil,st1,λb hb=>(f2 b hb).1,w0⟩
   rintro n s3 ⟨i,ys,its,Z3,H3,I3,rv,st3,fr3,w3⟩;rcases Vg i n ys Z3 H3 w3 with ⟨stop,hz,qn⟩ | ⟨go,N,hN,step⟩
   . refine aaI (T.done (cw X scope cl own fr HP.objs.size s2 H2 fp) rfl rfl rfl hc i _ s3 Z3 H3 (λ_ _=>False) I3 (Vi fr3) st3 stop) (λr s4 h4=>?_) λ_ _ f=>f.elim;obtain⟨hr,I4⟩:=h4;subst hr;obtain⟨eD,nD,_⟩:=I4.pin (s2.heap.objs.size,gi its) (by simp[cw]);obtain⟨m,hn,_⟩:=id I4.loc;have nC:H3 HP.objs.size=none:=I4.free;have bu:=I4.base;have J4:Inv X gV Z (upd H3 s2.heap.objs.size (.lst ys)) s4:=by
       refine I2.vc (ch:=fp) I4.os ⟨λb o e n hb hx=>bu.keep b o e n hb hx,λb o e n hb hx=>bu.slot b o e n hb hx,λb o e n hx=>?_,λb o e hx=>bu.there b o e hx,λb xs e=>?_,λb o u e=>?_,λb ps e=>?_⟩ ?_ I4.bare ?_
       . rw[ak (below b (aam e)).2];exact bu.free b o e n hx
       . have z := bu.j6 b xs e;rw[ak (ag z nD)];exact z
       . have z := bu.iS b o u e;rw[ak (ag z nD)];exact z
       . obtain⟨Wf, z⟩ := bu.jB b ps e;exact⟨Wf,by rw[ak (ag z nD)];exact z⟩
       . intro b o e;by_cases hb:b=s2.heap.objs.size
         . subst hb;rw[aa] at e;cases e
           exact⟨hz,its,its.length,rv,eD⟩
         . rw[ak hb] at e;exact(I4.az b o e).iR (λc u _ q=>q) (λc q=>by rw[ak (ag q nD)];exact q) λc xs q=>by rw[ak (ag q nD)];exact q
       . intro b hb;exact⟨(f2 b hb).2.2.2.1,(f2 b hb).2.1,(f2 b hb).2.2.2.2.1,(f2 b hb).2.2.2.2.2⟩
     refine hR _ _ s4 H3 ys m nD J4 hn ⟨?_,?_,?_,?_,?_⟩ qn
     . rw[ak hDC.symm];exact nC
     . exact abU (aaC I2.lt (by rw[hC];exact abm _))
     . exact aaL I2.sz (by rw[hC];exact abm _)
     . exact λx c e=>(below c (hcD x c e)).1
     . exact λp hp=>(below p.1 (aam (I2.pin p hp).1)).1
   . refine aaI (T.item (cw X scope cl own fr HP.objs.size s2 H2 fp) rfl rfl rfl hc i _ s3 Z3 H3 (λ_ _=>False) I3 (Vi fr3) st3 go) (λr s4 h4=>?_) λ_ _ f=>f.elim;obtain⟨u,hr,h4⟩:=h4;subst hr;refine aaI h4 (λ_ s5 h5=>?_) λ_ _ f=>f.elim;obtain⟨x,H5,I5,r5,y5,st5,fr5⟩:=h5;have I5':=I5.pinned (Vi fr5) (T.obj _ _ st5);refine aaI (hg _ _ _ _ _ s5 Z3 H5 x u _ I5' r5 (step x H5 y5)) (λ_ s6 h6=>?_) λ_ _ f=>f.elim;obtain⟨Z6,H6,I6,q6⟩:=h6;refine aaI (ht _ _ _ _ _ s6 Z6 H6 _ I6 q6) (λok s7 h7=>?_) λ_ _ f=>f.elim;obtain⟨H7,I7,q7⟩:=h7;have Wx:∀ {Z8:St} {H8:Hp} {s8:Shared} {l:List (Addr×Obj)},Inv (cw X scope cl own fr HP.objs.size s2 H2 fp) (l++iB fp s5.heap) Z8 H8 s8->tn (i+1) s8.heap/\∀ b∈fp,H8 b=none:=λ{Z8 H8 s8 l} I8=>by
       refine⟨T.keep _ _ _ st5 λb hb o e=>(I8.pin (b,o) (aay _ (aay _ (jb hb e)))).1,λb hb=>?_⟩;obtain⟨o,e,_⟩:=T.obj _ _ st5 b hb;exact(I8.pin (b,o) (aay _ (aay _ (jb hb e)))).2.1
     cases ok with
     | false =>
       rw[if_neg aap] at q7 ⊢;obtain⟨_,m',hm,w7⟩:=hN _ _ _ q7;exact⟨m',hm,i+1,ys,its,Z6,H7,I7.mU,rv,(Wx I7).1,(Wx I7).2,w7⟩
     | true =>
       rw[if_pos rfl] at q7 ⊢;refine aaI (he _ _ _ _ _ s7 Z6 H7 _ I7 q7) (λy s8 h8=>?_) λ_ _ f=>f.elim;obtain⟨yv,H8,I8,r8,n8⟩:=h8;obtain⟨hlt',m',hm,w8⟩:=hN _ _ _ n8;have S9:ys.length<aal:=by rw[aab] at hlt';exact hlt'
       obtain⟨eD,nD,nL,_,_⟩:=I8.pin (s2.heap.objs.size,gi its) (by simp[cw]);refine append_at (its:=its.toArray) (n:=its.length) (hsz:=by rw[aao,<- rv.length];exact adp S9) eD λh9 sb9 eD9=>?_;have I8p:Inv (cw X scope cl own fr HP.objs.size s2 H2 fp) (iB fp s5.heap) Z6 H8 s8:=I8.qL λp hp=>I8.pin p (aay _ (aay _ hp));have I9p:Inv (cw X scope cl own fr HP.objs.size s2 H2 fp) (iB fp s5.heap) Z6 H8 { s8 with heap:=h9 } :=
         I8p.turned (t':=s8.toks) (λb o hb e=>(sb9.2 b hb).trans e) nD nL (.inr (aag _)) (λx c e=>(below c (hcD x c (Tz _ _ e))).2) λp hp=>by
           have hp':p∈iB fp s5.heap:=by simpa [cw] using hp
           exact(below p.1 (hfpo _ (xy hp').1)).2
       have eD9':h9.get? s2.heap.objs.size=some (gi (its++[y])):=eD9.trans (congrArg some (Gh its y));have I9:Inv (cw X scope cl own fr HP.objs.size s2 H2 fp) [(s2.heap.objs.size,gi (its++[y]))] Z6 H8 { s8 with heap:=h9 }:=I9p.qL (hpinD eD9' nD);have K9:=Wx (l:=[]) (by simpa using I9p);exact⟨m',hm,i+1,ys++[yv],its++[y],Z6,H8,I9,rv.append (.cons r8 .nil),K9.1,K9.2,w8⟩
 exact codeAny_compStart_list (loop _ rfl) (T.self _ 0 _ _ _ st1 (loop _ rfl))
def GN (own:List Str)(fr:List (Str×Nat))(wi:TI)(g:TG)(tc:TT)(te:TE):TE:=λZ H Q=>DY own fr wi g tc te (λys H3=>∀ p,H3 p=none->Q (.ref p) (upd H3 p (.lst ys))) Z H
theorem fz (hc:X.calm=true)(S:AD X scope cl own fr)(hi:PI X tg iter wi)(hg:∀ C s2 H2 fp,PG (cw X scope cl own fr C s2 H2 fp) tg g)
   (ht:∀ C s2 H2 fp,Hf (cw X scope cl own fr C s2 H2 fp) Vs tc) (he:∀ C s2 H2 fp,PE (cw X scope cl own fr C s2 H2 fp) V1 te)
   (hs:∀ x,foldedSetIterable iter X.env x=pure x:=by intro _;rfl):PE X (.ListComp V1 [⟨tg,iter,Vs,0⟩] scope pos) (GN own fr wi g tc te):=by
 intro gV s Z H Q I h;rw[eval_ListComp];refine wpAny_comprehension_free (use:=none) rfl hs S.O5 S.kind S.names ?_;refine x_ hc S hi hg ht he I h λD C s4 H3 ys m nD J hn off q=>?_;refine⟨m,hn,λh' sb=>⟨.ref D,_,J.turned (t':=s4.toks) (λb o hb e=>(sb.2 b hb).trans e) off.none off.loc (.inr off.above) off.cell off.pin,rfl,q D nD⟩⟩
def vo (i:Nat)(own:List Str)(fr:List (Str×Nat))(wi:TI)(g:TG)(tc:TT)(te:TE):TS:=λD Z H=>DY own fr wi g tc te (λys H3=>∀ p,H3 p=none->bg i (.ref p) Z (upd H3 p (.lst ys)) D.nx) Z H
theorem fu (hN:X.N.Nodup)(UH:X.N[i]? = some y)(hx:X.env.scope.names.lookup y=some .local)(hc:X.calm=true)(S:AD X scope cl own fr)(hi:PI X tg iter wi)(hg:∀ C s2 H2 fp,PG (cw X scope cl own fr C s2 H2 fp) tg g)
   (ht:∀ C s2 H2 fp,Hf (cw X scope cl own fr C s2 H2 fp) Vs tc) (he:∀ C s2 H2 fp,PE (cw X scope cl own fr C s2 H2 fp) V1 te)
   (hsw:acU (.ListComp V1 [⟨tg,iter,Vs,0⟩] scope pos) (some (.Name y py)) spos.line X.env=pure true:=by rfl)
   (hs:∀ x,foldedSetIterable iter X.env x=pure x:=by intro _;rfl):PS X (.Assign [.Name y py] (.ListComp V1 [⟨tg,iter,Vs,0⟩] scope pos) spos) (vo i own fr wi g tc te):=by
 intro gV s Z H D I h;rw[exec_Assign_Name_used _ _ _ _ hsw];refine aad (acr (aad ?_));show wpAny _ X.A (do let _ <- comprehension (.ListComp V1 [⟨tg,iter,Vs,0⟩] scope pos) scope X.env _ (newList []) false (eval iter X.env) (some (assign (.Name y py) X.env))) _ _ s;refine aad (aaI (wpAny_comprehension_free (use:=some (assign (.Name y py) X.env)) (Q:=λ_ s'=>SP X gV D .next s') rfl hs S.O5 S.kind S.names ?_) (λ_ s' hq=>aaj (aaj hq)) λ_ _ e=>e);refine x_ hc S hi hg ht he I h λDa C s4 H3 ys m nD J hn off q=>?_;show wpAny _ X.A (assign (.Name y py) X.env (.ref Da)) _ _ _;refine wpAny_assign_Name (xY J hN UH (.inl hx) (v:=.ref Da) rfl (λs5 I5 VT=>?_) (.inr hx));obtain⟨a,sb,ha⟩:=VT;have nCa:C≠a:=by
   rcases ha with z | z
   . rw[z];exact off.loc
   . exact(off.cell _ _ z).symm
 refine⟨m,hn.sameBut sb nCa,λh' sb'=>⟨_,_,I5.turned (t':=s5.toks) (λb o hb e=>(sb'.2 b hb).trans e) off.none off.loc (.inr off.above) off.cell off.pin,(qG _ _ _ _).1 (q Da nD)⟩⟩
end
section
variable {K:W.Frag} {a:Addr} {xs:List V} {own:List Str} {fr:List (Str×Nat)} {g:TG} {tc:TT} {te:TE} {Ta:List V->Hp->Prop} {Z : St} {H:Hp}
def iA (J:It)(g:TG)(tc:TT)(te:TE)(Ta:List V->Hp->Prop)(Z0:St)(H1:Hp):Prop :=
 ∃ W:Nat->Nat->List V->St->Hp->Prop,(∃ m,W 0 m [] Z0 H1)/\∀ i m ys Z' H',W i m ys Z' H' ->
   (J.stop i H'/\ys.length<=aal/\Ta ys H') ∨
   (J.go i H'/\∃ N:List V->St->Hp->Prop,(∀ Vm Z2 H2,N Vm Z2 H2->Vm.length<=aal/\∃ m',m'<m/\W (i+1) m' Vm Z2 H2) /\
     ∀ x H2,J.sq i H' x H2->g x Z' H2 λZ3 H3=>tc Z3 H3 λb H4=>if b=true then te Z3 H4 λy H5=>N (ys++[y]) Z3 H5 else N ys Z3 H4)
variable {Z0:St}
theorem fW (Pv:Nat->List V->St->Hp->Prop)(h0:Pv 0 [] Z0 H)(hl:∀ i ys Z H,i<=xs.length->Pv i ys Z H->ar K H a xs/\ys.length<=aal)
   (hs:∀ i x ys Z H,xs[i]? = some x->Pv i ys Z H->g x Z H λZ3 H3=>tc Z3 H3 λb H4=>if b=true then te Z3 H4 λy H5=>Pv (i+1) (ys++[y]) Z3 H5 else Pv (i+1) ys Z3 H4)
   (hd:∀ ys Z H,Pv xs.length ys Z H->Ta ys H):iA (xH K a) g tc te Ta Z0 H:=by
 refine⟨λi m ys Z H=>m=xs.length - i/\i<=xs.length/\Pv i ys Z H,⟨xs.length,by simp,aaU _,h0⟩,?_⟩;rintro i m ys Z H ⟨rfl,hi,p⟩;obtain⟨q,hz⟩:=hl i ys Z H hi p;by_cases S9:i<xs.length
 . refine .inr ⟨⟨xs, xs[i], q, by simp[S9]⟩, Pv (i + 1), λVm Z2 H2 p' => ⟨(hl (i + 1) Vm Z2 H2 S9 p').2, xs.length - (i + 1), by omega, rfl, S9, p'⟩, λx H2 y => ?_⟩;obtain⟨e,y⟩:=y;subst e;exact hs i x ys Z _ (y xs q) p
 . have e : i = xs.length := by omega
   subst e;exact .inl ⟨⟨xs,q,aag _⟩,hz,hd ys Z H p⟩
variable {n:Nat}
theorem eK {lo:Int}(Pv:Nat->List V->St->Hp->Prop)(h0:Pv 0 [] Z0 H)(hl:∀ i ys Z H,i<=n->Pv i ys Z H->ys.length<=aal)
   (hs:∀ i ys Z H,i<n->Pv i ys Z H->g (.int (lo+i)) Z H λZ3 H3=>tc Z3 H3 λb H4=>if b=true then te Z3 H4 λy H5=>Pv (i+1) (ys++[y]) Z3 H5 else Pv (i+1) ys Z3 H4)
   (hd:∀ ys Z H,Pv n ys Z H->Ta ys H):iA (oQ lo n) g tc te Ta Z0 H:=by
 refine⟨λi m ys Z H=>m=n - i/\i<=n/\Pv i ys Z H,⟨n,by simp,aaU _,h0⟩,?_⟩;rintro i m ys Z H ⟨rfl,hi,p⟩;by_cases S9:i<n
 . refine .inr ⟨S9, Pv (i + 1), λVm Z2 H2 p' => ⟨hl (i + 1) Vm Z2 H2 S9 p', n - (i + 1), by omega, rfl, S9, p'⟩, λx H2 y => ?_⟩;obtain⟨e,y⟩:=y;subst e y;exact hs i ys Z _ S9 p
 . have e : i = n := by omega
   subst e;exact .inl ⟨aag _,hl _ ys Z H hi p,hd ys Z H p⟩
end
open PySem PySem.Spec PyProof.Rows L2 PySem.SeqAt
variable {o:HO} {p q:Addr} {H:Hp}
theorem ai (hq:H q=some u)(hp:H p=none):upd H p o q=some u:=by
 rw[ak (ag hq hp)];exact hq
theorem cu (T6:q≠p)(hq:H q=u):upd H p o q=u:=by
 rw[ak T6];exact hq
theorem bw (h:upd H p o q=none):H q=none/\q≠p:=by
 by_cases e:q=p
 . subst e;rw[aa] at h;cases h
 . rw[ak e] at h;exact⟨h,e⟩
theorem ae (h:H p=none):ao H (upd H p o):=λb u q=>ai q h
variable {H1:Hp}
theorem bC (s:ao H H1)(h:H p=none):ao H (upd H1 p o):=λb u q=>by
 rw[ak (ag q h)];exact s b u q
variable {xs:List V} {H':Hp}
theorem cm {K:W.Frag}{a:Addr}(e:ao H H')(h:aI K H a xs):aI K H' a xs:=by
 rcases h with (h | ⟨o,h⟩) | h
 . exact .inl (.inl (e _ _ h))
 . exact .inl (.inr ⟨o,e _ _ h⟩)
 . exact .inr h
mutual
def Dp (K:W.Frag)(H:Hp):PyData->V->Prop
 | .none,v=>v=.aC
 | .bool b,v=>v=.bl b
 | .int i,v=>v=.int i
 | .str x,v=>v=.str x
 | .list ds,v=>∃ a xs,v=.ref a/\ar K H a xs/\eI K H ds xs
 | .tuple ds,v=>∃ a xs,v=.ref a/\aI K H a xs/\eI K H ds xs
 | .dict _,_=>False
def eI (K:W.Frag)(H:Hp):List PyData->List V->Prop
 | [],vs=>vs=[]
 | d::ds,vs=>∃ v r,vs=v::r/\Dp K H d v/\eI K H ds r
end
theorem cH {K:W.Frag}(i:Int):Dp K H (.int i) (.int i):=by rw[Dp]
theorem jJ {K:W.Frag}{a:Addr}{ds:List PyData}(h:ar K H a xs)(q:eI K H ds xs):Dp K H (.list ds) (.ref a):=by
 rw[Dp];exact⟨a,_,rfl,h,q⟩
theorem gv {K:W.Frag}{a:Addr}{ds:List PyData}(h:aI K H a xs)(q:eI K H ds xs):Dp K H (.tuple ds) (.ref a):=by
 rw[Dp];exact⟨a,_,rfl,h,q⟩
theorem cK {K:W.Frag}:eI K H [] []:=by rw[eI]
theorem aT {K:W.Frag}{d:PyData}{ds:List PyData}{v:V}{r:List V}(h:Dp K H d v)(q:eI K H ds r):eI K H (d::ds) (v::r):=by
 rw[eI];exact⟨_,_,rfl,h,q⟩
section
variable {X:Cx} {gV:List (Addr×Obj)} {Z : St} {H:Hp} {s:Shared}
mutual
theorem j9 (I:Inv X gV Z H s):∀ (d:PyData) (v:V) (u:Value),Dp X.K H d v->RelV v u->∃ as,Reads s.heap u d as
 | .none, v, u, h, r => by
   rw[Dp] at h;subst h;cases (show u=abq from r);exact⟨_,.none⟩
 | .bool b, v, u, h, r => by
   rw[Dp] at h;subst h;cases (show u=adh b from r);exact⟨_,.bool b⟩
 | .int i, v, u, h, r => by
   rw[Dp] at h;subst h;obtain⟨t,e⟩:=(show ∃ t,u=abt i t from r);subst e;exact⟨_,.int i t⟩
 | .str x, v, u, h, r => by
   rw[Dp] at h;subst h;obtain⟨t,e⟩:=(show ∃ t,u=adF x t from r);subst e;exact⟨_,.str x t⟩
 | .list ds, v, u, h, r => by
   rw[Dp] at h;obtain⟨a,xs,e,hq,ha⟩:=h;subst e;cases (show u=Td a from r)
   obtain⟨its,rv,pl,hz⟩:=I.list hq;obtain⟨o,ho,hc,n,hd⟩:=pl.isList;obtain⟨as,z⟩:=k_ I ds xs its ha rv;exact⟨_,.list ho hc hd (by simpa using z)⟩
 | .tuple ds, v, u, h, r => by
   rw[Dp] at h;obtain⟨a,xs,e,hq,ha⟩:=h;subst e;cases (show u=Td a from r)
   obtain⟨its,rv,pl,hz⟩:=I.tuple hq;obtain⟨o,ho,hc,n,hd⟩:=pl;obtain⟨as,z⟩:=k_ I ds xs its ha rv;exact⟨_,.tuple ho hc hd (by simpa using z)⟩
 | .dict _,v,u,h,r=>by rw[Dp] at h;exact h.elim
theorem k_ (I:Inv X gV Z H s):∀ (ds:List PyData) (vs:List V) (us:List Value),eI X.K H ds vs->aM vs us->∃ as,ReadsAll s.heap us ds as
 | [], vs, us, h, r => by
   rw[eI] at h;subst h;cases r;exact⟨_,.nil⟩
 | d :: ds, vs, us, h, r => by
   rw[eI] at h;obtain⟨v,rr,e,h1,h2⟩:=h;subst e;cases r with
   | cons r1 r2 =>
     obtain⟨as,z1⟩:=j9 I d _ _ h1 r1;obtain⟨bs,z2⟩:=k_ I ds _ _ h2 r2;exact⟨_,.cons z1 z2⟩
end
end
def Ny (K:W.Frag):R2:=λx y H Q=>∃ dx dy,Dp K H dx x/\Dp K H dy y/\shaped dx=true/\shaped dy=true/\Q (.bl (adN dx dy)) H
def NP (K:W.Frag):R2:=λx y H Q=>∃ dx dy,Dp K H dx x/\Dp K H dy y/\shaped dx=true/\shaped dy=true/\Q (.bl (!PyData.eqv dx dy)) H
def gJ (K:W.Frag):R2:=λx y H Q=>Q6 x y H Q∨Ny K x y H Q
def gm (K:W.Frag):R2:=λx y H Q=>Q0 x y H Q∨NP K x y H Q
section
variable {X:Cx}
theorem MB (hu:X.A.units+64<cLine):bR X (aaV .Eq) (Ny X.K):=by
 intro gV s Z H x y v u Q I rx ry h;obtain⟨dx,dy,hx,hy,sx,sy,q⟩:=h;obtain⟨as,ra⟩:=j9 I dx x v hx rx;obtain⟨bs,rb⟩:=j9 I dy y u hy ry;exact eq_dataH ra rb sx sy hu ⟨.bl _,H,I,rfl,q⟩
theorem Mw (hu:X.A.units+64<cLine):bR X (aaV .NotEq) (NP X.K):=by
 intro gV s Z H x y v u Q I rx ry h;obtain⟨dx,dy,hx,hy,sx,sy,q⟩:=h;obtain⟨as,ra⟩:=j9 I dx x v hx rx;obtain⟨bs,rb⟩:=j9 I dy y u hy ry;exact ne_dataH ra rb sx sy hu ⟨.bl _,H,I,rfl,q⟩
theorem OP (hu:X.A.units+64<cLine):bR X (aaV .Eq) (gJ X.K):=Qk.or (MB hu)
theorem Gr (hu:X.A.units+64<cLine):bR X (aaV .NotEq) (gm X.K):=PV.or (Mw hu)
end
theorem xu (d:PyData)(h:shaped d=true):d.canLay0=true:=(Bool.and_eq_true_iff.mp h).1
variable {Q:VK} {y:V}
theorem JY {K:W.Frag}{x:V}(h:Ej x y=true)(q:Q (.bl (decide (x=y))) H):gJ K x y H Q:=.inl ⟨h,q⟩
theorem Kn {K:W.Frag}{x:V}(h:Ej x y=true)(q:Q (.bl (!decide (x=y))) H):gm K x y H Q:=.inl ⟨h,q⟩
theorem JU {K:W.Frag}{x:V}(d:PyData)(hx:Dp K H d x)(hy:Dp K H d y)(hs:shaped d=true)(q:Q (.bl true) H):gJ K x y H Q :=
 .inr ⟨d,d,hx,hy,hs,hs,by rw[eqv_refl d (xu d hs)];exact q⟩
theorem Qi {K:W.Frag}{x:V}(d:PyData)(hx:Dp K H d x)(hy:Dp K H d y)(hs:shaped d=true)(q:Q (.bl false) H):gm K x y H Q :=
 .inr ⟨d,d,hx,hy,hs,hs,by rw[eqv_refl d (xu d hs)];exact q⟩
def qB:V->Value
 | .ty n=>.type n
 | .ref a=>.ref a
 | _=>.none
theorem Hz (r:RelV c u)(h:qB c≠.none):u=qB c:=by
 cases c <;> first | exact r | exact(h rfl).elim
def iU (K:W.Frag):List V->Hp->VK->Prop:=λxs H Q=>∃ x c t b,xs=[x,c]/\qB c≠.none/\fF K H x t/\aci K t (qB c)=some b/\Q (.bl b) H
theorem JA:cX X (.builtin "isinstance") (iU X.K):=by
 intro gV s Z H xs us Q I r h;obtain⟨x,c,t,b,rfl,hc,ty,e,q⟩:=h;obtain⟨u,w',rfl,rx,rc⟩:=vals2 r;cases Hz rc hc
 exact FD I rx ty e λtk=>⟨.bl b,H,I.tok _,rfl,q⟩
variable {b:Bool}
theorem eX {K:W.Frag}{x c:V}{t:Value}(hc:qB c≠.none)(ty:fF K H x t)(e:aci K t (qB c)=some b)(q:Q (.bl b) H):iU K [x,c] H Q:=⟨x,c,t,b,rfl,hc,ty,e,q⟩
theorem DU:adM (.type "bool") "__index__" = pure (some (.builtin "int.__index__")):=by rw[typeLookup_type,adJ];kernel_rfl
variable {s:Shared}
theorem pJ {M : Model}{A : Around}{E : Value -> Shared -> Prop}{Q : Option Int -> Shared -> Prop}(h : Q (some (if b then 1 else 0)) s) :
   wpAny M A (acp (.bool b)) Q E s:=by
 unfold acp;refine aad (adG (T:="bool") (show s.TypeIs (.bool b) "bool" from rfl) DU ?_);show wpAny M A (asIndex (.bool b) >>= _) Q E s;refine aad (wpAny_of_eq (a:=if b then 1 else 0) rfl ?_);show wpAny M A (if (!Builtin.List.listFitsIndex (if b then 1 else 0))=true then _ else _) Q E s;rw[if_neg (by cases b <;> decide)];exact aaj h
variable {l:Addr}
theorem qW {prog:Program}{w:World}{A:Around}{E:Value->Shared->Prop}{items:Array Value}{b:Bool}{x:Value}{Q:Value->Shared->Prop}(hl:s.heap.IsList l items)
   (hx:items[if b then 1 else 0]? = some x) (h:Q x s):wpAny (model prog w) A (getItem (.ref l) (.bool b)) Q E s:=by
 obtain⟨o,ho,hc,ne,hd⟩:=id hl;unfold getItem
 try with_reducible refine aba ?_
 first | refine aad (aaj ?_) | skip
 refine aad (wpAny_sequenceKey hl.typeIs (by decide) ?_)
 refine aad (acu (name:=aae "__getitem__") hl.typeIs slot_list_getitem
   (acK slot_list_getitem hl.typeIs entry_list_getitem ?_ (args_list_getitem _ _)))
 show wpAny _ _ (acp (.bool b) >>= _) _ _ s;refine aad (pJ ?_);cases b with
 | true =>
   have WM:items[1]? = some x:=hx;show wpAny _ _ ((seqItemAt l 1 >>= λr=>pure (r.map (1,·))) >>= _) _ _ s;refine aad (aad (wpAny_seqItemAt ho hd (aaj ?_)));rw[WM]
   first
     | exact aad (aaj (aaj ⟨x,rfl,aaj h⟩))
     | exact aaj ⟨x,rfl,aaj h⟩
 | false =>
   have WM:items[0]? = some x:=hx;show wpAny _ _ ((seqItemAt l 0 >>= λr=>pure (r.map (0,·))) >>= _) _ _ s;refine aad (aad (wpAny_seqItemAt ho hd (aaj ?_)));rw[WM]
   first
     | exact aad (aaj (aaj ⟨x,rfl,aaj h⟩))
     | exact aaj ⟨x,rfl,aaj h⟩
def MP (K:W.Frag):R2:=λx y H Q=>∃ p xs b v,x=.ref p/\y=.bl b/\ar K H p xs/\xs[if b then 1 else 0]? = some v/\Q v H
theorem KS:nX X (MP X.K):=by
 intro value Tp gV s Z H x y v u Q I rx ry h hs;obtain⟨p,xs,b,z,rfl,rfl,hq,he,q⟩:=h;cases rx
 cases ry
 obtain⟨its,r,pl,hz⟩:=I.list hq;obtain⟨w,ew,V3⟩:=r.get he
 exact adz (x:=w) pl.isList.typeIs slot_list_getitem.lookup
   (qW (Q:=λr s'=>r=w/\EP X gV Z Q r s') pl.isList (by simpa using ew) ⟨rfl,z,H,I,V3,q⟩) hs
def bJ (K:W.Frag):R2:=λx y H Q=>Q2 K x y H Q∨MP K x y H Q
theorem Nj:nX X (bJ X.K):=Nk.or KS
variable {i:Int}
theorem b8 {K:W.Frag}{v:V}(h:ar K H p xs)(e:cT xs i=some v)(q:Q v H):bJ K (.ref p) (.int i) H Q:=.inl (.inl ⟨p,xs,i,v,rfl,rfl,h,e,q⟩)
theorem vy {K:W.Frag}{v:V}(h:aI K H p xs)(e:cT xs i=some v)(q:Q v H):bJ K (.ref p) (.int i) H Q:=.inl (.inr (.inl ⟨p,xs,i,v,rfl,rfl,h,e,q⟩))
def RA:R2:=λx y H Q=>∃ i j,x=.str i/\y=.str j/\i.length+j.length<=aal/\Q (.str (i++j)) H
def eE (K:W.Frag):R2:=λx y H Q=>lK (λi j=>.int (i+j)) x y H Q∨Oj x y H Q∨JV K x y H Q∨RA x y H Q
theorem L_:bR X (abD .Add) (eE X.K):=M8.or (OC.or (L6.or DO))
variable {j:Int}
theorem KN {K:W.Frag}(q:Q (.int (i+j)) H):eE K (.int i) (.int j) H Q:=.inl q
theorem qA {K:W.Frag}{a b:Addr}{ys:List V}(ha:H a=some (.lst xs))(hb:H b=some (.lst ys))(hz:xs.length+ys.length<=aal)(q:∀ p,H p=none->Q (.ref p) (upd H p (.lst (xs++ys)))) :
   eE K (.ref a) (.ref b) H Q:=.inr (.inl ⟨a,b,xs,ys,rfl,rfl,ha,hb,hz,q⟩)
def AY:R2:=λx y H Q=>rI Ad (λi j=>.int (i*j)) x y H Q∨MD x y H Q
theorem IC:bR X (abD .Mult) AY:=MU.or M6
theorem Ik (h:Ad i j)(q:Q (.int (i*j)) H):AY (.int i) (.int j) H Q:=.inl ⟨i,j,rfl,rfl,h,q⟩
def jr (K:W.Frag):V->Option Int->Option Int->Hp->VK->Prop:=λx lo hi H Q=>Oy K x lo hi H Q∨OX K x lo hi H Q
theorem Mn:vE X (jr X.K):=KW.or Mz
structure iJ (P:Program)(w:World)(K:W.Frag)(mg:Str->Option Value)(base:Heap)(CX:dM)(k:Nat)(x:Str)(sp:Sp):Prop where
 ex:∃ (f:Addr) (fd:aa4) (ps:List Str),c7 P w K mg base CX k f fd ps sp/\mg x=some (.ref f)/\abi K (.ref f)=true/\Binds K fd ps []
structure mV (P:Program)(w:World)(K:W.Frag)(mg:Str->Option Value)(base:Heap)(CX:dM)(k:Nat)(C:Addr)(m:Str)(sp:Sp):Prop where
 cl:dY K C
 ex:∃ (f:Addr) (fd:aa4) (ps:List Str),z_ K C m f/\c7 P w K mg base CX k f fd ps sp/\Binds K fd ps []
structure CS (P:Program)(w:World)(K:W.Frag)(mg:Str->Option Value)(base:Heap)(CX:dM)(k:Nat)(x:Str)(C:Addr)(sp:Sp):Prop where
 ex:∃ (f:Addr) (fd:aa4) (ps:List Str),Mk K C f/\c7 P w K mg base CX k f fd ps sp/\mg x=some (.ref C)/\Binds K fd ps []
variable {sp:Sp} {C:Addr}
theorem mV.mono {P:Program}{w:World}{K:W.Frag}{mg:Str->Option Value}{base:Heap}{CX:dM}{j k:Nat}{m:Str}(M:mV P w K mg base CX j C m sp)(h:j<=k):mV P w K mg base CX k C m sp:=by
 obtain⟨f,fd,ps,a,b,c⟩:=M.ex;exact⟨M.cl,f,fd,ps,a,b.mono h,c⟩
@[reducible] def cj (sp:Sp) (E:XK) (t:TA):TE:=λZ H Q=>t Z H λvs H1=>sp vs H1 Q E
@[reducible] def zH (C:Addr) (sp:Sp) (E:XK) (t:TA):TE:=λZ H Q=>t Z H λvs H1=>∀ x dx,H1 x=none->H1 dx=none->dx≠x ->
 sp (.ref x::vs) (upd (upd H1 dx (.own x)) x (.ins C dx [])) (λv H2=>v=.aC/\Q (.ref x) H2) E
def Dy (P:Program)(w:World)(K:W.Frag)(mg:Str->Option Value)(base:Heap)(CX:dM)(k:Nat)(m:Str)(E:XK)(Z : St)(t:TA):V->Hp->VK->Prop:=λx H1 Q =>
 ∃ a C dx fs sp,x=.ref a/\H1 a=some (.ins C dx fs)/\fs.lookup m=none/\mV P w K mg base CX k C m sp/\t Z H1 λvs H2=>sp (.ref a::vs) H2 Q E
@[reducible] def cE (P:Program) (w:World) (K:W.Frag) (mg:Str->Option Value) (base:Heap) (CX:dM) (k:Nat) (m:Str) (E:XK) (ta:TE) (t:TA):TE:=λZ H Q=>ta Z H λx H1=>Dy P w K mg base CX k m E Z t x H1 Q
section
variable {X:Cx} {CX:dM} {k:Nat} {C:Addr} {sp:Sp} {E:XK} {x m:Str} {p pos S_:Pos} {e o:Expr} {es:List Expr} {ta:TE} {t:TA}
theorem bp (G : iJ X.prog X.w X.K X.mg X.base CX k x sp)(hr : bI k X.A)(hx : dE CX X E)(hg : Gl X x)(ha : PA X (e :: es) t)(Tt : (x == ("__debug__" : Str)) = false := by decide)
   (he:aai (e::es) X.env=(false,eval e X.env)::aai es X.env:=by rfl) (S6:(backTo pos (aai es X.env)).any (·.1)=false:=by rfl):PE X (.Call (.Name x p) (e::es) [] pos) (cj sp E t):=by
 obtain⟨f,fd,ps,F,hm,hk,hb⟩:=G.ex;have z:=Me (p:=p) (pos:=pos) F hr hg hm hk hb .nil hx ha Tt he S6;intro gV s Z H Q I h;refine z gV s Z H Q I ?_;have e1:KG sp [] E t=cj sp E t:=by
   funext Z H Q
   show t Z H (λvs H1=>sp (vs++[]) H1 Q E)=t Z H (λvs H1=>sp vs H1 Q E);simp only[aaM]
 rw[e1];exact h
theorem Aa (G : CS X.prog X.w X.K X.mg X.base CX k x C sp)(hr : bI (k + 1) X.A)(hx : dE CX X E)(hg : Gl X x)(ha : PA X (e :: es) t)(Tt : (x == ("__debug__" : Str)) = false := by decide)
   (he:aai (e::es) X.env=(false,eval e X.env)::aai es X.env:=by rfl) (S6:(backTo pos (aai es X.env)).any (·.1)=false:=by rfl):PE X (.Call (.Name x p) (e::es) [] pos) (zH C sp E t):=by
 obtain⟨f,fd,ps,M,F,hm,hb⟩:=G.ex;have z:=Df (p:=p) (pos:=pos) M F hr hg hm hb .nil hx ha Tt he S6;intro gV s Z H Q I h;refine z gV s Z H Q I ?_;have e1:Kw C sp [] E t=zH C sp E t:=by
   funext Z H Q
   show t Z H (λvs H1=>∀ x dx,H1 x=none->H1 dx=none->dx≠x->sp (.ref x::(vs++[])) _ _ E)=t Z H (λvs H1=>∀ x dx,H1 x=none->H1 dx=none->dx≠x->sp (.ref x::vs) _ _ E);simp only[aaM]
 rw[e1];exact h
theorem Jb (he:PE X o ta)(hr:bI k X.A)(hx:dE CX X E)(ha:PA X (e::es) t)
   (Tg:aai (e::es) X.env=(false,eval e X.env)::aai es X.env:=by rfl) (S6:(backTo pos (aai es X.env)).any (·.1)=false:=by rfl)
   (ht : eval (.Call (.Attribute o m S_) (e :: es) [] pos) X.env = (do
     let ov <- eval o X.env
     standAt S_.atName
     let (f,first) <- holding [ov] (acV ov m pl)
     ac1 pos f first (backTo pos (aai (e::es) X.env)) (ac2 pos (abZ [] X.env))):=by rfl) :
   PE X (.Call (.Attribute o m S_) (e::es) [] pos) (cE X.prog X.w X.K X.mg X.base CX k m E ta t):=by
 intro gV s Z H Q I h;refine W.methodCall_KW (pl:=pl) (aS (he gV s Z H _ I h) λu s1 zq=>?_) ht;obtain⟨x,H1,I1,rx,a,C,dx,fs,sp,ex,ea,l,M,q⟩:=zq;subst ex;obtain rfl:u=Td a:=rx;obtain⟨f,fd,ps,hm,F,hb⟩:=M.ex;refine uN I1 ea M.cl hm l ?_;refine adw (first:=[.ref a]) (h₀:=X.base) I.ok.mod.uh hm.kp (aS (ha pos gV s1 Z H1 _ I1 q) λus s2 zq=>bQ zq λvs H2 I2 r q2=>⟨I2.df,?_⟩) Tg S6;exact AF (us:=.ref a::us) (vs:=.ref a::vs) F hr hb .nil hx I2 (.cons rfl r) (by rw[aaM];exact q2)
theorem G2 (he:PE X o ta)(hr:bI k X.A)(hx:dE CX X E)
   (ht : eval (.Call (.Attribute o m S_) [] [] pos) X.env = (do
     let ov <- eval o X.env
     standAt S_.atName
     let (f,first) <- holding [ov] (acV ov m pl)
     ac1 pos f first (backTo pos (aai [] X.env)) (ac2 pos (abZ [] X.env))):=by rfl) :
   PE X (.Call (.Attribute o m S_) [] [] pos) (cE X.prog X.w X.K X.mg X.base CX k m E ta aR):=by
 intro gV s Z H Q I h;refine W.methodCall_KW (pl:=pl) (aS (he gV s Z H _ I h) λu s1 zq=>?_) ht;obtain⟨x,H1,I1,rx,a,C,dx,fs,sp,ex,ea,l,M,q⟩:=zq;subst ex;obtain rfl:u=Td a:=rx;obtain⟨f,fd,ps,hm,F,hb⟩:=M.ex;refine uN I1 ea M.cl hm l ?_;exact W.callWith_K0 (first:=[.ref a]) I1.df hm.kp (AF (us:=[.ref a]) (vs:=[.ref a]) F hr hb .nil hx I1 (.cons rfl .nil) q)
end
theorem jf:aaX "len" = some (.builtin "len"):=by nofun
theorem Qt:aaX "all" = some (.builtin "all"):=by nofun
theorem oB:aaX "isinstance" = some (.builtin "isinstance"):=by nofun
theorem JI:aaX "max" = some (.builtin "max"):=by nofun
theorem Qz:aaX "int" = some (.type "int"):=by nofun
theorem Ba:aaX "list" = some (.type "list"):=by nofun
def iQ (K:W.Frag):List V->Hp->VK->Prop:=λxs H Q=>∃ x n,xs=[x]/\O7 K x H n/\Q (.int n) H
theorem F1:cX X (.builtin "len") (iQ X.K):=Jq
theorem dQ {K:W.Frag}(h:ar K H p xs)(q:Q (.int xs.length) H):iQ K [.ref p] H Q:=⟨.ref p,xs.length,rfl,.inl ⟨xs,h,rfl⟩,q⟩
def Eu (K:W.Frag):List V->Hp->VK->Prop:=λxs H Q=>∃ p ys,xs=[.ref p]/\(ar K H p ys∨aI K H p ys)/\∀ l,H l=none->Q (.ref l) (upd H l (.lst ys))
theorem EI:cX X (.type "list") (Eu X.K):=BC
theorem C3 {K:W.Frag}(h:ar K H p xs)(q:∀ l,H l=none->Q (.ref l) (upd H l (.lst xs))):Eu K [.ref p] H Q:=⟨p,xs,rfl,.inl h,q⟩
theorem Mg {K:W.Frag}(h:aI K H p xs)(q:∀ l,H l=none->Q (.ref l) (upd H l (.lst xs))):Eu K [.ref p] H Q:=⟨p,xs,rfl,.inr h,q⟩
def Om (g:Int->Int->Int):List V->Hp->VK->Prop:=λxs H Q=>∃ i j,xs=[.int i,.int j]/\Q (.int (g i j)) H
theorem xW (hc:X.calm=true):cX X (.builtin "max") (Om λi j=>if j > i then j else i):=GV hc
theorem QA (q:Q (.int (g i j)) H):Om g [.int i,.int j] H Q:=⟨i,j,rfl,q⟩
theorem JZ {K:W.Frag}{lo hi:Option Int}(h:ar K H p xs)(q:∀ l,H l=none->Q (.ref l) (upd H l (.lst (fS xs lo hi)))):jr K (.ref p) lo hi H Q:=.inl ⟨p,xs,rfl,h,q⟩
theorem y0 {K:W.Frag}{lo hi:Option Int}(h:aI K H p xs)(hn : ¬ (HT.bh xs.length 0 lo=0/\HT.bh xs.length xs.length hi=xs.length))(q:∀ l,H l=none->Q (.ref l) (upd H l (.tup (fS xs lo hi)))) :
   jr K (.ref p) lo hi H Q:=.inr ⟨p,xs,rfl,h,hn,q⟩
def IA (K:W.Frag)(x:V)(H:Hp)(Q:Bool->Hp->Prop):Prop:=∃ k,IL K x H k/\Q k H
theorem NS {K:W.Frag}{Q:Bool->Hp->Prop}(q:Q b H):IA K (.bl b) H Q:=⟨b,rfl,q⟩
theorem Nz {K:W.Frag}{Q:Bool->Hp->Prop}(q:Q (i != 0) H):IA K (.int i) H Q:=⟨_,rfl,q⟩
variable {A B:Prop}
theorem P1 (h:B):if (!true)=true then A else B:=h
theorem QH (h:A):if (!false)=true then A else B:=h
theorem C5 {K:W.Frag}{a:Addr}(h:ar K H a xs)(hp:H p=none):ar K (upd H p o) a xs:=ao.seq (ae hp) h
theorem C0 {K:W.Frag}{a:Addr}(h:aI K H a xs)(hp:H p=none):aI K (upd H p o) a xs:=cm (ae hp) h
theorem LJ (s:ao H H')(h:H q=some u):H' q=some u:=s _ _ h
variable {Z : St}
theorem MW {to ti:TE}{t:DC}{v:V}{Q:St->Hp->Prop}(q:to Z H λo H1=>ti Z H1 λi H2=>t o i v H2 λH3=>Q Z H3):M2 to ti t v Z H Q:=q
theorem mG {k:Int}{j:Nat}{v:V}{Q:Hp->Prop}(h:H p=some (.lst xs))(e:oq xs.length k=some j)(q:Q (upd H p (.lst (xs.set j v)))):D1 (.ref p) (.int k) v H Q:=⟨p,xs,k,j,rfl,rfl,h,e,q⟩
theorem t_ (h:H l=some (.lst xs))(z:xs.length<aal)(q:Q .aC (upd H l (.lst (xs++[y])))):xj (.ref l) [y] H Q:=⟨l,xs,y,rfl,rfl,h,z,q⟩
theorem ty_list {K:W.Frag}(h:H p=some (.lst xs)):Dk K "list" (.ref p) H:=.inl ⟨rfl,xs,ar.of h⟩
variable {R:It->Hp->Prop} {ta:TA}
@[reducible] def Nq (K:W.Frag) (tl:TE):TI:=λZ H R=>tl Z H λx H1=>∃ a,x=.ref a/\(((∃ xs,ar K H1 a xs)/\R (xH K a) H1)∨((∃ xs,aI K H1 a xs)/\R (JP K a) H1))
theorem Ox (q:ta Z H λvs H1=>∃ j:Int,vs=[.int j]/\-(2 ^ 62)<=j/\j<2 ^ 62/\R (oQ 0 j.toNat) H1):mX ta Z H R:=q
theorem NA (q:ta Z H λvs H1=>∃ i j:Int,vs=[.int i,.int j]/\(-(2 ^ 62)<=i/\i<2 ^ 62/\-(2 ^ 62)<=j/\j<2 ^ 62)/\R (oQ i (j - i).toNat) H1):Dt ta Z H R:=q
theorem OJ {tg l:Expr}{tl:TE}(hl:PE X l tl):PI X tg l (Nq X.K tl):=by
 intro gV s Z H R I h;refine aS (hl gV s Z H _ I h) λv s1 zq=>bQ zq λx H1 I1 r1 q1=>?_;obtain⟨a,e,hq⟩:=q1;subst e;cases r1
 rcases hq with ⟨⟨xs,hq⟩,q⟩ | ⟨⟨xs,hq⟩,q⟩
 . obtain ⟨its, rv, p, hz⟩ := I1.list hq;refine abL p.isList ?_;refine ⟨s1.heap.objs.size,[s1.heap.objs.size],_,_,H1,rfl,I1.kept (t':=s1.toks) λb o e=>aaf _ e,Gv a _,⟨_,aat _ rfl,rfl,rfl⟩,λb hb=>?_,q⟩;have e:b=s1.heap.objs.size:=by simpa using hb
   subst e;exact I1.tR (aag _) (I1.az.fresh (aag _))
 . obtain ⟨its, rv, p, hz⟩ := I1.tuple hq;refine wpAny_pyIter_tuple (show s1.heap.IsTuple a its.toArray from p) ?_;refine ⟨s1.heap.objs.size,[s1.heap.objs.size],_,_,H1,rfl,I1.kept (t':=s1.toks) λb o e=>aaf _ e,Ez a _,⟨_,aat _ rfl,rfl,rfl⟩,λb hb=>?_,q⟩;have e:b=s1.heap.objs.size:=by simpa using hb
   subst e;exact I1.tR (aag _) (I1.az.fresh (aag _))
section
variable {Z : St} {H:Hp} {Q:VK}
theorem E6 {C:Int->Int->Prop}{g:Int->Int->V}(h:C i j)(q:Q (g i j) H):rI C g (.int i) (.int j) H Q:=⟨i,j,rfl,rfl,h,q⟩
theorem aY {P:Program}{w:World}{K:W.Frag}{mg:Str->Option Value}{base:Heap}{CX:dM}{k:Nat}{m:Str}{E:XK}{t:TA}{dx:Addr}{fs:List (Str×V)}(h:H p=some (.ins C dx fs))(l:fs.lookup m=none)(M:mV P w K mg base CX k C m sp)
   (q:t Z H λvs H2=>sp (.ref p::vs) H2 Q E):Dy P w K mg base CX k m E Z t (.ref p) H Q:=⟨p,C,dx,fs,sp,rfl,h,l,M,q⟩
theorem Gf {K:W.Frag}{f:Str}{dx:Addr}{fs:List (Str×V)}{v:V}(h:H p=some (.ins C dx fs))(c:dY K C)(n:a9 K C f)(l:fs.lookup f=some v)(q:Q v H):Ov K f (.ref p) H Q:=⟨p,C,dx,fs,v,rfl,h,c,n,l,q⟩
end
section
variable {Z : St} {H:Hp} {Q:Bool->Hp->Prop}
@[reducible] def wY (K:W.Frag) (ta:TE):TT:=λZ H Q=>ta Z H λx H'=>IA K x H' Q
theorem Nv {a:Expr}{ta:TE}(ha:PE X a ta)(he:∀ TJ,isTrue a X.env TJ=(do let v <- TJ;standAt a.pos;holding [v] (truthy v)):=by intro _;rfl):PT X a (wY X.K ta):=Il ha he
end
section
variable {D:Ends} {Z : St} {H:Hp}
theorem LV {K:W.Frag}{f:Str}{dx:Addr}{fs:List (Str×V)}(h:H p=some (.ins C dx fs))(c:dY K C)(n:a9 K C f)(l:fs.length<1000)(q:D.nx Z (upd H p (.ins C dx (au f y fs)))):JT K f y D Z (.ref p) H:=⟨p,C,dx,fs,rfl,h,c,n,l,q⟩
end
theorem cW [Decidable c](h1:c->A)(h2 : ¬ c->B):if decide c=true then A else B:=by
 by_cases h:c
 . rw[if_pos (decide_eq_true h)];exact h1 h
 . rw[if_neg (by rw[decide_eq_false h];exact aap)];exact h2 h
theorem uP [Decidable c](h1 : ¬ c->A)(h2:c->B):if (!decide c)=true then A else B:=by
 by_cases h:c
 . rw[if_neg (by rw[decide_eq_true h];decide)];exact h2 h
 . rw[if_pos (by rw[decide_eq_false h];rfl)];exact h1 h
theorem eW {a b:Int}(h1:a=b->A)(h2:a≠b->B):if decide (V.int a=V.int b)=true then A else B :=
 cW (λe=>h1 (by cases e;rfl)) λe=>h2 λz=>e (by rw[z])
theorem gL {a b:Int}(h1:a≠b->A)(h2:a=b->B):if (!decide (V.int a=V.int b))=true then A else B :=
 uP (λe=>h1 λz=>e (by rw[z])) λe=>h2 (by cases e;rfl)
section
variable {P:Program} {w:World} {K:W.Frag} {mg:Str->Option Value} {base:Heap} {x qual:Str} {st:Stmt} {N ps:List Str} {sp:Sp} {C:Addr}
def IU (P:Program)(w:World)(K:W.Frag)(mg:Str->Option Value)(base:Heap)(qual:Str)(st:Stmt)(N:List Str)(f:Addr)(S0:Value)(A:Around)(outer:List Env)(s:Shared)(E:XK)(Q:VK)(H:Hp)(vs:List V):Prop :=
 ∃ t,gj (bW cb P w K mg base N qual (ah st) f S0 A outer s H E).eV (aV st) t/\t { nx:=λ_ H'=>Q .aC H',rt:=Q } (start N vs) H
def BodyOk (P:Program)(w:World)(K:W.Frag)(mg:Str->Option Value)(base:Heap)(k:Nat)(qual:Str)(st:Stmt)(N:List Str)(sp:Sp):Prop :=
 ∀ (f:Addr) (S0:Value) (A:Around) (outer:List Env) (s:Shared) (H:Hp) (vs:List V) (Q:VK) (E:XK),bI k (A.deeper (envOfC qual (ah st) s.heap.objs.size f S0))->sp vs H Q E ->
   IU P w K mg base qual st N f S0 A outer s E Q H vs
theorem bc (k:Nat)(h:∃ f fd,ee K x qual st f fd/\mg x=some (.ref f)/\Binds K fd ps [])(S:aq N ps (ah st))(len:∀ vs H Q E,sp vs H Q E->vs.length=ps.length)
   (S7:BodyOk P w K mg base k qual st N sp):iJ P w K mg base cb (k+1) x sp:=by
 obtain⟨f,fd,F,hm,hb⟩:=h;exact⟨f,fd,ps,F.ok S len (S7 f),hm,F.kp,hb⟩
theorem aB (k:Nat)(c:dY K C)(h:∃ f fd,ee K x qual st f fd/\z_ K C x f/\Binds K fd ps [])(S:aq N ps (ah st))(len:∀ vs H Q E,sp vs H Q E->vs.length=ps.length)
   (S7:BodyOk P w K mg base k qual st N sp):mV P w K mg base cb (k+1) C x sp:=by
 obtain⟨f,fd,F,hm,hb⟩:=h;exact⟨c,f,fd,ps,hm,F.ok S len (S7 f),hb⟩
theorem eN {y:Str}(k:Nat)(hy:mg y=some (.ref C))(h:∃ f fd,ee K "__init__" qual st f fd/\Mk K C f/\Binds K fd ps [])(S:aq N ps (ah st))(len:∀ vs H Q E,sp vs H Q E->vs.length=ps.length)
   (S7:BodyOk P w K mg base k qual st N sp):CS P w K mg base cb (k+1) y C sp:=by
 obtain⟨f,fd,F,hm,hb⟩:=h;exact⟨f,fd,ps,hm,F.ok S len (S7 f),hy,hb⟩
end
section
variable {X:Cx} {K:W.Frag}
theorem dW (h:X.K=K):bR X (abD .Add) (eE K):=by subst h;exact L_
theorem E8 (h:X.K=K)(hu:X.A.units+64<cLine):bR X (aaV .Eq) (gJ K):=by subst h;exact OP hu
theorem lW (h:X.K=K)(hu:X.A.units+64<cLine):bR X (aaV .NotEq) (gm K):=by subst h;exact Gr hu
theorem NX (h:X.K=K):bR X (aaV .In) (xF K false):=by subst h;exact Hc
theorem Fu (h:X.K=K):bR X (aaV .NotIn) (xF K true):=by subst h;exact Bo
theorem dj (h:X.K=K):nX X (bJ K):=by subst h;exact Nj
theorem Rv (h:X.K=K):vE X (jr K):=by subst h;exact Mn
theorem dP {tg l:Expr}{tl:TE}(h:X.K=K)(hl:PE X l tl):PI X tg l (Nq K tl):=by subst h;exact OJ hl
theorem ez (h:X.K=K):cX X (.builtin "len") (iQ K):=by subst h;exact F1
theorem ET (h:X.K=K):cX X (.type "list") (Eu K):=by subst h;exact EI
theorem yd (h:X.K=K):cX X (.builtin "isinstance") (iU K):=by subst h;exact JA
theorem cD {e:Expr}{f:Str}{pos:Pos}{ta:TE}(h:X.K=K)(he:PE X e ta)(hb:ab3 e f X.env (eval e X.env)=eval e X.env:=by rfl):PE X (.Attribute e f pos) (AN K ta f):=by subst h;exact OW he hb
variable {pos:Pos}
theorem vY {o value : Expr}{f : Str}{Tx : Pos}{ta tv : TE}(h : X.K = K)(ha : PE X o ta)(hv : PE X value tv)(hs : acU value (some (.Attribute o f Tx)) pos.line X.env = pure false := by rfl) :
   PS X (.Assign [.Attribute o f Tx] value pos) (O6 K ta tv f):=by subst h;exact Pp ha hv hs
theorem De {a:Expr}{ta:TE}(h:X.K=K)(ha:PE X a ta)(he:∀ TJ,isTrue a X.env TJ=(do let v <- TJ;standAt a.pos;holding [v] (truthy v)):=by intro _;rfl):PT X a (wY K ta):=by subst h;exact Nv ha he
theorem wO {pos:Pos}(hK:X.K=K)(hc:X.calm=true)(h:F5 X es t)
   (hn:(acP es X.env).length=n:=by rfl) (Tg:(acP es X.env).findIdx? (·.1)=none:=by rfl):PG X (.Tuple es k pos) (Ja K n t):=by subst hK;exact OF hc h hn Tg
theorem wF {o:Expr}{to:TE}{name:Str}{S_ S5:Pos}{T id:String}{r:V->List V->Hp->VK->Prop}(h:X.K=K)(pa:PlainAttrs T)(slot:Slot T name id)(hty:typeOf (.builtin id)=pure (.type "method_descriptor"))(hm:G5 X id r)(ho:PE X o to)
   (Tq:ab3 o name X.env (eval o X.env)=eval o X.env:=by rfl) (T4:(S_.endLine == S5.line)=true:=by rfl):PE X (.Call (.Attribute o name S_) [] [] S5) (Oo K T r to):=by subst h;exact NC pa slot hty hm ho Tq T4
theorem zY {o e:Expr}{es:List Expr}{to:TE}{t:TA}{name:Str}{S_ S5:Pos}{T id:String}{r:V->List V->Hp->VK->Prop}(h:X.K=K)(pa:PlainAttrs T)(slot:Slot T name id)(hty:typeOf (.builtin id)=pure (.type "method_descriptor"))(hm:G5 X id r)(ho:PE X o to)(ha:PA X (e::es) t)
   (Tq:ab3 o name X.env (eval o X.env)=eval o X.env:=by rfl)
   (Wq:((backTo S5 (aai (e::es) X.env)).all (λx=>!x.1) && (ac2 S5 (abZ [] X.env)).all (λx=>x.1.isSome)
     && decide ((e::es).length+([]:List Keyword).length+(if ([]:List Keyword).isEmpty then 0 else 1)<30))=true:=by rfl)
   (T4:(S_.endLine == S5.line)=true:=by rfl) (hs:aai (e::es) X.env=(false,eval e X.env)::aai es X.env:=by rfl) (Tj:(backTo S5 (aai es X.env)).any (·.1)=false:=by rfl) :
   PE X (.Call (.Attribute o name S_) (e::es) [] S5) (Od K T r to t):=by subst h;exact Qp pa slot hty hm ho ha Tq Wq T4 hs Tj
end
section
variable {X:Cx} {P:Program} {w:World} {K:W.Frag} {mg:Str->Option Value} {base:Heap} {CX:dM} {k:Nat} {E:XK} {m:Str} {pos S_:Pos} {e o:Expr} {es:List Expr} {ta:TE} {t:TA}
theorem AS (hP:X.prog=P/\X.w=w/\X.K=K/\X.mg=mg/\X.base=base)(he:PE X o ta)(hr:bI k X.A)(hx:dE CX X E)(ha:PA X (e::es) t)
   (Tg:aai (e::es) X.env=(false,eval e X.env)::aai es X.env:=by rfl) (S6:(backTo pos (aai es X.env)).any (·.1)=false:=by rfl)
   (ht : eval (.Call (.Attribute o m S_) (e :: es) [] pos) X.env = (do
     let ov <- eval o X.env
     standAt S_.atName
     let (f,first) <- holding [ov] (acV ov m pl)
     ac1 pos f first (backTo pos (aai (e::es) X.env)) (ac2 pos (abZ [] X.env))):=by rfl) :
   PE X (.Call (.Attribute o m S_) (e::es) [] pos) (cE P w K mg base CX k m E ta t):=by
 obtain⟨rfl,rfl,rfl,rfl,rfl⟩:=hP;exact Jb (pl:=pl) he hr hx ha Tg S6 ht
theorem kJ (hP:X.prog=P/\X.w=w/\X.K=K/\X.mg=mg/\X.base=base)(he:PE X o ta)(hr:bI k X.A)(hx:dE CX X E)
   (ht : eval (.Call (.Attribute o m S_) [] [] pos) X.env = (do
     let ov <- eval o X.env
     standAt S_.atName
     let (f,first) <- holding [ov] (acV ov m pl)
     ac1 pos f first (backTo pos (aai [] X.env)) (ac2 pos (abZ [] X.env))):=by rfl) :
   PE X (.Call (.Attribute o m S_) [] [] pos) (cE P w K mg base CX k m E ta aR):=by
 obtain⟨rfl,rfl,rfl,rfl,rfl⟩:=hP;exact G2 (pl:=pl) he hr hx ht
end
theorem L1 {R:Addr->Prop}(q:∀ p,H p=none->R p):∀ p,H p=none->R p:=q
theorem f7 (h:upd H p o q=none):H q=none:=(bw h).1
theorem aG (s:ao H H')(h:H' q=none):H q=none:=by
 cases e:H q with
 | none=>rfl
 | some u=>rw[s _ _ e] at h;cases h
theorem same_none (s:ao H H1)(h:H1 p=none):ao H (upd H1 p o):=s.trans (ae h)
def iT {α : Type}(xs:List α)(f : α->V)(Sg:St->Prop)(H:Hp)(i:Nat)(ys:List V)(Z : St)(H1:Hp):Prop:=ao H H1/\Sg Z/\ys=(xs.take i).map f
theorem iT.next {α : Type}{xs:List α}{f : α->V}{Sg:St->Prop}{H5:Hp}{i:Nat}{ys:List V}{Z3:St}{x : α}(c:iT xs f Sg H i ys Z H1)(hx:xs[i]? = some x)(e:y=f x)(s:ao H H5)(sg:Sg Z3):iT xs f Sg H (i+1) (ys++[y]) Z3 H5:=by
 obtain⟨_,_,rfl⟩:=c;refine⟨s,sg,?_⟩;subst e;rw[abF,hx,abx,aaE];rfl
theorem Kj (h1:b=true->A)(h2:b=false->B):if b=true then A else B:=by
 cases b with
 | true=>exact h1 rfl
 | false=>exact h2 rfl
theorem RW {R:Prop}(h1 : -(2 ^ 62)<=j)(h2:j<2 ^ 62)(q:R) : -(2 ^ 62)<=j/\j<2 ^ 62/\R:=⟨h1,h2,q⟩
theorem QB {K:W.Frag}{a:Addr}(h:ar K H a xs)(q:A):((∃ xs,ar K H a xs)/\A)∨((∃ xs,aI K H a xs)/\B):=.inl ⟨⟨xs,h⟩,q⟩
theorem QF {K:W.Frag}{a:Addr}(h:aI K H a xs)(q:B):((∃ xs,ar K H a xs)/\A)∨((∃ xs,aI K H a xs)/\B):=.inr ⟨⟨xs,h⟩,q⟩
theorem Qd {K:W.Frag}{R:Prop}(h:H p=some (.lst xs))(q:R):Dk K "list" (.ref p) H/\R:=⟨ty_list h,q⟩
theorem CL {K:W.Frag}:Dp K H .none .aC:=by rw[Dp]
theorem iK:upd (upd H p o1) p o2=upd H p o2:=LI ..
variable {D:Ends}
theorem Jm {i:Nat}{own:List Str}{fr:List (Str×Nat)}{wi:TI}{g:TG}{tc:TT}{te:TE}{Zi:St}(h:mq own fr Z = Zi)(q:wi Z H λJ H1=>iA J g tc te (λys H3=>∀ p,H3 p=none->bg i (.ref p) Z (upd H3 p (.lst ys)) D.nx) Zi H1):vo i own fr wi g tc te D Z H:=by subst h;exact q
theorem Iy (h:mq own fr Z = Zi)(q:wi Z H λJ H1=>iA J g tc te (λys H3=>∀ p,H3 p=none->Q (.ref p) (upd H3 p (.lst ys))) Zi H1):GN own fr wi g tc te Z H Q:=by subst h;exact q
def pP:R2:=λx y H Q=>y=.aC/\Q (.bl (decide (x=.aC))) H
def kS:R2:=λx y H Q=>y=.aC/\Q (.bl (!decide (x=.aC))) H
theorem vV:bR X (aaV .Is) pP:=MI
theorem Aj:bR X (aaV .IsNot) kS:=La
theorem Ot (q:Q (.bl false) H):pP (.ref p) .aC H Q:=⟨rfl,q⟩
theorem Oe (q:Q (.bl true) H):pP .aC .aC H Q:=⟨rfl,q⟩
theorem M9 (q:Q (.bl false) H):pP (.int i) .aC H Q:=⟨rfl,q⟩
theorem KZ (q:Q (.bl false) H):kS .aC .aC H Q:=⟨rfl,q⟩
theorem Ml {K:W.Frag}{a:Addr}(s:ao H H1)(h:H p=none)(q:ar K H a xs):ar K (upd H1 p o) a xs:=ao.seq (bC s h) q
def zw (i j:Int):Prop:=0<=j/\j<=1000000/\∃ k:Nat,k<=1000000/\i.natAbs<2 ^ k
theorem Li:bR X (abD .LShift) (rI zw λi j=>.int (i*2 ^ j.toNat)):=FC λi j _ _ _ _ _ hc q=>by
 obtain⟨h0,h1,k,hk,hb⟩:=hc
 have:=PySem.intBits_le_iff.mpr hb
 exact lshift_int h0 (by have e:(2:Int) ^ 27=134217728:=rfl;rw[e];omega) q
theorem qz (h0 : 0<=j)(h1:j<=1000000):zw 1 j:=⟨h0,h1,1,by decide,by decide⟩
theorem qR (j:Nat):(1:Int)*2 ^ j=((2 ^ j:Nat):Int):=by rw[Int.one_mul];exact(Int.natCast_pow 2 j).symm
theorem gR (s t:Nat):aaK (s:Int) (t:Int)=((s &&& t:Nat):Int):=by
 unfold aaK;rw[decide_eq_true (abl s),decide_eq_true (abl t)];show((((s:Int).toNat &&& (t:Int).toNat:Nat)):Int)=_;rw[aaD,aaD]
theorem fT (s t:Nat):aaK (s:Int) (aav (t:Int))=((Bt.wo s t:Nat):Int):=by
 have hn : ¬ (0:Int)<=aav (t:Int):=by unfold aav;omega
 have e:(aav (aav (t:Int))).toNat=t:=by unfold aav;omega
 unfold aaK;rw[decide_eq_true (abl s),decide_eq_false hn];show(s:Int) - (((s:Int).toNat &&& (aav (aav (t:Int))).toNat:Nat):Int)=_;rw[aaD,e]
 have:(s &&& t)<=s:=acL
 unfold Bt.wo;omega
theorem xX (s t:Nat):ady (s:Int) (t:Int)=((s ||| t:Nat):Int):=by
 have hs : ¬ (0:Int)<=aav (s:Int):=by unfold aav;omega
 have ht : ¬ (0:Int)<=aav (t:Int):=by unfold aav;omega
 have es:(aav (aav (s:Int))).toNat=s:=by unfold aav;omega
 have et:(aav (aav (t:Int))).toNat=t:=by unfold aav;omega
 unfold ady aaK;rw[decide_eq_false hs,decide_eq_false ht];show aav (aav (((aav (aav (s:Int))).toNat ||| (aav (aav (t:Int))).toNat:Nat):Int))=_;rw[es,et];unfold aav;omega
theorem eA {K:W.Frag}{x:V}(h:ar K H p xs)(f1:dR x=true)(f2:xs.all dR=true)(q:Q (.bl (eY x xs)) H):xF K false x (.ref p) H Q:=⟨p,xs,rfl,.inl h,f1,f2,q⟩
def KC:List V->Hp->VK->Prop:=λxs H Q=>∃ a kvs,xs=[.ref a]/\Rd H a (.dK kvs)/\∀ p,H p=none->Q (.ref p) (upd H p (.dK kvs))
theorem DX:cX X (.type "dict") KC:=by
 intro gV s Z H xs us Q I r h;obtain⟨a,kvs,rfl,e,q⟩:=h;obtain⟨u,rfl,rx⟩:=vals1 r;cases rx
 exact Jj I e λp s' hp I'=>⟨.ref p,_,I',rfl,q p hp⟩
variable {kvs:List (Key×V)}
theorem Bg (h:H a=some (.dK kvs))(q:∀ p,H p=none->Q (.ref p) (upd H p (.dK kvs))):KC [.ref a] H Q:=⟨a,kvs,rfl,.inl h,q⟩
theorem An (q:∀ p,H p=none->Q (.ref p) (upd H p (.dK []))):GJ Z H Q:=q
theorem Gc (q:tv Z H λv H1=>td Z H1 λx H2=>ty Z H2 λy H3=>∃ a H4,x=.ref a/\sU H3 a y v H4/\D.nx Z H4):JR td ty tv D Z H:=q
theorem jj {k:Int}{v:V}{R:Hp->Prop}(h:H p=some (.dK kvs))(hl:kvs.length<aal)(q:R (upd H p (.dK (putK kvs (.inl k) v)))):∃ a H4,V.ref p=.ref a/\sU H a (.int k) v H4/\R H4 :=
 ⟨p,_,rfl,sU.k (k:=.inl k) h hl,q⟩
theorem Ay (q:td Z H λx H1=>ty Z H1 λy H2=>∃ a v,x=.ref a/\gq H2 a y (some v)/\Q v H2):Kk td ty Z H Q:=q
theorem DA (q:ty Z H λy H1=>td Z H1 λx H2=>∃ a o,x=.ref a/\gq H2 a y o/\Q (.bl o.isSome) H2):OL ty td Z H Q:=q
theorem zM {k:Int}{R:Option V->Prop}(h:H p=some (.dK kvs))(q:R (cP kvs (.inl k))):∃ a o,V.ref p=.ref a/\gq H a (.int k) o/\R o:=⟨p,_,rfl,gq.k (k:=.inl k) h,q⟩
theorem Q_ {t:TE}{Q:Bool->Hp->Prop}(q:t Z H λx H'=>∃ b,x=.bl b/\Q b H'):tB t Z H Q:=q
def C7:V->List V->Hp->VK->Prop:=λx xs H Q=>∃ i,x=.int i/\xs=[]/\Q (.int ((abn i:Nat):Int)) H
theorem E2:G5 X "int.bit_length" C7:=by
 intro gV s Z H x xs v us Q I rx rs h;obtain⟨i,rfl,rfl,q⟩:=h;cases rs
 obtain⟨t,rfl⟩:=(show ∃ t,v=abt i t from rx)
 refine call_gives F.slot_int_bit_length (typeIs_int s i t) F.entry_int_bit_length (F.args_int_bit_length_1 _) (AutoIntG2.int_bit_length_int_0 i t) ?_;exact⟨.int _,H,I.tok _,⟨_,rfl⟩,q⟩
theorem AX (q:Q (.int ((abn i:Nat):Int)) H):C7 (.int i) [] H Q:=⟨i,rfl,rfl,q⟩
theorem Ke {K:W.Frag}{R:Prop}(q:R):Dk K "int" (.int i) H/\R:=⟨rfl,q⟩
structure fj (K:W.Frag)(x qual:Str)(st:Stmt)(f:Addr)(fd:aa4):Prop where
 ex:∃ (oc:Value) (od:Option Addr) (da:Addr) (kV S8 pm:Value) (an:Option Addr) (S0 ct:Value) (Ts:Array (Option Value)) (o:Obj) (n:Nat),
   fd=W.fnOf x qual (a_ st) (aV st) (ah st) (.ref da) kV S8 pm an S0 ct/\K.lookup f=some ⟨oc,od,.func fd,Ts⟩/\abR K S0 qual=true/\K.lookup da=some o/\o.data=.seq #[.none] n
 kp:abi K (.ref f)=true
variable {f:Addr} {st:Stmt} {x qual:Str}
theorem LQ {K:W.Frag}{da:Addr}{o:Obj}{oc:Value}{od an:Option Addr}{Ts:Array (Option Value)}{kV S8 pm S0 ct:Value}(l:K.lookup f=some ⟨oc,od,.func (W.fnOf x qual (a_ st) (aV st) (ah st) (.ref da) kV S8 pm an S0 ct),Ts⟩)
   (d:K.lookup da=some o/\∃ n,o.data=.seq #[.none] n) (c:abR K S0 qual=true) (k:abi K (.ref f)=true):fj K x qual st f (W.fnOf x qual (a_ st) (aV st) (ah st) (.ref da) kV S8 pm an S0 ct) :=
 let ⟨n,e⟩:=d.2;⟨⟨oc,od,da,kV,S8,pm,an,S0,ct,Ts,o,n,rfl,l,c,d.1,e⟩,k⟩
section
variable {P:Program} {w:World} {K:W.Frag} {mg:Str->Option Value} {base:Heap}
variable {N ps:List Str} {fd:aa4}
theorem fj.ok (F:fj K x qual st f fd)(S:aq N ps (ah st))(len:∀ vs H Q E,sp vs H Q E->vs.length=ps.length)
   (S7:∀ (S0:Value) (A:Around) (outer:List Env) (s:Shared) (H:Hp) (vs:List V) (Q:VK) (E:XK),bI k (A.deeper (envOfC qual (ah st) s.heap.objs.size f S0))->sp vs H Q E ->
     ∃ t,gj (bW cb P w K mg base N qual (ah st) f S0 A outer s H E).eV (aV st) t/\t { nx:=λ_ H'=>Q .aC H',rt:=Q } (start N vs) H):c7 P w K mg base cb (k+1) f fd ps sp:=by
 obtain⟨oc,od,da,kV,S8,pm,an,S0,ct,Ts,o,n,rfl,lk,Ua,_,_⟩:=F.ex;refine qx lk Ua S len λA outer s H vs Q E hr UQ=>?_;obtain⟨t,h,q⟩:=S7 S0 A outer s H vs Q E hr UQ;exact⟨t,h.eV,q⟩
theorem fj.uV {ps:List Str}(F:fj K x qual st f fd)
   (h:∀ (da:Addr) (kV S8 pm:Value) (an:Option Addr) (S0 ct:Value) (us:List Value),us.length+1=ps.length->∃ k:Option (Array Value)->Sem (List (Str×Value)),abW (W.fnOf x qual (a_ st) (aV st) (ah st) (.ref da) kV S8 pm an S0 ct) ⟨us,[]⟩=acq (.ref da) >>= k/\k (some #[.none])=pure (ps.zip (us++[.none]))):Binds K fd ps [.none]:=by
 obtain⟨oc,od,da,kV,S8,pm,an,S0,ct,Ts,o,n,rfl,lk,Ua,ld,ed⟩:=F.ex;intro s us KX hl;obtain⟨k,h1,h2⟩:=h da kV S8 pm an S0 ct us (by rw[aab] at hl;exact hl);exact .of_defaults rfl (KX _ _ ld) ed h1 h2
end
structure QQ (P:Program)(w:World)(K:W.Frag)(mg:Str->Option Value)(base:Heap)(CX:dM)(k:Nat)(x:Str)(C:Addr)(sp:Sp):Prop where
 ex:∃ (f:Addr) (fd:aa4) (ps:List Str),Mk K C f/\c7 P w K mg base CX k f fd ps sp/\mg x=some (.ref C)/\Binds K fd ps [.none]
section
variable {P:Program} {w:World} {K:W.Frag} {mg:Str->Option Value} {base:Heap} {x qual:Str} {st:Stmt} {N ps:List Str} {sp:Sp} {C:Addr}
theorem LU {y:Str}(k:Nat)(hy:mg y=some (.ref C))(h:∃ f fd,fj K "__init__" qual st f fd/\Mk K C f/\Binds K fd ps []/\Binds K fd ps [.none])(S:aq N ps (ah st))(len:∀ vs H Q E,sp vs H Q E->vs.length=ps.length)
   (S7:BodyOk P w K mg base k qual st N sp):CS P w K mg base cb (k+1) y C sp/\QQ P w K mg base cb (k+1) y C sp:=by
 obtain⟨f,fd,F,hm,hb,UB⟩:=h;exact⟨⟨f,fd,ps,hm,F.ok S len (S7 f),hy,hb⟩,⟨f,fd,ps,hm,F.ok S len (S7 f),hy,UB⟩⟩
end
theorem JK {K:W.Frag}{neg:Bool}{x:V}(h:ar K H p xs)(hx:dR x=true)(hs:xs.all dR=true)(q:Q (.bl (if neg then !eY x xs else eY x xs)) H):xF K neg x (.ref p) H Q:=⟨p,xs,rfl,.inl h,hx,hs,q⟩
section
variable {K:W.Frag} {a:Addr} {xs:List V} {g:TG} {tc:TT} {te:TE} {Ta:List V->Hp->Prop} {H:Hp}
variable {Z0:St}
theorem zj (Pv:Nat->List V->St->Hp->Prop)(h0:Pv 0 [] Z0 H)(hl:∀ i ys Z H,i<=xs.length->Pv i ys Z H->aI K H a xs/\ys.length<=aal)
   (hs:∀ i x ys Z H,xs[i]? = some x->Pv i ys Z H->g x Z H λZ3 H3=>tc Z3 H3 λb H4=>if b=true then te Z3 H4 λy H5=>Pv (i+1) (ys++[y]) Z3 H5 else Pv (i+1) ys Z3 H4)
   (hd:∀ ys Z H,Pv xs.length ys Z H->Ta ys H):iA (JP K a) g tc te Ta Z0 H:=by
 refine⟨λi m ys Z H=>m=xs.length - i/\i<=xs.length/\Pv i ys Z H,⟨xs.length,by simp,aaU _,h0⟩,?_⟩;rintro i m ys Z H ⟨rfl,hi,p⟩;obtain⟨q,hz⟩:=hl i ys Z H hi p;by_cases S9:i<xs.length
 . refine .inr ⟨⟨xs, xs[i], q, by simp[S9]⟩, Pv (i + 1), λVm Z2 H2 p' => ⟨(hl (i + 1) Vm Z2 H2 S9 p').2, xs.length - (i + 1), by omega, rfl, S9, p'⟩, λx H2 y => ?_⟩;obtain⟨e,y⟩:=y;subst e;exact hs i x ys Z _ (y xs q) p
 . have e : i = xs.length := by omega
   subst e;exact .inl ⟨⟨xs,q,aag _⟩,hz,hd ys Z H p⟩
theorem xA {α : Type}{xs:List α}{emb : α->V}(f : α->V)(Sg:St->Prop)(hl:aI K H a (xs.map emb))(hz:xs.length<=aal)(h0:Sg Z0)
   (hs:∀ (i:Nat) (x : α) (ys:List V) (Z : St) (H1:Hp),xs[i]? = some x->iT xs f Sg H i ys Z H1->ao H H1->Sg Z ->
     g (emb x) Z H1 λZ3 H3=>tc Z3 H3 λb H4=>if b=true then te Z3 H4 λy H5=>iT xs f Sg H (i+1) (ys++[y]) Z3 H5 else iT xs f Sg H (i+1) ys Z3 H4)
   (hd:∀ H1,ao H H1->Ta (xs.map f) H1):iA (JP K a) g tc te Ta Z0 H:=by
 refine zj (xs:=xs.map emb) (iT xs f Sg H) ⟨ao.refl _,h0,rfl⟩ ?_ ?_ ?_
 . rintro i ys Z H1 hi ⟨s,_,rfl⟩;refine⟨cm s hl,?_⟩;rw[aac,aaz];omega
 . intro i x ys Z H1 hx c;rw[aah] at hx;obtain⟨z,hz,rfl⟩:=Option.map_eq_some_iff.mp hx;exact hs i z ys Z H1 hz c c.1 c.2.1
 . rintro ys Z H1 ⟨s,_,rfl⟩;rw[aac,aa1];exact hd H1 s
end
section
variable {prog:Program} {w:World} {A:Around} {E:Value->Shared->Prop} {s:Shared}
theorem Pf {it t:Addr}{i:Nat}{its:Array Value}{Q:Value->Shared->Prop}(hi:s.heap.IsTupleIter it t i)(ht:s.heap.IsTuple t its)
   (q1:∀ x,its[i]? = some x->∀ h',h'.IsTupleIter it t (i+1)->ab_ it s.heap h'->Q x { s with heap:=h' })
   (q2:its[i]? = none->A.handled=none/\∀ h' e,Heap.ExtBut it s.heap h'->(∃ o,h'.get? e=some o/\o.cls=.type "StopIteration")->E (.ref e) { s with heap:=h' }) :
   wpAny (model prog w) A (abo (.ref it)) Q E s:=by
 obtain⟨o,ho,hc,hd⟩:=id hi;obtain⟨ot,hot,_,nt,hdt⟩:=ht;unfold abo;refine aad (acu (name:=aae "__next__") hi.typeIs F.slot_tuple_iterator_next (acK F.slot_tuple_iterator_next hi.typeIs F.entry_tuple_iterator_next ?_ (F.args_tuple_iterator_next_1 _)));show wpAny _ _ (field (.ref it) 0 >>= _) _ _ _;refine aad (aby ho hd (x:=.ref t) rfl ?_);show wpAny _ _ (if (Td t == abq)=true then _ else _) _ _ _;rw[if_neg (show ¬ (Td t == abq)=true from λz=>aap z)];show wpAny _ _ (field (.ref it) 1 >>= _) _ _ _;refine aad (aby ho hd (x:=.int i 0) rfl ?_);show wpAny _ _ (acq (.ref t) >>= _) _ _ _;refine aad (ac9 hot hdt ?_);cases hx:its[i]? with
 | some x =>
   simp only[aaD,hx];refine aad (ac8 ho hd (by simp) (aaj ⟨x,rfl,aaj (q1 x hx _ ?_ (ac6 ..))⟩));refine⟨_,aa_ _ ho (adt (acg hd _)),(Obj.cls_mapFields ..).trans hc,?_⟩;rw[acg hd];simp[rawInt]
 | none =>
   obtain⟨hh,q2⟩:=q2 hx;simp only[aaD,hx];refine aad (wpAny_rule (aad (ac8 ho hd (by simp) ?_)));show wpAny _ _ (newExc (.type "StopIteration") [] >>= _) _ _ _;refine aad ?_;simp only[newExc,newTuple];refine aad (abw ?_ (by size_fits));refine aad (m:=firstArgMember _ _) (wpAny_of_eq (a:=abq) (by first | rfl | (simp only[firstArgMember];rfl)) (abw ?_ (by size_fits)));simp only[raiseNew];refine aad (wpAny_handled ?_);rw[show A.in1.handled=none from hh];refine aad (aaj (wpAny_throw ?_));exact q2 _ _ (((ac6 ..).extBut.push _).push _) ⟨_,aat _ rfl,rfl⟩
end
def KD (K:W.Frag)(a b:Addr):It :=
 ⟨λi H=>∃ xs ys x y,aI K H a xs/\aI K H b ys/\xs[i]? = some x/\ys[i]? = some y,
  λi H v H'=>∃ T x y,v=.ref T/\H T=none/\H'=upd H T (.tup [x,y])/\∀ xs ys,aI K H a xs->aI K H b ys->xs[i]? = some x/\ys[i]? = some y,
  λi H=>∃ xs ys,aI K H a xs/\aI K H b ys/\(xs.length<=i∨ys.length<=i)⟩
theorem xB {gV:List (Addr×Obj)}{h':Heap}{ch:List Addr}{T:Addr}{xs:List V}(I:Inv X gV Z H s)(hf:∀ b∈ch,pZ X gV H b)(hT:s.heap.objs.size<=T)
   (k:∀ b o,b ∉ ch->s.heap.get? b=some o->h'.get? b=some o) (kc:∀ b∈ch,∃ o,h'.get? b=some o) (new:b9 X.prog X.w (upd H T (.tup xs)) h' T (.tup xs)):Inv X gV Z (upd H T (.tup xs)) { s with heap:=h' }:=by
 have hn:H T=none:=I.az.fresh hT;have nc:∀ b u,H b=some u->b ∉ ch:=λb u e hb=>by rw[(hf b hb).1] at e;cases e
 have nT:∀ b o,s.heap.get? b=some o->b≠T:=λb o e z=>absurd (aam e) (by rw[z];exact Nat.not_lt.mpr hT);refine I.vc (ch:=ch) rfl ⟨λb o e _ _ hc=>k b o hc e,λb o e _ _ hc=>⟨o.slots,k b o hc e⟩,λb o e n _=>by rw[ak (nT b o e)];exact n,λb o e hc=>⟨o,k b o hc e⟩,λb xs e=>?_,λb o u e=>?_,λb ps e=>⟨#[],?_⟩⟩ ?_ I.bare ?_
 . rw[ak (ag e hn)];exact e
 . rw[ak (ag e hn)];exact e
 . rw[ak (ag e hn),e];simp
 . intro b u e;by_cases hb:b=T
   . subst hb;rw[aa] at e;cases e
     exact new
   . rw [ak hb] at e;refine (I.az b u e).iR (λc v hc q=>k c v ?_ q) (λc q=>by rw [ak (ag q hn)];exact q) λc ys q=>by rw [ak (ag q hn)];exact q
     rcases hc with z | z
     . rw[z];exact nc b u e
     . exact nc c _ z
 . intro b hb;obtain⟨f0,f1,f2,f3,f4,f5⟩:=hf b hb;exact⟨f3,f1,f4,f5⟩
theorem P2:aaX "zip" = some (.type "zip"):=by nofun
def O4 (K:W.Frag)(ta:TA):TI:=λZ H R=>ta Z H λvs H1=>∃ a b xs ys,vs=[.ref a,.ref b]/\aI K H1 a xs/\aI K H1 b ys/\R (KD K a b) H1
theorem Qo {K:W.Frag}(q:ta Z H λvs H1=>∃ a b xs ys,vs=[.ref a,.ref b]/\aI K H1 a xs/\aI K H1 b ys/\R (KD K a b) H1):O4 K ta Z H R:=q
variable {Z0:St}
theorem E3 {K:W.Frag}{a b:Addr}{α : Type}{xs:List α}{e1 e2 : α->V}{g:TG}{tc:TT}{te:TE}{Ta:List V->Hp->Prop}(f : α->V)(Sg:St->Prop)(ha:aI K H a (xs.map e1))(hb:aI K H b (xs.map e2))(hz:xs.length<=aal)(h0:Sg Z0)
   (hs:∀ (i:Nat) (x : α) (ys:List V) (Z : St) (H1:Hp) (T:Addr),xs[i]? = some x->iT xs f Sg H i ys Z H1->ao H H1->Sg Z->H1 T=none ->
     g (.ref T) Z (upd H1 T (.tup [e1 x,e2 x])) λZ3 H3=>tc Z3 H3 λb H4=>if b=true then te Z3 H4 λy H5=>iT xs f Sg H (i+1) (ys++[y]) Z3 H5 else iT xs f Sg H (i+1) ys Z3 H4)
   (hd:∀ H1,ao H H1->Ta (xs.map f) H1):iA (KD K a b) g tc te Ta Z0 H:=by
 refine⟨λi m ys Z H1=>m=xs.length - i/\i<=xs.length/\iT xs f Sg H i ys Z H1,⟨xs.length,by simp,aaU _,ao.refl _,h0,rfl⟩,?_⟩;rintro i m ys Z H1 ⟨rfl,hi,c⟩;obtain⟨s,sg,rfl⟩:=id c;by_cases S9:i<xs.length
 . refine .inr ⟨⟨_, _, e1 xs[i], e2 xs[i], cm s ha, cm s hb, by simp [S9], by simp [S9]⟩, iT xs f Sg H (i + 1), λVm Z2 H2 p' => ⟨?_, xs.length - (i + 1), by omega, rfl, S9, p'⟩, λv H2 y => ?_⟩
   . obtain⟨_, _, rfl⟩ := p';rw[aac,aaz];omega
   . obtain ⟨T, x, y', rfl, hT, rfl, hxy⟩ := y;obtain ⟨q1,q2⟩:=hxy _ _ (cm s ha) (cm s hb);have W5:e1 xs[i]=x:=by simpa [S9] using q1
     have e2':e2 xs[i]=y':=by simpa [S9] using q2
     rw[<- W5,<- e2'];exact hs i xs[i] _ Z H1 T (by simp[S9]) c s sg hT
 . have e : i = xs.length := by omega
   subst e;refine .inl ⟨⟨_,_,cm s ha,cm s hb,.inl (by simp)⟩,?_,?_⟩
   . rw[aac,aaz];omega
   . rw[aa1];exact hd H1 s
variable {n:Nat}
theorem RC {K:W.Frag}{a:Addr}{its:Array Value}{od:Option Addr}{sl:Array (Option Value)}(l:K.lookup a=some ⟨.type "tuple",od,.seq its n,sl⟩)(hz:its.size<=aal)(v:aM xs its.toList):∀ H,aI K H a xs:=λH=>.inr ⟨_,its,n,l,rfl,rfl,hz,v⟩
theorem KJ (h:H l=some (.lst (xs++[y])))(q:Q y (upd H l (.lst xs))):MC (.ref l) [] H Q:=by
 refine⟨l,xs++[y],y,rfl,rfl,h,?_,?_⟩
 . simp
 . simpa using q
theorem Jr {b:Addr}{zs:List V}(h:H l=some (.lst xs))(hb:H b=some (.lst zs))(hz:xs.length+zs.length<=aal)(q:Q .aC (upd H l (.lst (xs++zs)))):Dq (.ref l) [.ref b] H Q:=⟨l,b,xs,zs,rfl,rfl,h,hb,hz,q⟩
theorem PS.eV (h:PS X.eV st t):PS X st t:=λgV s Z H D I hw =>
 aaI (h gV s Z H D (I.fQ _) hw) (λ_ _ q=>q.d7) λ_ _ z=>z.elim
theorem PA.eV (h:PA X.eV es t):PA X es t:=λpos gV s Z H Q I hw =>
 aaI (h pos gV s Z H Q (I.fQ _) hw) (λ_ _ zq=>bQ zq λv H' I' r q=>⟨v,H',I'.d7,r,q⟩) λ_ _ z=>z.elim
theorem Gd {P:Program}{w:World}{h0 h5:Heap}{l:List Addr}(x:de P w H h0)(hl:∀ b∈l,H b=none)(k:(ack h0 l).StaysIn h5):de P w H h5:=λa o e=>by
 refine(x a o e).iR (λb u hb q=>k b u (W.hideAll_get _ q λhm=>?_)) (λ_ q=>q) λ_ _ q=>q;have hn:=hl b hm;rcases hb with rfl | hb
 . rw[e] at hn;cases hn
 . rw[hb] at hn;cases hn
theorem H_ {fs:List Addr}{h h0 h5:Heap}{l:List Addr}(u:Un fs [] H H' h h0)(hl:∀ b∈l,b∈fs∨h.objs.size<=b)(k:(ack h0 l).StaysIn h5)(up:h0.UpToSlots h5)
   (hf:∀ b∈fs,H b=none/\∀ o,h.get? b=some o->∀ vs,o.data≠.fields vs):Un fs [] H H' h h5:=by
 have nl:∀ b o,h.get? b=some o->b ∉ fs->b ∉ l:=λb o q hb hm=>by
   rcases hl b hm with z | z
   . exact hb z
   . exact absurd (aaC (aam q) z) (abB _)
 have sl:∀ b o,h.get? b=some o->b∈fs->∃ sl,h5.get? b=some { o with slots:=sl }:=λb o q hb=>by
   obtain⟨s1,e1⟩:=u.slot b o q (hf b hb).1 hb (by simp);obtain⟨s2,e2⟩:=up b _ e1 ((hf b hb).2 o q);exact⟨s2,e2⟩
 refine⟨λb o q n hb hx=>k b o (W.hideAll_get _ (u.keep b o q n hb hx) (nl b o q hb)),λb o q _ hb _=>sl b o q hb,u.free,λb o q hx=>?_,u.j6,u.iS,u.jB⟩;by_cases hb:b∈fs
 . obtain⟨s2, e2⟩ := sl b o q hb;exact⟨_,e2⟩
 . obtain⟨o', e'⟩ := u.there b o q hx;exact⟨o',k b o' (W.hideAll_get _ e' (nl b o q hb))⟩
structure Bp (P:Program)(w:World)(outer:List Env)(H:Hp)(s:Shared)(ea C:Addr)(H':Hp)(s':Shared):Prop where
 os:s'.os=s.os
 bare:AllBare s'.gens
 ex:∃ (h0:Heap) (l:List Addr) (a0:Value),Un (cU outer) [] H H' s.heap h0/\de P w H' h0/\(∀ b∈l,H' b=none/\(b∈cU outer∨s.heap.objs.size<=b))/\h0.get? ea=none /\
   Heap.FlyingW (ack h0 l) outer ea (.ref C) a0 s'.heap/\h0.UpToSlots s'.heap
def eQ (P:Program)(w:World):dM:=λouter H s E e s'=>∃ (ea C:Addr) (H':Hp),e=.ref ea/\Bp P w outer H s ea C H' s'/\E (.ref C) none H'
structure Bi (K:W.Frag)(mg:Str->Option Value)(x:Str)(C:Addr):Prop where
 glob:mg x=some (.ref C)
 ex:W.excIn K C [.type "ValueError",.type "Exception",.type "BaseException",.type "object"] "ValueError.__new__" = true
theorem Bi.obj {K:W.Frag}{mg:Str->Option Value}{h:Heap}(c:Bi K mg x C)(X:K.In h) :
   ∃ (bm:List Value) (N:Addr) (nm qn:Str) (bs:List Value) (hd:Bool) (sn:List Str) (sub:List Value) (ab:Bool) (col:Option Bool) (dd:Option Addr) (k0 k1 k2 k3 k5:Option Value) (mN:Str->Option Value),
     h.get? C=some (acX nm qn C N bs bm hd sn sub ab col dd k0 k1 k2 k3 k5 "ValueError.__new__")/\h.Ns N mN/\mN "__init__" = none /\
     OwnTail h [.type "ValueError",.type "Exception",.type "BaseException",.type "object"] bm:=by
 have hq:=c.ex;unfold W.excIn at hq;split at hq
 . rename_i dd cd sl WN;split at hq
   . rename_i C' bm k0 k1 k2 k3 id k5 VO V9;simp only[aaN,ac0,beq_iff_eq] at hq;obtain⟨⟨⟨⟨⟨e1,e2⟩,e3⟩,e4⟩,e5⟩,e6⟩:=hq;subst e1 e2;obtain⟨nm,bs,mro,ns,qn,hd,sn,sub,ab,col,del⟩:=cd;dsimp only at VO e3 e5 e6;subst VO e3;obtain⟨sl⟩:=sl;dsimp only at V9;subst V9;exact⟨bm,ns,nm,qn,bs,hd,sn,sub,ab,col,dd,k0,k1,k2,k3,k5,_,X _ _ WN,.of_isNs (W.isNs_of_in X e5),W.nsMap_none_of_in X e5 e6,W.tail_of_in X e4⟩
   . cases hq
 . cases hq
def FU (C:Addr)(E:XK)(t:TA):TS:=λ_ Z H=>t Z H λvs H1=>vs.length<=1000/\E (.ref C) none H1
theorem AA (Tg:X.stack=X.env::X.outer)(UI:X.env.frame=some X.env.locals):cU X.stack=X.env.locals::cU X.outer:=by
 rw[Tg];unfold cU;rw[abH,UI]
theorem zU {gV:List (Addr×Obj)}{h':Heap}{e C:Addr}{args:List Value}{Q:Unit->Shared->Prop}{Ex:Value->Shared->Prop}(I:Inv X gV Z H s)
   (Tg:X.stack=X.env::X.outer) (UI:X.env.frame=some X.env.locals) (hex:X.ex=[]) (hx:acR s.heap h' e (.ref C) args)
   (hQ:∀ s',Bp X.prog X.w X.outer X.H₀ X.s₀ e C H s'->Q () s'):wpAny (model X.prog X.w) X.A (leaving X.env (.ref e)) Q Ex { s with heap:=h' }:=by
 have hfs:=AA Tg UI;have WR:∀ env∈X.stack,∀ a,env.frame=some a->a∈cU X.stack:=λenv he b hb=>List.mem_filterMap.mpr ⟨env,he,hb⟩;have hl:s.heap.FunFrames (ack s.heap (cU X.stack)) (X.env::X.outer):=by
   have z:=W.funFrames_hide I.stack WR;rw[Tg] at z ⊢;exact z
 refine wpAny_leaves_madeW (s:={ s with heap:=h' }) (by rw[<- Tg];exact I.ok.frames) UI (λb o q=>W.of_hideAll _ q) hl hx λh2 t x1 _ _ x4=>hQ _ ⟨I.os,I.bare,?_⟩;have hb:=I.base;rw[hex] at hb;refine⟨s.heap,cU X.stack,.ref t,hb,I.az,λb hm=>⟨I.lN b hm,?_⟩,hx.new,x1,(Heap.UpToSlots.of_keeps hx.keeps).trans x4⟩;rw[hfs] at hm;rcases List.mem_cons.mp hm with rfl | hm
 . exact .inr I.ok.above
 . exact .inl hm
theorem nu {P:Program}{w:World}{K:W.Frag}{mg:Str->Option Value}{base:Heap}{N:List Str}{qual:Str}{scope:Scope}{f:Addr}{cd:Value}{A:Around}{outer:List Env}{s0:Shared}{H0:Hp}{E:XK}
   {C:Addr} {x:Str} {np S5 pos:Pos} {e0:Expr} {es:List Expr} {t:TA} (c:Bi K mg x C) (hg:Gl (bW (eQ P w) P w K mg base N qual scope f cd A outer s0 H0 E) x)
   (ha:PA (bW (eQ P w) P w K mg base N qual scope f cd A outer s0 H0 E).eV (e0::es) t) (Tt:(x == ("__debug__" : Str))=false:=by decide)
   (he:aai (e0::es) (bW (eQ P w) P w K mg base N qual scope f cd A outer s0 H0 E).env=(false,eval e0 (bW (eQ P w) P w K mg base N qual scope f cd A outer s0 H0 E).env)::aai es (bW (eQ P w) P w K mg base N qual scope f cd A outer s0 H0 E).env:=by rfl)
   (S6:(backTo S5 (aai es (bW (eQ P w) P w K mg base N qual scope f cd A outer s0 H0 E).env)).any (·.1)=false:=by rfl) :
   PS (bW (eQ P w) P w K mg base N qual scope f cd A outer s0 H0 E) (.Raise (some (.Call (.Name x np) (e0::es) [] S5)) none pos) (FU C E t):=by
 intro gV s Z H D I h;obtain⟨bm,N',nm,qn,bs,hd,sn,sub,ab,col,dd,k0,k1,k2,k3,k5,mN,hC,hN,hni,TL⟩:=c.obj I.ok.mod.uh
 refine wpAny_Raise_call_subU (C:=C) (mN:=mN) (N:=N') (nm:=nm) (q:=qn) (bs:=bs) (bm:=bm) (hdct:=hd) (sn:=sn) (sub:=sub) (ab:=ab) (col:=col) (dd:=dd) (k0:=k0) (k1:=k1) (k2:=k2) (k3:=k3) (k5:=k5)
   abv (by nofun) abv (TL.hasType (by nofun)) (I.ok.hd rfl) (by rw[he];show(false || (backTo S5 (aai es _)).any (·.1))=false;rw[S6];rfl) hni ?_
 refine eT I hg c.glob ⟨rfl,?_⟩ Tt;have T8:=(L3.PA.eV ha) S5 gV s Z H _ I h;rw[he] at T8 ⊢;refine acA (aS T8 λus s1 zq=>?_);obtain⟨vs,H1,I1,r,S4,q⟩:=zq;refine⟨rfl,?_,I1.bk _ _ hC,hN.keeps I1.bk,TL.keeps I1.bk,λh' e hm=>?_⟩
 . show us.length <= aal;rw[<- r.length];exact aaL S4 (by nofun)
 . exact zU (X:=bW (eQ P w) P w K mg base N qual scope f cd A outer s0 H0 E) I1 rfl rfl rfl hm λs' th=>⟨e,C,H1,rfl,th,q⟩
theorem mB {P:Program}{w:World}{K:W.Frag}{mg:Str->Option Value}{base:Heap}{N:List Str}{qual:Str}{scope:Scope}{f:Addr}{cd:Value}{A:Around}{outer:List Env}{s0:Shared}{H0:Hp}{E:XK} :
   dE (eQ P w) (bW (eQ P w) P w K mg base N qual scope f cd A outer s0 H0 E) E:=by
 intro gV Z H s e s' I h;obtain⟨ea,C,H',rfl,⟨os,bare,h0,l,a0,u,az,hl,hn,fl,up⟩,q⟩:=h;show wpAny _ _ (leaving _ (.ref ea)) _ _ s';refine wpAny_leaves_onW (outer:=outer) I.ok.frames rfl fl λh2 fl2 up2=>⟨ea,C,H',rfl,⟨os.trans I.os,bare,h0,l,a0,?_,az,λb hb=>⟨(hl b hb).1,?_⟩,hn,fl2,up.trans up2⟩,q⟩
 . have J := I.call (h' := h0) (g' := s'.gens) (d' := s'.drawn) (t' := s'.toks) (ch := []) u az bare (λb z => absurd z (by simp));exact J.base
 . rcases(hl b hb).2 with z | z
   . have z' : b ∈ cU (envOfC qual scope s0.heap.objs.size f cd :: outer) := z;have e1:cU (envOfC qual scope s0.heap.objs.size f cd::outer)=s0.heap.objs.size::cU outer:=by unfold cU;rw [abH];rfl
     rw[e1] at z';rcases List.mem_cons.mp z' with rfl | z'
     . exact .inr (aag _)
     . exact .inl z'
   . exact .inr (aaL I.sz z)
section
variable {P:Program} {w:World} {K:W.Frag} {mg:Str->Option Value} {base:Heap} {x qual:Str} {st:Stmt} {N ps:List Str} {sp:Sp} {C:Addr} {k:Nat}
def Lp (P:Program)(w:World)(K:W.Frag)(mg:Str->Option Value)(base:Heap)(qual:Str)(st:Stmt)(N:List Str)(f:Addr)(S0:Value)(A:Around)(outer:List Env)(s:Shared)(E:XK)(Q:VK)(H:Hp)(vs:List V):Prop :=
 ∃ t,gj (bW (eQ P w) P w K mg base N qual (ah st) f S0 A outer s H E) (aV st) t/\t { nx:=λ_ H'=>Q .aC H',rt:=Q } (start N vs) H
def y8 (P:Program)(w:World)(K:W.Frag)(mg:Str->Option Value)(base:Heap)(k:Nat)(qual:Str)(st:Stmt)(N:List Str)(sp:Sp):Prop :=
 ∀ (f:Addr) (S0:Value) (A:Around) (outer:List Env) (s:Shared) (H:Hp) (vs:List V) (Q:VK) (E:XK),bI k (A.deeper (envOfC qual (ah st) s.heap.objs.size f S0))->sp vs H Q E ->
   Lp P w K mg base qual st N f S0 A outer s E Q H vs
variable {fd:aa4}
theorem ee.Ka (F:ee K x qual st f fd)(S:aq N ps (ah st))(len:∀ vs H Q E,sp vs H Q E->vs.length=ps.length)(S7:y8 P w K mg base k qual st N sp):c7 P w K mg base (eQ P w) (k+1) f fd ps sp:=by
 obtain⟨oc,od,kV,S8,pm,an,S0,ct,Ts,rfl,lk,Ua⟩:=F.ex;exact qx lk Ua S len λA outer s H vs Q E hr UQ=>S7 f S0 A outer s H vs Q E hr UQ
theorem A9 (k:Nat)(h:∃ f fd,ee K x qual st f fd/\mg x=some (.ref f)/\Binds K fd ps [])(S:aq N ps (ah st))(len:∀ vs H Q E,sp vs H Q E->vs.length=ps.length)
   (S7:y8 P w K mg base k qual st N sp):iJ P w K mg base (eQ P w) (k+1) x sp:=by
 obtain⟨f,fd,F,hm,hb⟩:=h;exact⟨f,fd,ps,ee.Ka F S len S7,hm,F.kp,hb⟩
end
section
variable {X:Cx} {gV:List (Addr×Obj)} {Z : St} {H:Hp} {s:Shared}
abbrev Cx.sup (X:Cx)(e:Addr)(pl:List (Addr×Obj)):Cx:={ X with A:=X.A.mark (some (.ref e)),calm:=false,xe:=λ_ _=>False,pn:=X.pn++pl }
variable {e:Addr}
theorem Cx.Ok.sup (ok:X.Ok):(Cx.sup X e pl).Ok :=
 ⟨ok.mod,ok.kind,ok.glob,ok.blt,ok.above,ok.inj,ok.has,ok.Bq,(λz=>by cases z),ok.frames,ok.Di,ok.Ks,ok.bs,ok.rl,ok.tW,ok.xb,ok.gH,ok.vt⟩
theorem Cx.Ok.um (ok:(Cx.sup X e pl).Ok)(h:X.calm=true->X.A.handled=none):X.Ok :=
 ⟨ok.mod,ok.kind,ok.glob,ok.blt,ok.above,ok.inj,ok.has,ok.Bq,h,ok.frames,ok.Di,ok.Ks,ok.bs,ok.rl,ok.tW,ok.xb,ok.gH,ok.vt⟩
theorem Inv.sup (I:Inv X gV Z H s)(h:∀ p∈pl,s.heap.get? p.1=some p.2/\H p.1=none/\p.1≠X.env.locals/\p.1 ∉ X.fs/\∀ v,p.2.data≠.cell v):Inv (Cx.sup X e pl) gV Z H s :=
 ⟨Cx.Ok.sup I.ok,I.os,I.bare,I.base,I.loc,I.cell,I.free,I.fO,λp hp=>by
   rcases List.mem_append.mp hp with hp | hp
   . rcases List.mem_append.mp hp with hp | hp
     . exact I.pin p (aa6 _ hp)
     . exact h p hp
   . exact I.pin p (aay _ hp),I.az,I.len⟩
theorem Inv.um (I:Inv (Cx.sup X e pl) gV Z H s)(h:X.calm=true->X.A.handled=none):Inv X gV Z H s :=
 ⟨Cx.Ok.um I.ok h,I.os,I.bare,I.base,I.loc,I.cell,I.free,I.fO,λp hp=>by
   rcases List.mem_append.mp hp with hp | hp
   . exact I.pin p (aa6 _ (aa6 _ hp))
   . exact I.pin p (aay _ hp),I.az,I.len⟩
end
def Kr (X:Cx)(gV:List (Addr×Obj))(Z : St)(Ew:XK)(ex:Value)(s':Shared):Prop :=
 ∃ (ea C:Addr) (H1:Hp) (s1:Shared) (H':Hp),ex=.ref ea/\Inv X gV Z H1 s1/\Bp X.prog X.w X.stack H1 s1 ea C H' s'/\Ew (.ref C) none H'
abbrev TB:=Ends->XK->St->Hp->Prop
def PB (X:Cx)(body:List Stmt)(tb:TB):Prop :=
 ∀ (gV:List (Addr×Obj)) (s:Shared) (Z : St) (H:Hp) (D:Ends) (Ew:XK),Inv X gV Z H s->tb D Ew Z H->wpAny (model X.prog X.w) X.A (execs body X.env) (SP X gV D) (Kr X gV Z Ew) s
section
variable {X:Cx} {gV:List (Addr×Obj)} {Z : St} {H:Hp} {s:Shared} {k:Nat} {g x n:Str} {sp:Sp} {e:Expr} {es:List Expr} {t:TA} {gp S5 pos py:Pos}
theorem B3 (G:iJ X.prog X.w X.K X.mg X.base (eQ X.prog X.w) k g sp)(hr:bI k X.A)(hg:Gl X g)(ha:PA X.eV (e::es) t)(I:Inv X gV Z H s)(h:t Z H λvs H1=>sp vs H1 Q Ew)
   (Tt:(g == ("__debug__" : Str))=false) (he:aai (e::es) X.env=(false,eval e X.env)::aai es X.env) (S6:(backTo S5 (aai es X.env)).any (·.1)=false) :
   wpAny (model X.prog X.w) X.A (eval (.Call (.Name g gp) (e::es) [] S5) X.env) (EP X gV Z Q) (Kr X gV Z Ew) s:=by
 obtain⟨f,fd,ps,F,hm,hk,hb⟩:=G.ex;refine abg (eT I hg hm ?_ Tt);refine adw (h₀:=X.base) I.ok.mod.uh hk (aaI (ha S5 gV s Z H _ (I.fQ _) h) (λus s1 zq=>bQ zq λvs H1 I1 r q=>⟨I1.df,?_⟩) λ_ _ z=>z.elim) he S6;have J:Inv X gV Z H1 s1:=I1.d7;have hl:us.length=ps.length:=by rw[<- r.length];exact F.len _ _ _ _ q
 have Vw:=hb s1 us J.df (by rw[aaM];exact hl);rw[aaM] at Vw;refine acO (ab0 (F.run X.A X.stack s1 H1 ⟨us,[]⟩ us vs Q Ew hr J.zP Vw r q) λr2 s' hq=>?_);cases r2 with
 | error ex =>
   obtain⟨ea,C,H',rfl,th,q2⟩:=(show eQ X.prog X.w X.stack H1 s1 Ew ex s' from hq)
   exact⟨ea,C,H1,s1,H',rfl,J,th,q2⟩
 | ok fl =>
   cases fl with
   | ret u=>exact J.after hq
   | next=>exact aaW hq
   | brk=>exact aaW hq
   | cont=>exact aaW hq
def JN (sp:Sp)(i:Nat)(t:TA):TB:=λD Ew Z H=>t Z H λvs H1=>sp vs H1 (λv H2=>D.nx (Z.set i (some v)) H2) Ew
theorem Oz {i:Nat}(hN:X.N.Nodup)(hi:X.N[i]? = some x)(hx:Loc X.env.scope x)(G:iJ X.prog X.w X.K X.mg X.base (eQ X.prog X.w) k g sp)(hr:bI k X.A)(hg:Gl X g)(ha:PA X.eV (e::es) t)
   (hf:X.fn x=true∨X.env.scope.names.lookup x=some .local:=by first | exact .inl rfl | exact .inr rfl | assumption) (Tt:(g == ("__debug__" : Str))=false:=by decide)
   (he:aai (e::es) X.env=(false,eval e X.env)::aai es X.env:=by rfl) (S6:(backTo S5 (aai es X.env)).any (·.1)=false:=by rfl) :
   PB X [.Assign [.Name x py] (.Call (.Name g gp) (e::es) [] S5) pos] (JN sp i t):=by
 intro gV s Z H D Ew I h;refine adu (wpAny_Assign_Name (aaI (B3 G hr hg ha I h Tt he S6) (λv s1 zq=>bQ zq λy H1 I1 r1 q1=>?_) λ_ _ z=>z) rfl);exact m9 I1 hN hi hx r1 (λs2 I2=>abK ⟨_,H1,I2,q1⟩) hf
end
section
variable {X:Cx} {gV:List (Addr×Obj)} {Z : St} {H H1 H':Hp} {s s1 s':Shared} {ea C:Addr}
theorem ku {h0 h5:Heap}{l:List Addr}(I:Inv X gV Z H1 s1)(os:s'.os=s1.os)(bare:AllBare s'.gens)(u:Un (cU X.stack) [] H1 H' s1.heap h0)(az:de X.prog X.w H' h0)
   (hl:∀ b∈l,H' b=none/\(b∈cU X.stack∨s1.heap.objs.size<=b)) (k:(ack h0 l).StaysIn h5) (up:h0.UpToSlots h5):Inv X gV Z H' { s' with heap:=h5 } :=
 I.vc (s':={ s' with heap:=h5 }) os (H_ u (λb hb=>(hl b hb).2) k up λb hb=>⟨I.lN b hb,λo q=>by
   obtain⟨_,o',q',d⟩:=I.stack.mem hb;rw[q] at q';cases q';exact d⟩) (Gd az (λb hb=>(hl b hb).1) k) bare (λb z=>absurd z (by simp))
end
open PySem PySem.Spec PyProof.Rows L2 PySem.SeqAt PySem.W Builtin Builtin.ObjectAttr Builtin.Getset_descriptor
structure Nr (K:W.Frag)(C:Addr):Prop where
 cl:(W.clsIn K C).isSome=true
 ga:abh K (.ref C) "__getattribute__" = some (some (.builtin "BaseException.__getattribute__"))
 gt:abh K (.ref C) "__getattr__" = some none
 co:abh K (.ref C) "__class__" = some (some (.builtin "object.__class__"))
 gs:W.specialIn K (.builtin "object.__class__") "__get__" = some (some (.builtin "getset_descriptor.__get__"))
 tk:W.takesIn K (.builtin "object.__class__")=some true
 mo:W.mroIn K C (.type "object")=some true
 mb:W.mroIn K C (.type "BaseException")=some true
section
variable {prog:Program} {w:World} {A:Around} {E:Value->Shared->Prop} {s:Shared} {K:W.Frag} {x C:Addr} {ox:Obj}
theorem jk {E:XK}{t:TA}{Z : L2.St}(h:t Z H λvs H1=>vs.length<=1000/\E (.ref C) none H1):FU C E t D Z H:=h
end
def ES (K:W.Frag)(a b c:Addr):It :=
 ⟨λi H=>∃ xs ys zs x y u,aI K H a xs/\aI K H b ys/\aI K H c zs/\xs[i]? = some x/\ys[i]? = some y/\zs[i]? = some u,
  λi H v H'=>∃ T x y u,v=.ref T/\H T=none/\H'=upd H T (.tup [x,y,u])/\∀ xs ys zs,aI K H a xs->aI K H b ys->aI K H c zs->xs[i]? = some x/\ys[i]? = some y/\zs[i]? = some u,
  λi H=>∃ xs ys zs,aI K H a xs/\aI K H b ys/\aI K H c zs/\(xs.length<=i∨ys.length<=i∨zs.length<=i)⟩
def JL (K:W.Frag)(ta:TA):TI:=λZ H R=>ta Z H λvs H1=>∃ a b c xs ys zs,vs=[.ref a,.ref b,.ref c]/\aI K H1 a xs/\aI K H1 b ys/\aI K H1 c zs/\R (ES K a b c) H1
theorem NQ {K:W.Frag}(q:ta Z H λvs H1=>∃ a b c xs ys zs,vs=[.ref a,.ref b,.ref c]/\aI K H1 a xs/\aI K H1 b ys/\aI K H1 c zs/\R (ES K a b c) H1):JL K ta Z H R:=q
theorem IH {K:W.Frag}{a b c:Addr}{ys zs:List V}{g:TG}{tb:TS}{D:Ends}(hy:ys.length=xs.length)(hz:zs.length=xs.length)(Pv:Nat->St->Hp->Prop)(h0:Pv 0 Z H)(hl:∀ i Z H,i<=xs.length->Pv i Z H->aI K H a xs/\aI K H b ys/\aI K H c zs)
   (hs:∀ i x y u T Z H,xs[i]? = some x->ys[i]? = some y->zs[i]? = some u->Pv i Z H->H T=none->g (.ref T) Z (upd H T (.tup [x,y,u])) λZ2 H2=>tb { D with nx:=Pv (i+1),ct:=Pv (i+1),bk:=D.nx } Z2 H2) (hd:∀ Z H,Pv xs.length Z H->D.nx Z H):zv (ES K a b c) g tb D Z H:=by
 refine⟨λi m Z H=>m=xs.length - i/\i<=xs.length/\Pv i Z H,⟨xs.length,by simp,aaU _,h0⟩,?_⟩;rintro i m Z H ⟨rfl,hi,p⟩;obtain⟨q1,q2,q3⟩:=hl i Z H hi p;by_cases S9:i<xs.length
 . refine .inr ⟨⟨xs, ys, zs, xs[i], ys[i], zs[i], q1, q2, q3, by simp[S9], by simp[hy, S9], by simp[hz, S9]⟩, Pv (i + 1), λZ' H' p' => ⟨xs.length - (i + 1), by omega, rfl, S9, p'⟩, λx H' y => ?_⟩;obtain⟨T,x',y',u',rfl,hT,rfl,hxy⟩:=y;obtain⟨r1,r2,r3⟩:=hxy _ _ _ q1 q2 q3;exact hs i x' y' u' T Z H r1 r2 r3 p hT
 . have e : i = xs.length := by omega
   subst e;exact .inl ⟨⟨xs,ys,zs,q1,q2,q3,.inl (aag _)⟩,hd Z H p⟩
theorem qa:∀ {vs:List Value} {ns:List Int},IntsAre vs ns->aM (ns.map V.int) vs
 | [],_,h=>by cases h;exact .nil
 | _::_,_,h=>by cases h with | cons n t h=>exact .cons ⟨_,rfl⟩ (qa h)
theorem wU:∀ {vs:List Value} {ns:List Int},vs.length=ns.length->(∀ (j:Nat) (v:Value),vs[j]? = some v->∃ n t,ns[j]? = some n/\v=.int n t)->IntsAre vs ns
 | [],[],_,_=>.nil
 | [],_::_,h,_=>by simp at h
 | _::_,[],h,_=>by simp at h
 | v :: vs, n :: ns, hl, h => by
   obtain⟨n',t,e1,e2⟩:=h 0 v rfl;simp only[List.getElem?_cons_zero,Option.some.injEq] at e1;subst e1 e2;exact .cons _ _ (wU (by simpa using hl) λj u hu=>by
     obtain⟨n2,t2,e3,e4⟩:=h (j+1) u (by simpa using hu);exact⟨n2,t2,by simpa using e3,e4⟩)
def Fv:List V->Hp->VK->Prop:=λxs H Q=>∃ (a:Addr) (kvs:List (Key×V)) (ks:List Int),xs=[.ref a]/\Rd H a (.dK kvs)/\kvs.map (·.1)=ks.map Sum.inl/\ks.length<64 /\
 ∀ (ks':List Int) (p:Addr),ks'.Perm ks->ks'.Pairwise (· <= ·)->H p=none->Q (.ref p) (upd H p (.lst (ks'.map V.int)))
theorem Al (hc:X.calm=true):cX X (.builtin "sorted") Fv:=by
 intro gV s Z H xs us Q I r h;obtain⟨a,kvs,ks,rfl,e,hk,h64,q⟩:=h;obtain⟨u,rfl,rx⟩:=vals1 r;cases rx
 have hh:X.A.handled=none:=I.ok.hd hc;obtain⟨z,hd,vs,TM,dd⟩:=kR I.az e;obtain⟨ep,TU⟩:=dd.dictAt;have hlv:vs.length=ks.length:=by rw[<- TM.length,<- aac (f:=(·.1)) (as:=kvs),hk,aac]
 refine Calls.call_function_entry kind_sorted plain_sorted entry_sorted (args_sorted1 _) ?_;unfold Builtin.«sorted»;refine aad (m:=checkCount "sorted" 1 1 _) (aaj ?_);refine aad (W.kdu_collect (A:=X.A.in1) (W.kdl_dict (knd:=c4 X.prog X.w) (kvs:=vs) (ep:=ep) hd) hh TU (by rw[hlv,aaJ];omega) λh' tk TK hk' T3=>?_);have hl:TK.toList.length=ks.length:=by rw[ab5,<- hlv];exact T3.1
 have hI:IntsAre TK.toList ks:=wU hl λj v hv=>by
   obtain⟨k,x,e1,e2⟩:=T3.2 j v (by rw[<- adg];exact hv);have e3:(kvs.map (·.1))[j]? = some k:=by
     have e4:∀ {kvs:List (Key×V)} {vs:List (Key×Value)},KV kvs vs->kvs.map (·.1)=vs.map (·.1):=λr=>by
       unfold KV at r
       induction r with
       | nil=>rfl
       | cons r1 r2 ih=>rw[aaR,aaR,r1.1,ih]
     rw[e4 TM,aah,e1];rfl
   rw[hk,aah] at e3;obtain⟨n,e5,e6⟩:=Option.map_eq_some_iff.mp e3;rcases cG e2 with ⟨i,t,e7,e8⟩ | ⟨x,t,e7,e8⟩
   . rw[e7] at e6;cases e6
     exact⟨_,t,e5,e8⟩
   . rw[e7] at e6;cases e6
 refine aad (wpAny_newList ?_ (by rw[hl,aaJ];omega));have hoL:(h'.push (seqObj "list" TK.toList.toArray 0)).get? h'.objs.size=some (seqObj "list" TK.toList.toArray 0):=aat _ rfl;show wpAny _ _ _ _ _ { s with heap:=h'.push (seqObj "list" TK.toList.toArray 0),toks:=tk };refine aad (aba (acK slot_list_sort ⟨_,hoL,rfl⟩ entry_list_sort (list_sort_tree hoL hI (by omega) λout ns' a1 a2 a3=>⟨_,rfl,?_⟩) (args_list_sort _)));have I1:Inv X gV Z H { s with heap:=h',toks:=tk }:=I.un (Un.kept hk') (I.az.kept hk');obtain⟨e9,he⟩:=sortedHeap_at (out:=out) hoL;have hn:H h'.objs.size=none:=I1.az.fresh (aag _);refine aaj ⟨_,rfl,.ref h'.objs.size,_,I1.laid (o:=.lst (ns'.map V.int)) (λb o hb'=>?_) (aag _) ⟨?_,out.toList,e9,qa a1,?_⟩,rfl,q ns' _ a2 a3 hn⟩
 . have S9 := aam hb';rw[sortedHeap_old (aaw S9) (by rw[size_push'];exact acs S9)];exact aaf _ hb'
 . rw[aac,a2.length_eq,aaJ];omega
 . exact he
theorem Lc {Q:VK}(h:H a=some (.dK kvs))(hk:kvs.map (·.1)=ks.map Sum.inl)(hl:ks.length<64)
   (q:∀ (ks':List Int) (p:Addr),ks'.Perm ks->ks'.Pairwise (· <= ·)->H p=none->Q (.ref p) (upd H p (.lst (ks'.map V.int)))):Fv [.ref a] H Q:=⟨a,kvs,ks,rfl,.inl h,hk,hl,q⟩
structure lA (K:W.Frag)(dv:Value)(x qual:Str)(st:Stmt)(f:Addr)(fd:aa4):Prop where
 ex:∃ (oc:Value) (od:Option Addr) (da:Addr) (kV S8 pm:Value) (an:Option Addr) (S0 ct:Value) (Ts:Array (Option Value)) (o:Obj) (n:Nat),
   fd=W.fnOf x qual (a_ st) (aV st) (ah st) (.ref da) kV S8 pm an S0 ct/\K.lookup f=some ⟨oc,od,.func fd,Ts⟩/\abR K S0 qual=true/\K.lookup da=some o/\o.data=.seq #[dv] n
 kp:abi K (.ref f)=true
theorem wk {K:W.Frag}{dv:Value}{da:Addr}{n:Nat}{oc dc:Value}{od an dd:Option Addr}{Ts dl:Array (Option Value)}{kV S8 pm S0 ct:Value}(l:K.lookup f=some ⟨oc,od,.func (W.fnOf x qual (a_ st) (aV st) (ah st) (.ref da) kV S8 pm an S0 ct),Ts⟩)
   (d:K.lookup da=some ⟨dc,dd,.seq #[dv] n,dl⟩) (c:abR K S0 qual=true) (k:abi K (.ref f)=true):lA K dv x qual st f (W.fnOf x qual (a_ st) (aV st) (ah st) (.ref da) kV S8 pm an S0 ct) :=
 ⟨⟨oc,od,da,kV,S8,pm,an,S0,ct,Ts,_,n,rfl,l,c,d,rfl⟩,k⟩
section
variable {P:Program} {w:World} {K:W.Frag} {mg:Str->Option Value} {base:Heap} {dv:Value}
variable {N ps:List Str} {fd:aa4}
theorem lA.ok (F:lA K dv x qual st f fd)(S:aq N ps (ah st))(len:∀ vs H Q E,sp vs H Q E->vs.length=ps.length)
   (S7:BodyOk P w K mg base k qual st N sp):c7 P w K mg base cb (k+1) f fd ps sp:=by
 obtain⟨oc,od,da,kV,S8,pm,an,S0,ct,Ts,o,n,rfl,lk,Ua,_,_⟩:=F.ex;refine qx lk Ua S len λA outer s H vs Q E hr UQ=>?_;obtain⟨t,h,q⟩:=S7 f S0 A outer s H vs Q E hr UQ;exact⟨t,h.eV,q⟩
theorem lA.binds {ps:List Str}(F:lA K dv x qual st f fd)
   (h:∀ (da:Addr) (kV S8 pm:Value) (an:Option Addr) (S0 ct:Value) (us:List Value),us.length=ps.length->∃ k:Option (Array Value)->Sem (List (Str×Value)),abW (W.fnOf x qual (a_ st) (aV st) (ah st) (.ref da) kV S8 pm an S0 ct) ⟨us,[]⟩=acq (.ref da) >>= k/\k (some #[dv])=pure (ps.zip us)):Binds K fd ps []:=by
 obtain⟨oc,od,da,kV,S8,pm,an,S0,ct,Ts,o,n,rfl,lk,Ua,ld,ed⟩:=F.ex;intro s us KX hl;rw[aaM] at hl ⊢;obtain⟨k,h1,h2⟩:=h da kV S8 pm an S0 ct us hl;exact .of_defaults rfl (KX _ _ ld) ed h1 h2
theorem lA.uV {ps:List Str}(F:lA K dv x qual st f fd)
   (h:∀ (da:Addr) (kV S8 pm:Value) (an:Option Addr) (S0 ct:Value) (us:List Value),us.length+1=ps.length->∃ k:Option (Array Value)->Sem (List (Str×Value)),abW (W.fnOf x qual (a_ st) (aV st) (ah st) (.ref da) kV S8 pm an S0 ct) ⟨us,[]⟩=acq (.ref da) >>= k/\k (some #[dv])=pure (ps.zip (us++[dv]))):Binds K fd ps [dv]:=by
 obtain⟨oc,od,da,kV,S8,pm,an,S0,ct,Ts,o,n,rfl,lk,Ua,ld,ed⟩:=F.ex;intro s us KX hl;obtain⟨k,h1,h2⟩:=h da kV S8 pm an S0 ct us (by rw[aab] at hl;exact hl);exact .of_defaults rfl (KX _ _ ld) ed h1 h2
end
structure J0 (P:Program)(w:World)(K:W.Frag)(mg:Str->Option Value)(base:Heap)(CX:dM)(k:Nat)(x:Str)(C:Addr)(dV:V)(sp:Sp):Prop where
 ex:∃ (f:Addr) (fd:aa4) (ps:List Str) (dv:Value),Mk K C f/\c7 P w K mg base CX k f fd ps sp/\mg x=some (.ref C)/\Binds K fd ps [dv]/\RelV dV dv
def vb (C:Addr)(dV:V)(sp:Sp)(E:XK)(t:TA):TE:=λZ H Q=>t Z H λvs H1=>∀ x dx,H1 x=none->H1 dx=none->dx≠x ->
 sp (.ref x::(vs++[dV])) (upd (upd H1 dx (.own x)) x (.ins C dx [])) (λv H2=>v=.aC/\Q (.ref x) H2) E
section
variable {X:Cx} {CX:dM} {k:Nat} {C:Addr} {dV:V} {sp:Sp} {E:XK} {x m:Str} {p pos S_:Pos} {e o:Expr} {es:List Expr} {ta:TE} {t:TA}
theorem Js (G : J0 X.prog X.w X.K X.mg X.base CX k x C dV sp)(hr : bI (k + 1) X.A)(hx : dE CX X E)(hg : Gl X x)(ha : PA X (e :: es) t)(Tt : (x == ("__debug__" : Str)) = false := by decide)
   (he:aai (e::es) X.env=(false,eval e X.env)::aai es X.env:=by rfl) (S6:(backTo pos (aai es X.env)).any (·.1)=false:=by rfl):PE X (.Call (.Name x p) (e::es) [] pos) (vb C dV sp E t):=by
 obtain⟨f,fd,ps,dv,M,F,hm,hb,rv⟩:=G.ex;exact Df (p:=p) (pos:=pos) M F hr hg hm hb (.cons rv .nil) hx ha Tt he S6
theorem Ld (q:t Z H λvs H1=>∀ x dx,H1 x=none->H1 dx=none->dx≠x->sp (.ref x::(vs++[dV])) (upd (upd H1 dx (.own x)) x (.ins C dx [])) (λv H2=>v=.aC/\Q (.ref x) H2) E):vb C dV sp E t Z H Q:=q
end
section
variable {P:Program} {w:World} {K:W.Frag} {mg:Str->Option Value} {base:Heap} {x qual:Str} {st:Stmt} {N ps:List Str} {sp:Sp} {C:Addr}
theorem KO {y:Str}{dV:V}(k:Nat)(hy:mg y=some (.ref C))(h:∃ f fd dv,lA K dv "__init__" qual st f fd/\Mk K C f/\Binds K fd ps []/\Binds K fd ps [dv]/\RelV dV dv)(S:aq N ps (ah st))(len:∀ vs H Q E,sp vs H Q E->vs.length=ps.length)
   (S7:BodyOk P w K mg base k qual st N sp):CS P w K mg base cb (k+1) y C sp/\J0 P w K mg base cb (k+1) y C dV sp:=by
 obtain⟨f,fd,dv,F,hm,hb,UB,rv⟩:=h;exact⟨⟨f,fd,ps,hm,F.ok S len S7,hy,hb⟩,⟨f,fd,ps,dv,hm,F.ok S len S7,hy,UB,rv⟩⟩
end
end L3
namespace FB
open PySem PySem.Spec PyProof.Rows L2 L3 PySem.SeqAt
inductive Rw where
 | set (b n:Int) | copy (b o:Int) | add (b o t:Int) | sub (b o t:Int) | mul (b o t:Int) | less (b o t:Int)
 | grow (m:Int) | shrink (m:Int) | put (b c:Int) | get (b c:Int)
 | dr (t:Int) | branch (b t:Int) | call (t:Int) | back (b:Int) | drop (b:Int)
def aH (b:Int):Prop:=0<=b/\b<=7
def isVal (n:Int):Prop:=0<=n/\n<=4294967295
def aF (n:Int):Prop:=0<=n/\n<=4000
def aN (n:Int):Prop:=0<=n/\n<=2000
def Rw.ok:Rw->Prop
 | .set b n=>aH b/\isVal n
 | .copy b o=>aH b/\aH o
 | .add b o t | .sub b o t | .mul b o t | .less b o t=>aH b/\aH o/\aH t
 | .grow m | .shrink m=>aF m
 | .put b c | .get b c=>aH b/\aF c
 | .dr t | .call t=>aN t
 | .branch b t=>aH b/\aN t
 | .back b | .drop b=>aH b
def gI (xs:List Int)(i:Int):Int:=xs.getD i.toNat 0
def sI (xs:List Int)(i v:Int):List Int:=xs.set i.toNat v
theorem dw (xs:List Int)(i v:Int):(sI xs i v).length=xs.length:=by unfold sI;exact aa0 ..
variable {i:Int} {xs:List Int}
theorem PN (h0 : 0<=i)(h1:i<xs.length):cT (xs.map V.int) i=some (.int (gI xs i)):=by
 have e:i=((i.toNat:Nat):Int):=by omega
 have hl:i.toNat<xs.length:=by omega
 have z:cT (xs.map V.int) ((i.toNat:Nat):Int)=some (.int (gI xs i)):=bG (by
   rw[aah,aaa hl];simp[gI,List.getD,aaa hl])
 rw[<- e] at z;exact z
theorem Be {xs:List V}(h0 : 0<=i)(h1:i<xs.length):oq xs.length i=some i.toNat:=by
 unfold oq;rw[if_pos h0,if_pos h1]
theorem MQ (xs:List Int)(i v:Int):(xs.map V.int).set i.toNat (.int v)=(sI xs i v).map V.int:=by
 unfold sI;rw[List.map_set]
variable {H:Hp} {p:Addr}
theorem MG {k v:Int}{Q:Hp->Prop}(h:H p=some (.lst (xs.map V.int)))(h0 : 0<=k)(h1:k<xs.length)(q:Q (upd H p (.lst ((sI xs k v).map V.int)))):D1 (.ref p) (.int k) (.int v) H Q :=
 mG h (Be h0 (by rw[aac];exact h1)) (by rw[MQ];exact q)
variable {Q:VK}
theorem N1 {K:W.Frag}(h:ar K H p (xs.map V.int))(q:Q (.int xs.length) H):iQ K [.ref p] H Q:=dQ h (by rw[aac];exact q)
theorem Ia (h:H l=some (.lst [.int n]))(h0 : 0<=k)(h1:k<=4001)(q:∀ p,H p=none->Q (.ref p) (upd H p (.lst ((aau k.toNat n).map V.int)))):AY (.ref l) (.int k) H Q:=by
 refine .inr ⟨l,k,_,rfl,rfl,h,by omega,by omega,?_,λp hp=>?_⟩
 . show 1 * k.toNat <= aal;rw[aaJ];omega
 . have e : (aau k.toNat [V.int n]).flatten = (aau k.toNat n).map V.int := by
     generalize k.toNat=j
     induction j with
     | zero=>rfl
     | succ j ih=>rw[abu,acm,ih,abu];rfl
   rw[e];exact q p hp
theorem IQ {K:W.Frag}{a b:Addr}{ys:List Int}(ha:H a=some (.lst (xs.map V.int)))(hb:H b=some (.lst (ys.map V.int)))(hz:xs.length+ys.length<=aal)(q:∀ p,H p=none->Q (.ref p) (upd H p (.lst ((xs++ys).map V.int)))) :
   eE K (.ref a) (.ref b) H Q:=qA ha hb (by rw[aac,aac];exact hz) (by rw[<- aaE];exact q)
def cR (xs:List Int)(lo hi:Option Int):List Int:=(xs.drop (HT.bh xs.length 0 lo)).take (HT.bh xs.length xs.length hi - HT.bh xs.length 0 lo)
theorem Jo (xs:List Int)(lo hi:Option Int):fS (xs.map V.int) lo hi=(cR xs lo hi).map V.int:=by
 unfold fS cR;rw[aac,List.map_take,List.map_drop]
theorem zX (xs:List Int)(lo hi:Option Int):(cR xs lo hi).length<=xs.length:=by
 unfold cR;rw[aaz,abz];omega
theorem fU (xs:List Int)(h0 : 0<=k):cR xs none (some k)=xs.take k.toNat:=by
 unfold cR;have e:HT.bh xs.length 0 none=0:=rfl;have e2:HT.bh xs.length xs.length (some k)=min k.toNat xs.length:=by
   show(if k<0 then _ else _)=_;rw[if_neg (by omega)]
 rw[e,e2,List.drop_zero,Nat.sub_zero];rcases Nat.le_total k.toNat xs.length with h | h
 . rw[adq h]
 . rw[Nat.min_eq_right h,aa1,adf h]
theorem Qj {K:W.Frag}{lo hi:Option Int}(h:ar K H p (xs.map V.int))(q:∀ l,H l=none->Q (.ref l) (upd H l (.lst ((cR xs lo hi).map V.int)))):jr K (.ref p) lo hi H Q :=
 JZ h (by rw[Jo];exact q)
def Rw.run:Rw->Int->List Int->List Int->Option (Int×List Int×List Int)
 | .set b n,a,bs,pl=>some (a+1,sI bs b n,pl)
 | .copy b o,a,bs,pl=>some (a+1,sI bs b (gI bs o),pl)
 | .add b o t,a,bs,pl=>some (a+1,sI bs b ((gI bs o+gI bs t)%4294967296),pl)
 | .sub b o t,a,bs,pl=>some (a+1,sI bs b ((gI bs o - gI bs t)%4294967296),pl)
 | .mul b o t,a,bs,pl=>some (a+1,sI bs b ((gI bs o*gI bs t)%4294967296),pl)
 | .less b o t,a,bs,pl=>some (a+1,sI bs b (if gI bs o<gI bs t then 1 else 0),pl)
 | .grow m,a,bs,pl=>if (pl.length:Int)+m > 4000 then none else some (a+1,bs,pl++aau m.toNat 0)
 | .shrink m,a,bs,pl=>if (pl.length:Int)<m then none else some (a+1,bs,pl.take (pl.length - m.toNat))
 | .put b c,a,bs,pl=>if (pl.length:Int)<=c then none else some (a+1,bs,sI pl (pl.length - 1 - c) (gI bs b))
 | .get b c,a,bs,pl=>if (pl.length:Int)<=c then none else some (a+1,sI bs b (gI pl (pl.length - 1 - c)),pl)
 | .dr t,_,bs,pl=>some (t,bs,pl)
 | .branch b t,a,bs,pl=>some (if gI bs b=0 then a+1 else t,bs,pl)
 | .call t,a,bs,pl=>some (t,sI bs 7 (a+1),pl)
 | .back b,_,bs,pl=>some (gI bs b,bs,pl)
 | .drop _,_,_,_=>none
def Rw.dz:Rw->Int->List Int
 | .dr t,_=>[t]
 | .branch _ t,a=>[a+1,t]
 | .back _,_=>[]
 | .drop _,_=>[]
 | _,a=>[a+1]
theorem HL (r:Rw)(n:Int):(r.dz n).length<=2:=by cases r <;> simp[Rw.dz]
def Rw.aE:Rw->Int->Option Int
 | .grow m,h=>if h+m > 4000 then none else some (h+m)
 | .shrink m,h=>if h<m then none else some (h - m)
 | .put _ c,h=>if h<=c then none else some h
 | .get _ c,h=>if h<=c then none else some h
 | _,h=>some h
def fo (s p src:Nat):Nat:=if s &&& src=0 then Bt.wo s p else s ||| p
def Rw.keep:Rw->Nat->Int->Nat
 | .set b _,s,_ | .add b _ _,s,_ | .sub b _ _,s,_ | .mul b _ _,s,_ | .less b _ _,s,_=>Bt.wo s (2 ^ b.toNat)
 | .copy b o,s,_=>fo s (2 ^ b.toNat) (2 ^ o.toNat)
 | .shrink m,s,h=>Bt.wo s ((2 ^ m.toNat - 1)*2 ^ (8+h - m).toNat)
 | .put b c,s,h=>fo s (2 ^ (8+h - 1 - c).toNat) (2 ^ b.toNat)
 | .get b c,s,h=>fo s (2 ^ b.toNat) (2 ^ (8+h - 1 - c).toNat)
 | .call _,s,_=>Bt.wo s 143
 | _,s,_=>s
def Rw.eU:Rw->Str×List Int
 | .set b n=>("set",[b,n])
 | .copy b o=>("copy",[b,o])
 | .add b o t=>("add",[b,o,t])
 | .sub b o t=>("sub",[b,o,t])
 | .mul b o t=>("mul",[b,o,t])
 | .less b o t=>("less",[b,o,t])
 | .grow m=>("grow",[m])
 | .shrink m=>("shrink",[m])
 | .put b c=>("put",[b,c])
 | .get b c=>("get",[b,c])
 | .dr t=>("jump",[t])
 | .branch b t=>("branch",[b,t])
 | .call t=>("call",[t])
 | .back b=>("back",[b])
 | .drop b=>("drop",[b])
def Rw.mY:Rw->List (Str×V)
 | .set b n=>au "number" (.int n) (au "box" (.int b) [])
 | .copy b o=>au "one" (.int o) (au "box" (.int b) [])
 | .add b o t | .sub b o t | .mul b o t | .less b o t=>au "other" (.int t) (au "one" (.int o) (au "box" (.int b) []))
 | .grow m | .shrink m=>au "many" (.int m) []
 | .put b c | .get b c=>au "cell" (.int c) (au "box" (.int b) [])
 | .dr t | .call t=>au "target" (.int t) []
 | .branch b t=>au "target" (.int t) (au "box" (.int b) [])
 | .back b | .drop b=>au "box" (.int b) []
structure bH where
 SX:Addr
 cO:Addr
 bX:Addr
 cI:Addr
 QJ:Addr
 Qm:Addr
 NN:Addr
 ck:Addr
 bB:Addr
 cN:Addr
 cM:Addr
 cp:Addr
 bz:Addr
 aZ:Addr
 ba:Addr
 be:Addr
 Pw:Addr
 PD:Addr
 ql:Addr
 L9:Addr
 fk:Addr
 Ra:Addr
 b3:Addr
 QM:Addr
 ax:Addr
 dI:Addr
 Pu:Addr
 RV:Addr
 Rq:Addr
 ji:Addr
 RZ:Addr
 Rl:Addr
 gk:Addr
 iz:Addr
 RY:Addr
 Px:Addr
def Rw.cls (a:bH):Rw->Addr
 | .set ..=>a.cO
 | .copy ..=>a.bX
 | .add ..=>a.cI
 | .sub ..=>a.QJ
 | .mul ..=>a.Qm
 | .less ..=>a.NN
 | .grow ..=>a.ck
 | .shrink ..=>a.bB
 | .put ..=>a.cN
 | .get ..=>a.cM
 | .dr ..=>a.cp
 | .branch ..=>a.bz
 | .call ..=>a.aZ
 | .back ..=>a.ba
 | .drop ..=>a.be
def bD (a:bH)(H:Hp)(p:Addr)(r:Rw):Prop:=∃ dx,H p=some (.ins (r.cls a) dx r.mY)
theorem bD.same (h:bD a H p r)(s:ao H H'):bD a H' p r:=let ⟨dx,e⟩:=h;⟨dx,s _ _ e⟩
def xV:Sp:=λvs H Q _=>∃ n top:Int,vs=[.int n,.int top]/\0<=n/\n<=top/\Q (.int n) H
def xQ (K:W.Frag):Sp:=λvs H Q _=>∃ (p:Addr) (xs:List Int) (b v:Int),vs=[.ref p,.int b,.int v]/\ar K H p (xs.map V.int)/\0<=b/\b<xs.length /\
 ∀ q,H q=none->Q (.ref q) (upd H q (.lst ((sI xs b v).map V.int)))
def uF (H:Hp)(x dx C:Addr)(fs:List (Str×V))(Q:VK):Prop:=H x=some (.ins C dx [])/\∀ H',(∀ b o,H b=some o->b≠x->H' b=some o)->H' x=some (.ins C dx fs)->Q .aC H'
def lG (C:Addr)(mk:Int->Rw):Sp:=λvs H Q _=>∃ (x dx:Addr) (i:Int),vs=[.ref x,.int i]/\(mk i).ok/\uF H x dx C (mk i).mY Q
def ma (C:Addr)(mk:Int->Int->Rw):Sp:=λvs H Q _=>∃ (x dx:Addr) (i j:Int),vs=[.ref x,.int i,.int j]/\(mk i j).ok/\uF H x dx C (mk i j).mY Q
def Fi (C:Addr)(mk:Int->Int->Int->Rw):Sp:=λvs H Q _=>∃ (x dx:Addr) (i j k:Int),vs=[.ref x,.int i,.int j,.int k]/\(mk i j k).ok/\uF H x dx C (mk i j k).mY Q
variable {x:Addr}
theorem Dg (hc:r.cls a=C)(q:∀ p H',ao H H'->H p=none->bD a H' p r->Q (.ref p) H')(hx:H x=none)(UW:H dx=none) :
   uF (upd (upd H dx (.own x)) x (.ins C dx [])) x dx C r.mY (λv H2=>v=.aC/\Q (.ref x) H2):=by
 refine⟨aa,λH' kp hH'=>⟨rfl,q x H' (λb o e=>?_) hx ⟨dx,by rw[hc];exact hH'⟩⟩⟩;exact kp b o (by rw[ak (ag e hx),ak (ag e UW)];exact e) (ag e hx)
theorem Br (hk:(mk i j).ok)(hc:(mk i j).cls a=C)(q:∀ p H',ao H H'->H p=none->bD a H' p (mk i j)->Q (.ref p) H') :
   ∀ x dx,H x=none->H dx=none->dx≠x->ma C mk (.ref x::[.int i,.int j]) (upd (upd H dx (.own x)) x (.ins C dx [])) (λv H2=>v=.aC/\Q (.ref x) H2) E:=λx dx hx UW _=>⟨x,dx,i,j,rfl,hk,Dg hc q hx UW⟩
theorem Nb (hk:(mk i j k).ok)(hc:(mk i j k).cls a=C)(q:∀ p H',ao H H'->H p=none->bD a H' p (mk i j k)->Q (.ref p) H') :
   ∀ x dx,H x=none->H dx=none->dx≠x->Fi C mk (.ref x::[.int i,.int j,.int k]) (upd (upd H dx (.own x)) x (.ins C dx [])) (λv H2=>v=.aC/\Q (.ref x) H2) E:=λx dx hx UW _=>⟨x,dx,i,j,k,rfl,hk,Dg hc q hx UW⟩
theorem oO:∀ b o,H b=some o->b≠x->upd (upd H x o1) x o2 b=some o:=λb o e ne=>by rw[ak ne,ak ne];exact e
theorem lH:∀ b o,H b=some o->b≠x->upd H x o1 b=some o:=λb o e ne=>by rw[ak ne];exact e
theorem Ij:∀ b o,H b=some o->b≠x->upd (upd (upd H x o1) x o2) x o3 b=some o:=λb o e ne=>by rw[ak ne,ak ne,ak ne];exact e
def gX (H:Hp)(Q:VK):Option (Int×List Int×List Int)->Prop
 | none=>∀ H',ao H H'->Q .aC H'
 | some (n,bs,pl)=>∀ (t b p:Addr) (H':Hp),ao H H'->H t=none->H b=none->H p=none->t≠b->t≠p->b≠p->H' t=some (.tup [.int n,.ref b,.ref p])->H' b=some (.lst (bs.map V.int))->H' p=some (.lst (pl.map V.int))->Q (.ref t) H'
def d6 (K:W.Frag)(a:bH)(r:Rw):Sp:=λvs H Q _=>∃ (x b p:Addr) (n:Int) (bs pl:List Int),vs=[.ref x,.int n,.ref b,.ref p]/\bD a H x r/\r.ok/\ar K H b (bs.map V.int)/\bs.length=8/\(∀ v∈bs,isVal v) /\
 ar K H p (pl.map V.int)/\pl.length<=4000/\gX H Q (r.run n bs pl)
def ei (a:bH)(r:Rw):Sp:=λvs H Q _=>∃ (x:Addr) (n:Int),vs=[.ref x,.int n]/\bD a H x r/\∀ p,H p=none->Q (.ref p) (upd H p (.lst ((r.dz n).map V.int)))
def bN:Option Int->V
 | none=>.aC
 | some i=>.int i
def c_ (a:bH)(r:Rw):Sp:=λvs H Q _=>∃ (x:Addr) (h:Int),vs=[.ref x,.int h]/\bD a H x r/\Q (bN (r.aE h)) H
def dD (a:bH)(r:Rw):Sp:=λvs H Q _=>∃ (x:Addr) (s:Nat) (h:Int),vs=[.ref x,.int (s:Int),.int h]/\bD a H x r/\r.ok/\0<=h/\h<=4000/\(r.aE h).isSome=true/\Q (.int (r.keep s h:Nat)) H
def Dh:Sp:=λvs H Q _=>∃ b:Int,vs=[.int b]/\0<=b/\b<=7/\Q (.int ((2 ^ b.toNat:Nat):Int)) H
def zo:Sp:=λvs H Q _=>∃ c h:Int,vs=[.int c,.int h]/\0<=c/\c<h/\h<=4000/\Q (.int ((2 ^ (8+h - 1 - c).toNat:Nat):Int)) H
def xv:Sp:=λvs H Q _=>∃ s p:Nat,vs=[.int (s:Int),.int (p:Int)]/\Q (.int (Bt.wo s p:Nat)) H
def A0:Sp:=λvs H Q _=>∃ s p t:Nat,vs=[.int (s:Int),.int (p:Int),.int (t:Int)]/\Q (.int (fo s p t:Nat)) H
variable {E:XK}
theorem Ln (h0 : 0<=b)(h1:b<=7)(q:Q (.int ((2 ^ b.toNat:Nat):Int)) H):Dh [.int b] H Q E:=⟨b,rfl,h0,h1,q⟩
theorem Jv (h0 : 0<=c)(h1:c<h)(h2:h<=4000)(q:Q (.int ((2 ^ (8+h - 1 - c).toNat:Nat):Int)) H):zo [.int c,.int h] H Q E:=⟨c,h,rfl,h0,h1,h2,q⟩
theorem xC {s p:Nat}(q:Q (.int (Bt.wo s p:Nat)) H):xv [.int (s:Int),.int (p:Int)] H Q E:=⟨s,p,rfl,q⟩
theorem Hy {s p t:Nat}(q:Q (.int (fo s p t:Nat)) H):A0 [.int (s:Int),.int (p:Int),.int (t:Int)] H Q E:=⟨s,p,t,rfl,q⟩
theorem FO (h0 : 0<=n)(h1:n<=top)(q:Q (.int n) H):xV [.int n,.int top] H Q E:=⟨n,top,rfl,h0,h1,q⟩
theorem Ff {K:W.Frag}{b v:Int}{E:XK}(h:ar K H p (xs.map V.int))(h0 : 0<=b)(h1:b<xs.length)(q:∀ q,H q=none->Q (.ref q) (upd H q (.lst ((sI xs b v).map V.int)))) :
   xQ K [.ref p,.int b,.int v] H Q E:=⟨p,xs,b,v,rfl,h,h0,h1,q⟩
theorem eZ (hb:H b=none)(hp:upd H b (.lst (bs.map V.int)) p=none)(ht:upd (upd H b (.lst (bs.map V.int))) p (.lst (pl.map V.int)) t=none)(q:gX H Q (some (n,bs,pl))) :
   Q (.ref t) (upd (upd (upd H b (.lst (bs.map V.int))) p (.lst (pl.map V.int))) t (.tup [.int n,.ref b,.ref p])):=by
 have h1:=bw hp;have h2:=bw ht;have h3:=bw h2.1;refine q t b p _ ((ae hb).trans ((ae hp).trans (ae ht))) h3.1 hb h1.1 h3.2 h2.2 h1.2.symm aa ?_ ?_
 . rw[ak h3.2.symm,ak h1.2.symm,aa]
 . rw[ak h2.2.symm,aa]
def cellAt (ns:List Int)(k:Int):Int:=ns.getD k.toNat 0
def ip (K:W.Frag):Sp:=λvs H Q _=>∃ (p:Addr) (ns:List Int) (k:Int),vs=[.ref p,.int k]/\ar K H p (ns.map V.int)/\0<=k/\Q (.int (cellAt ns k)) H
theorem HR {K:W.Frag}{ns:List Int}{k:Int}(h:ar K H p (ns.map V.int))(h0 : 0<=k)(q:Q (.int (cellAt ns k)) H):ip K [.ref p,.int k] H Q E:=⟨p,ns,k,rfl,h,h0,q⟩
theorem DP (h0 : 0<=k)(h : ¬ k<ns.length):cellAt ns k=0:=by
 unfold cellAt;rw[aar,abS (by omega)];rfl
def qD (K:W.Frag):Sp:=λvs H Q _=>∃ (a:Addr) (ns:List Int),vs=[.ref a]/\ar K H a (ns.map V.int)/\ns.length<=63/\∀ H',Q (.bl true) H'
variable {f:Str}
theorem aJ (h:f≠g)(e:fs.lookup f=some w):(au g v fs).lookup f=some w:=by rw[fL,if_neg h];exact e
theorem cz:(au f v fs).lookup f=some v:=by rw[fL,if_pos rfl]
theorem g9 (h:f≠g)(e:fs.lookup f=none):(au g v fs).lookup f=none:=by rw[fL,if_neg h];exact e
theorem aL (e:fs.length<=n):(au f v fs).length<=n+1:=aaL (lE _ _ _) (adb e)
end FB
namespace L3
open PySem PySem.Spec PyProof.Rows L2 PySem.SeqAt
section
variable {prog:Program} {w:World} {A:Around} {E:Value->Shared->Prop} {h:Heap} {g:Array GenState} {d:Drawn} {t:Nat} {os:OsState}
variable {nm q:Str} {C N:Addr} {bs bm W6:List Value} {hdct:Bool} {sn:List Str} {sub:List Value} {ab:Bool} {col:Option Bool} {dd:Option Addr} {k0 k1 k2 k3 k5:Option Value} {B Bn newId nid UN inN:String} {bmN:List Value}
theorem yJ (Fn:ac3 Bn newId inN bmN)(hBn:W6.contains (.type Bn)=true)(F:ac3 B nid UN W6)(T:OwnTail h W6 bm) 
   (hC:h.get? C=some (acX nm q C N bs bm hdct sn sub ab col dd k0 k1 k2 k3 k5 newId)) (hn:h.Ns N mN) (hi:mN "__init__" = some (.ref fI)) (hfI:h.get? fI=some oI) (hfc:oI.cls=.type "function")
   (hq:∀ h' e,acR h h' e (.ref C) rest->h.objs.size<=e->wpAny (model prog w) A (call (.ref fI) (.ref e::rest)) (λr s'=>r=.none/\Q (.done (.ret (.ref e))) s') E ⟨h',g,d,t,os⟩) (UD:rest.length<=aal) :
   wpAny (model prog w) A (Builtin.«type.__call__» ⟨.ref C::rest,[]⟩) Q E ⟨h,g,d,t,os⟩:=by
 repeat (first | with_reducible refine acB hC ?_ | with_reducible refine wpAny_madeBy_exc hC ?_ | wp_step)
 refine codeAny_call_builtin_code (adQ _ Fn.quiet) (wpAny_check_new_subU Fn hBn T hC (codeAny_exc_new_subU Fn hBn F T hC ?_ UD));show wpAny _ _ _ _ _ _;have up:∀ b o,h.get? b=some o->((h.push { cls:=.type "tuple",data:=.seq rest.toArray }).push { cls:=.ref C,data:=.fields #[.ref h.objs.size,.none,.none,.none,.bool false,.none] }).get? b=some o :=
   λb o e=>aaf _ (aaf _ e)
 have hget : ((h.push { cls := .type "tuple", data := .seq rest.toArray }).push { cls := .ref C, data := .fields #[.ref h.objs.size, .none, .none, .none, .bool false, .none] }).get? (h.objs.size + 1) = some
     { cls:=.ref C,data:=.fields #[.ref h.objs.size,.none,.none,.none,.bool false,.none] }:=by heap_get
 have htup:((h.push { cls:=.type "tuple",data:=.seq rest.toArray }).push { cls:=.ref C,data:=.fields #[.ref h.objs.size,.none,.none,.none,.bool false,.none] }).get? h.objs.size=some { cls:=.type "tuple",data:=.seq rest.toArray } :=
   aaf _ (Heap.get?_push_at rfl rfl)
 have hC':=up _ _ hC;have hf':=up _ _ hfI;have hn':=hn.keeps up;have T':=T.keeps up;have hm:acR h ((h.push { cls:=.type "tuple",data:=.seq rest.toArray }).push { cls:=.ref C,data:=.fields #[.ref h.objs.size,.none,.none,.none,.bool false,.none] }) (h.objs.size+1) (.ref C) rest :=
   ⟨up,adv (abm _),h.objs.size,hget,adv (aag _),htup⟩
 have go:=hq _ _ hm (abm _);generalize ((h.push { cls:=.type "tuple",data:=.seq rest.toArray }).push { cls:=.ref C,data:=.fields #[.ref h.objs.size,.none,.none,.none,.bool false,.none] })=h1 at *;generalize h.objs.size+1=e at *;have hcC:(Td C::bm).contains (.ref C)=true:=by simp
 unfold isInstance;repeat (first | with_reducible refine acB hget ?_ | (with_reducible refine wpAny_isSubtype_exc hC' ?_;rw[hcC]) | wp_step)
 show wpAny _ _ (adM (.ref C) _) _ _ _;refine wpAny_typeLookup_tail hC' hn' T' F.mroIs F.init.lookup ?_;rw[hi];refine aba (aad ?_);unfold bindSpecial;refine aad (wpAny_typeOf (T:="function") ⟨_,hf',hfc⟩ ?_);rw[if_pos (by decide)];refine aaj (aad (aaI go (λr s' hr=>?_) λ_ _ x=>x));obtain⟨rfl,hQ⟩:=hr
 wp_walk
 exact hQ
theorem yR (Fn:ac3 Bn newId inN bmN)(hBn:W6.contains (.type Bn)=true)(F:ac3 B nid UN W6)(T:OwnTail h W6 bm) 
   (hC:h.get? C=some (acX nm q C N bs bm hdct sn sub ab col dd k0 k1 k2 k3 k5 newId)) (hn:h.Ns N mN) (hi:mN "__init__" = some (.ref fI)) (hfI:h.get? fI=some oI) (hfc:oI.cls=.type "function")
   (hq:∀ h' e,acR h h' e (.ref C) rest->h.objs.size<=e->wpAny (model prog w) (A.under (.builtin "type.__call__" ⟨.ref C::rest,[]⟩)) (call (.ref fI) (.ref e::rest)) (λr s'=>r=.none/\Q (.ref e) s') E ⟨h',g,d,t,os⟩) (UD:rest.length<=aal) :
   wpAny (model prog w) A (call (.ref C) rest) Q E ⟨h,g,d,t,os⟩:=by
 have f1:=tc_lookup;have f2:=tc_bind (.ref C);have hT:(⟨h,g,d,t,os⟩:Shared).TypeIs (.ref C) "type":=⟨_,hC,rfl⟩
 refine acO (codeAny_of_tree ?_);show wpAny _ _ (callAny (.ref C) _) _ _ _;repeat (any_goals (first | assumption | with_reducible refine acB hC ?_ | wp_step))
 exact⟨rfl,codeAny_call_builtin_at (adQ _ (by nofun)) entry_typeCall (wpAny_check_type_call_sub hC (yJ Fn hBn F T hC hn hi hfI hfc (λh' e hm hz=>hq h' e hm hz) UD))⟩
end
def XB (e C:Addr)(od:Option Addr):HO:=.ext λh=>∃ t,h.get? e=some { cls:=.ref C,dict:=od,data:=.fields #[.ref t,.none,.none,.none,.bool false,.none] }
variable {od:Option Addr} {e C:Addr} {h:Heap} {H:Hp}
theorem DQ (q:h.get? e=some { cls:=.ref C,dict:=od,data:=.fields #[.ref t,.none,.none,.none,.bool false,.none] }):b9 P w H h e (XB e C od) :=
 ⟨⟨t,q⟩,⟨_,q⟩,λ_ _ ⟨t,z⟩ k=>⟨t,k _ z⟩⟩
theorem yU (x:de P w H h)(q:H e=some (XB e C od)):∃ t,h.get? e=some { cls:=.ref C,dict:=od,data:=.fields #[.ref t,.none,.none,.none,.bool false,.none] }:=(x e _ q).1
theorem Oa (h:H a=some o):upd H a o=H:=by
 funext b;unfold upd;split
 . rename_i z;rw[z,h]
 . rfl
variable {mN:Str->Option Value}
theorem Ea {K:W.Frag}{N:Addr}{n:Str}{v:Value}(X:K.In h)(G:h.Ns N mN)(e:W.nsIn K N n=some (some v)):mN n=some v:=by
 obtain⟨o,es,ep,ho,hd,_,hf⟩:=G;unfold W.nsIn at e;split at e
 . rename_i q
   have:=X _ _ q
   rw[ho] at this;cases this
   cases hd
   split at e
   . rename_i y he;rw[<- hf];unfold nsFind findBy;rw[<- Array.find?_toList,he];exact aax e
   . split at e <;> cases e
 . cases e
def qU (K:W.Frag)(C f:Addr):Bool:=match K.lookup C with
 | some ⟨.type "type", _, .cls cd, sl⟩ => (match cd.mro, sl.toList with
   | .ref C'::bm,[_,_,_,_,some (.builtin n),_]=>C' == C && n == "ValueError.__new__" && !cd.hasDel && W.tailIn K [.type "ValueError",.type "Exception",.type "BaseException",.type "object"] bm && W.nsOkIn K cd.ns && W.nsIn K cd.ns "__init__" == some (some (.ref f)) && W.typeIn K (.ref f) == some (.type "function")
   | _,_=>false)
 | _=>false
structure k9 (K:W.Frag)(mg:Str->Option Value)(x:Str)(C f:Addr):Prop where
 glob:mg x=some (.ref C)
 ex:qU K C f=true
variable {f:Addr} {x:Str}
theorem k9.obj {K:W.Frag}{mg:Str->Option Value}(c:k9 K mg x C f)(X:K.In h) :
   ∃ (bm:List Value) (N:Addr) (nm qn:Str) (bs:List Value) (hd:Bool) (sn:List Str) (sub:List Value) (ab:Bool) (col:Option Bool) (dd:Option Addr) (k0 k1 k2 k3 k5:Option Value) (mN:Str->Option Value) (o:Obj),
     h.get? C=some (acX nm qn C N bs bm hd sn sub ab col dd k0 k1 k2 k3 k5 "ValueError.__new__")/\h.Ns N mN/\mN "__init__" = some (.ref f) /\
     OwnTail h [.type "ValueError",.type "Exception",.type "BaseException",.type "object"] bm/\h.get? f=some o/\o.cls=.type "function":=by
 have hq:=c.ex;unfold qU at hq;split at hq
 . rename_i dd cd sl WN;split at hq
   . rename_i C' bm k0 k1 k2 k3 id k5 VO V9;simp only[aaN,ac0,beq_iff_eq] at hq;obtain⟨⟨⟨⟨⟨⟨e1,e2⟩,e3⟩,e4⟩,e5⟩,e6⟩,e7⟩:=hq;subst e1 e2;obtain⟨nm,bs,mro,ns,qn,hd,sn,sub,ab,col,del⟩:=cd;dsimp only at VO e3 e5 e6;subst VO e3;obtain⟨sl⟩:=sl;dsimp only at V9;subst V9;obtain⟨o,ho,hoc⟩:=Option.map_eq_some_iff.mp e7;have G:h.Ns ns (h.nsMap ns):=.of_isNs (W.isNs_of_in X e5);exact⟨bm,ns,nm,qn,bs,hd,sn,sub,ab,col,dd,k0,k1,k2,k3,k5,_,o,X _ _ WN,G,Ea X G e6,W.tail_of_in X e4,X _ _ ho,hoc⟩
   . cases hq
 . cases hq
structure JG (K:W.Frag)(mg:Str->Option Value)(x:Str)(B:Addr):Prop where
 glob:mg x=some (.ref B)
 sp:W.specialIn K (.ref B) "__getattribute__" = some (some (.builtin "type.__getattribute__"))
 rd:W.readsIn K B (.type "type")=true
 fc:(match W.findCls K (.ref B) (.type "type") "__init__" with | some (.val v)=>v == .builtin "ValueError.__init__" | _=>false)=true
def Ko (C:Addr)(t:TA):TE:=λZ H Q=>t Z H λvs H1=>∃ e u,vs=[.ref e,u]/\H1 e=some (XB e C none)/\Q .aC H1
variable {X:Cx}
theorem BI {y : Str}{B : Addr}{np S_ S5 : Pos}{a0 : Expr}{as : List Expr}{t : TA}{pl : Sem Bool}(b : JG X.K X.mg x B)(c : k9 X.K X.mg y C f)(hg : Gl X x)(ha : PA X (a0 :: as) t)(Tt : (x == ("__debug__" : Str)) = false := by decide)
   (hs:aai (a0::as) X.env=(false,eval a0 X.env)::aai as X.env:=by rfl) (Tj:(backTo S5 (aai as X.env)).any (·.1)=false:=by rfl)
   (ht : eval (.Call (.Attribute (.Name x np) "__init__" S_) (a0 :: as) [] S5) X.env = (do
     let ov <- eval (.Name x np) X.env
     standAt S_.atName
     let (f,first) <- holding [ov] (acV ov "__init__" pl)
     ac1 S5 f first (backTo S5 (aai (a0::as) X.env)) (ac2 S5 (abZ [] X.env))):=by rfl) :
   PE X (.Call (.Attribute (.Name x np) "__init__" S_) (a0::as) [] S5) (Ko C t):=by
 intro gV s Z H Q I h;refine W.methodCall_KW (pl:=pl) (eT I hg b.glob ?_ Tt) ht;have fc:=b.fc;split at fc
 . rename_i v hv;have ev:v=.builtin "ValueError.__init__":=beq_iff_eq.mp fc;subst ev;refine W.method_cls I.df b.sp (W.cls_value I.df b.rd hv (by nofun) ?_);have hA:=ha S5 gV _ Z H _ (I.tok (s.toks+1)) h;rw [hs] at hA ⊢;refine ada (first:=[]) (by show (false || (backTo S5 (aai as X.env)).any (·.1))=false;rw [Tj] <;> rfl) (acA ?_);refine aS hA λus s2 zq=>?_;obtain ⟨vs,H2,I2,r2,e,u,ev,he,q⟩:=zq;subst ev;obtain ⟨t,he'⟩:=yU I2.az he;obtain ⟨bm,N',nm,qn,bs,hd,sn,sub,ab,col,dd,k0,k1,k2,k3,k5,mN,o,hC,hN,hni,TL,hf,hfc⟩:=c.obj I2.df;obtain ⟨v1,v2,rfl,rv1,rv2⟩:=vals2 r2;cases (show v1=Td e from rv1)
   obtain⟨hp,g,d,tk,os⟩:=s2;refine acO (acN PySem.F.excBase_ValueError.init.plain PySem.F.excBase_ValueError.initEntry (wpAny_check_init_subU abv TL hC he' rfl ?_))
   wp_walk
   refine⟨.aC,H2,?_,rfl,q⟩;have ep:(hp.push { cls:=.type "tuple",data:=.seq #[v2] }).get? e=some { cls:=.ref C,dict:=none,data:=.fields #[.ref t,.none,.none,.none,.bool false,.none] }:=aaf _ he';have e0:((hp.push { cls:=.type "tuple",data:=.seq #[v2] }).update e (ace (·.setIfInBounds 0 (Td hp.objs.size)))).get? e=some { cls:=.ref C,dict:=none,data:=.fields #[.ref hp.objs.size,.none,.none,.none,.bool false,.none] } :=
     aa_ _ ep rfl
   have I3 := I2.write (t' := tk) (x := e) (e := e) (o := XB e C none) (h' := (hp.push { cls := .type "tuple", data := .seq #[v2] }).update e (ace (·.setIfInBounds 0 (Td hp.objs.size)))) (by rw [he]; exact aan) (.inl rfl)
     (λb u hb z=>(aaZ _ _ (Ne.symm hb)).trans (aaf _ z)) ⟨_,e0⟩ (DQ (t:=hp.objs.size) e0)
   rw[Oa he] at I3;exact I3
 . cases fc
open PySem PySem.Spec PyProof.Rows L2 PySem.SeqAt PySem.W Builtin Builtin.ObjectAttr
abbrev wg:List Value:=[.type "ValueError",.type "Exception",.type "BaseException",.type "object"]
def qI:List Value->Bool
 | .ref _::r=>qI r
 | l=>l == wg
theorem vx (self:Value):∀ {l:List Value},qI l=true->refuseLoop self "__setattr__" l=pure ()
 | [],e=>by cases e
 | v :: r, e => by
   cases v with
   | ref c=>rw[refuseLoop_ref];exact vx self e
   | _=>rw[beq_iff_eq.mp (show((_::r) == wg)=true from e)];exact PySem.F.store_ValueError.passes self
theorem C9:∀ {l:List Value},qI l=true->l.contains (.type "object")=true
 | [],e=>by cases e
 | v :: r, e => by
   cases v with
   | ref c=>rw[List.contains_cons,C9 (l:=r) e,Bool.or_true]
   | _=>rw[beq_iff_eq.mp (show((_::r) == wg)=true from e)];nofun
structure wq (K:W.Frag)(C:Addr)(name:Str):Prop where
 sa:abh K (.ref C) "__setattr__" = some (some (.builtin "object.__setattr__"))
 mro:((W.clsIn K C).any λcd=>qI cd.mro)=true
 no:abh K (.ref C) name=some none
 hd:((W.clsIn K C).any (·.hasDict))=true
section
variable {prog:Program} {w:World} {A:Around} {E:Value->Shared->Prop} {s:Shared} {K:W.Frag} {x C t:Addr} {name:Str} {v:Value}
theorem L4 (X:K.In s.heap)(I:W.InstAt s.heap x ox C none)(S:wq K C name)
   (h:∀ b,wpAny (model prog w) A.in1 (storeInOwnDict (.ref x) (.ref C) (.str name tk) name v b) (λTa s'=>match Ta with | .done f=>R (.ok f) s' | .again c'=>c'.quiet=true/\codeAny (model prog w) A c' R s') (λe s'=>R (.error e) s') s) :
   codeAny (model prog w) A (.call (.builtin "object.__setattr__") ⟨[.ref x,.str name tk,v],[]⟩) R s:=by
 have SF:=PySem.F.store_object;obtain⟨cd,hc,ho⟩:=W.any_some S.mro;have ne:cd.mro.isEmpty=false:=by cases q:cd.mro with | nil=>rw[q] at ho;cases ho | cons _ _=>rfl
 have sub:W.Looks (model prog w) s.heap (isInstance (.ref x) (.type "object")) true:=I.type.andThen (W.looks_mroIn X (by unfold W.mroIn;rw[hc,Option.bind_some,if_neg (by rw[ne];decide),C9 ho]));refine acN SF.slot.plain SF.entry (@check_slot (model prog w) _ _ s "object.__setattr__" "object" "__setattr__" (.ref x) [.str name tk,v] [] _ SF.kind SF.split sub (SF.args (.ref x) (.str name tk) v) ?_);have hm:W.Looks (model prog w) s.heap (mroOf (.ref C)) cd.mro:=(W.looks_clsIn X hc).andThen .now;rw[W.osa_eq,refuse_eq];refine aad (aad (I.type.here (aad (hm.here ?_))));rw[vx _ ho];refine aaj (aad (I.type.here (aad ((W.looks_findIn X S.no).here (aad (aaj ?_))))));exact h _
theorem LL (X:K.In s.heap)(hx:s.heap.get? x=some { cls:=.ref C,dict:=none,data:=.fields #[.ref t,.none,.none,.none,.bool false,.none] })(S:wq K C name)
   (h:∀ h' tk,h'.Ns1 s.heap.objs.size (λy=>if y=name then some v else none)->h'.get? x=some { cls:=.ref C,dict:=some s.heap.objs.size,data:=.fields #[.ref t,.none,.none,.none,.bool false,.none] }->(∀ b o,b≠x->s.heap.get? b=some o->h'.get? b=some o)->Q () { s with heap:=h',toks:=tk }) :
   wpAny (model prog w) A (setAttr (.ref x) name v) Q E s:=by
 have J:W.InstAt s.heap x { cls:=.ref C,dict:=none,data:=.fields #[.ref t,.none,.none,.none,.bool false,.none] } C none:=⟨hx,rfl,rfl,aan⟩
 refine W.set_plain X J S.sa (L4 (s:={ s with toks:=s.toks+1 }) X J S λb=>?_);obtain⟨cd,hc,WW⟩:=W.any_some S.hd;obtain⟨hp,g,d,tk,os⟩:=s;have hx₁ : (hp.push { cls:=.type "dict",data:=.dict #[] }).get? x=some { cls:=.ref C,dict:=none,data:=.fields #[.ref t,.none,.none,.none,.bool false,.none] }:=aaf _ hx;have WL:x≠hp.objs.size:=aaw (aam hx);refine aad (aaj (aad (aad (wpAny_loadPart hx (aad (W.Looks.here (s:=⟨hp,g,d,tk+1,os⟩) (W.looks_clsIn X hc) ?_))))));rw[WW];refine aad (wpAny_alloc' ?_);refine aad (wpAny_update' hx₁ ?_);have hgd:((hp.push { cls:=.type "dict",data:=.dict #[] }).update x λo=>{ cls:=o.cls,dict:=some hp.objs.size,data:=o.data,slots:=o.slots }).get? hp.objs.size=some { cls:=.type "dict",data:=.dict #[] } :=
   (Heap.get?_update_ne _ _ _ _ WL.symm).trans (Heap.get?_push_at rfl rfl)
 have hge:((hp.push { cls:=.type "dict",data:=.dict #[] }).update x λo=>{ cls:=o.cls,dict:=some hp.objs.size,data:=o.data,slots:=o.slots }).get? x=some { cls:=.ref C,dict:=some hp.objs.size,data:=.fields #[.ref t,.none,.none,.none,.bool false,.none] } :=
   aa_ _ hx₁ rfl
 have UE:((hp.push { cls:=.type "dict",data:=.dict #[] }).update x λo=>{ cls:=o.cls,dict:=some hp.objs.size,data:=o.data,slots:=o.slots }).Ns hp.objs.size (λ_=>none) :=
   ⟨_,#[],_,hgd,rfl,λe he=>absurd he (by simp),λ_=>rfl⟩
 refine aaj ?_;show wpAny _ _ (storeInDict hp.objs.size (.str name tk) name v) _ _ _;unfold storeInDict newKeyGuard;refine aad (aaj (aad (wpAny_nsSet1 (Heap.Ns1.of_empty UE) λh' hn' hs=>?_)));obtain⟨oD,esD,epD,hoD,hdD,hcD⟩:=hn'.count (Within.cons name v Within.nil);refine aad (wpAny_lookBehind hoD (by rw[hdD];exact pastItsLine_dict (aaL hcD (by rw[aaH,acI,aaJ];omega))) ?_);refine aaj ?_;exact h h' _ hn' ((hs.2 x WL).trans hge) λb o hb z=>(hs.2 b (aaw (aam z))).trans ((Heap.get?_update_ne _ _ _ _ hb).trans (aaf _ z))
end
section
variable {X:Cx} {gV:List (Addr×Obj)} {Z : L2.St} {H:Hp} {s:Shared} {a C:Addr} {f:Str} {A:Around} {E:Value->Shared->Prop}
theorem BK (I:Inv X gV Z H s)(e:H a=some (XB a C none))(S:wq X.K C f)(ry:RelV y u)
   (h:∀ d s',H d=none->Inv X gV Z (upd (upd H d (.xd [(f,y)])) a (XB a C (some d))) s'->Q () s'):wpAny (model X.prog X.w) A (setAttr (.ref a) f u) Q E s:=by
 obtain⟨t,hx⟩:=yU I.az e;refine LL I.df hx S λh' tk hn WM hk=>h s.heap.objs.size _ (I.az.fresh (aag _)) ?_;have fr:=I.az.fresh (aag s.heap.objs.size);have na:a≠s.heap.objs.size:=aaw (aam hx);have nd:∀ b o,s.heap.get? b=some o->b≠s.heap.objs.size:=λb o z=>aaw (aam z);have WG:∀ b,b≠a->b≠s.heap.objs.size->upd (upd H s.heap.objs.size (.xd [(f,y)])) a (XB a C (some s.heap.objs.size)) b=H b:=λb h1 h2=>by rw[ak h1,ak h2]
 have nm:∀ b,H b=none->b≠a:=λb z q=>by rw[q,e] at z;cases z
 have nt:∀ b o,H b=some o->(∀ φ,o≠.ext φ)->b≠a:=λb o z q r=>by rw[r,e] at z;exact q _ (aax z).symm
 refine I.un (t':=tk) ⟨λb o q n hb _=>hk b o (nm b n) q,λb o q n hb _=>⟨o.slots,hk b o (nm b n) q⟩,λb o q n _=>?_,λb o q _=>?_,λb xs q=>?_,λb o u q=>?_,λb ps q=>⟨#[],?_⟩⟩ λb o q=>?_
 . rw[WG b (nm b n) (nd b o q)];exact n
 . by_cases hb:b=a
   . subst hb;exact⟨_,WM⟩
   . exact⟨o,hk b o hb q⟩
 . rw[WG b (nt b _ q λ_ z=>nomatch z) (ag q fr)];exact q
 . rw[WG b (nt b _ q λ_ z=>nomatch z) (ag q fr)];exact q
 . rw[WG b (nt b _ q λ_ z=>nomatch z) (ag q fr),Array.append_empty];exact q
 . by_cases hb:b=a
   . subst hb;rw[aa] at q;cases q
     exact DQ WM
   . rw[ak hb] at q;by_cases hd:b=s.heap.objs.size
     . subst hd;rw[aa] at q;cases q
       refine⟨_,hn,λg=>?_⟩;show ff (abC g [(f,y)]) (if g=f then some u else none);by_cases z:g=f
       . subst z;rw[if_pos rfl,abf,beq_self_eq_true];exact ry
       . rw[if_neg z,abf,beq_eq_false_iff_ne.mpr z];exact aan
     . rw [ak hd] at q;refine (I.az b o q).iR (λc v hc z=>hk c v (λr=>?_) z) (λc z=>?_) λc xs z=>?_
       . subst r;rcases hc with hc | hc
         . exact hb hc.symm
         . rw[e] at hc;cases hc
       . rw[WG c (nt c _ z λ_ z=>nomatch z) (ag z fr)];exact z
       . rw[WG c (nt c _ z λ_ z=>nomatch z) (ag z fr)];exact z
end
def sX (K:W.Frag)(ta tv:TE)(f:Str):TS:=λD Z H=>tv Z H λy H1=>ta Z H1 λx H2=>∃ a C,x=.ref a/\H2 a=some (XB a C none)/\wq K C f/\∀ d,H2 d=none->D.nx Z (upd (upd H2 d (.xd [(f,y)])) a (XB a C (some d)))
variable {pos:Pos} {tv:TE}
theorem KL {o value:Expr}{ta:TE}{f:Str}{Tx:Pos}(ha:PE X o ta)(hv:PE X value tv)(hs:acU value (some (.Attribute o f Tx)) pos.line X.env=pure false):PS X (.Assign [.Attribute o f Tx] value pos) (sX X.K ta tv f):=by
 intro gV s Z H D I h;refine plainObj_wpAny_Assign_Attribute (aS (hv gV s Z H _ I h) λu s1 zq=>bQ zq λy H1 I1 ry q=>aS (ha gV s1 Z H1 _ I1 q) λov s2 zq=>?_) hs;obtain⟨x,H2,I2,rx,a,C,ex,ea,S,q2⟩:=zq;subst ex;obtain rfl:ov=Td a:=rx;exact BK I2 ea S ry λd s3 hd I3=>⟨Z,_,I3,q2 d hd⟩
def Dl (C:Addr)(f:Str):Sp:=λvs H Q _=>∃ (e:Addr) (i:Int),vs=[.ref e,.int i]/\H e=some (XB e C none)/\i.natAbs.log2<1900/\∀ d,H d=none->Q .aC (upd (upd H d (.xd [(f,.int i)])) e (XB e C (some d)))
def ig (base:Heap)(l:List Env)(e:Addr)(cls:Value)(od:Option Addr)(fl:Value)(h:Heap):Prop :=
 base.StaysIn h/\base.get? e=none/\h.FunFrames base l/\∃ oe vs T oT ts,h.get? e=some oe/\oe.cls=cls/\oe.dict=od/\oe.data=.fields vs/\vs[1]? = some (.ref T)/\base.get? T=none/\T≠e/\h.get? T=some oT/\oT.data=.fields ts/\ts[3]? = some fl
theorem vW (f:Array Value->Array Value)(o:Obj):(ace f o).dict=o.dict:=by
 obtain⟨c,d,dt,sl⟩:=o;cases dt <;> rfl
section
variable {M:Model} {A:Around} {E:Value->Shared->Prop} {s:Shared}
theorem il {x:Addr}{o:Obj}{vs:Array Value}(hx:h.get? x=some o)(hd:o.data=.fields vs){b:Addr}{u:Obj}(hb:h.get? b=some u)(hn:∀ ws,u.data≠.fields ws):b≠x:=λq=>by
 rw[q,hx] at hb;cases hb
 exact hn vs hd
theorem GK {base:Heap}{env:Env}{outer:List Env}{L e:Addr}{oe:Obj}{vs:Array Value}{head:Value}{hadNext:Bool}{Q:Unit->Shared->Prop}
   (UI:A.frames=some (env::outer)) (hl:s.heap.FunFrames base (env::outer)) (hf:env.frame=some L) (he:s.heap.get? e=some oe) (WQ:base.StaysIn s.heap) (UU:base.get? e=none) (hd:oe.data=.fields vs) (hsz : 1<vs.size)
   (h:∀ h',ig base (env::outer) e oe.cls oe.dict (rawInt L) h'->s.heap.UpToSlots h'->Q () { s with heap:=h' }) :
   wpAny M A (do let a <- frameOf env;let pl <- entryPlaceOf L hadNext;let b <- EntryCells.newEntry head a .none (rawInt L) .none pl;setField (.ref e) 1 b) Q E s:=by
 have hene:e ∉ (env::outer).filterMap (·.frame):=λhm=>by
   obtain⟨_,o,ho,hnf⟩:=hl.mem hm;exact il he hd ho hnf rfl
 refine aad (wpAny_frameOf_fun UI hl hf λh₁ hs₁=>aad (wpAny_entryPlaceOf λpl S6=>?_));unfold EntryCells.newEntry newFields;refine aad (abw ?_ (S6.sizeOk5 _ _ _ _ _));have he₁ : h₁.get? e=some oe:=(hs₁.2.1 e hene).trans he;have kb₁ : base.StaysIn h₁:=λb o hbo=>(hs₁.2.1 b λhm=>by rw[(hl.mem hm).1] at hbo;cases hbo).trans (WQ b o hbo);have hts:∃ ts:Array Value,([head,.ref L,.none,rawInt L,.none]++(if pl.isEmpty then aau 6 abq else pl)).toArray=ts/\ts[3]? = some (rawInt L):=⟨_,rfl,by first | (simp;done) | (rcases S6 with rfl | ⟨_,_,_,_,_,_,_,rfl⟩ <;> simp)⟩
 obtain⟨ts,ets,h3⟩:=hts;rw[ets];have he₂:=aaf (h:=h₁) { cls:=.type "traceback",dict:=none,data:=.fields ts } he₁;have hTe:h₁.objs.size≠e:=abU (aam he₁);refine ac8 he₂ hd hsz (h _ ?_ ?_)
 . have hd₃ := acg hd (·.setIfInBounds 1 (Td h₁.objs.size));have he₃:=aa_ (ace (·.setIfInBounds 1 (Td h₁.objs.size))) he₂ (adt hd₃);have ot:∀ b o,b≠e->h₁.get? b=some o->((h₁.push { cls:=.type "traceback",dict:=none,data:=.fields ts }).update e (ace (·.setIfInBounds 1 (Td h₁.objs.size)))).get? b=some o:=λb o hb z =>
     (aaZ _ _ (Ne.symm hb)).trans (aaf _ z)
   refine⟨λb o z=>ot b o (λq=>by rw[q,UU] at z;cases z) (kb₁ b o z),UU,hl.of_keeps λb o z hn=>?_,?_⟩
   . obtain⟨sl, z'⟩ := hs₁.2.2 b o z;exact⟨_,ot b _ (il he hd z hn) z',rfl⟩
   . refine⟨_, _, h₁.objs.size, { cls := .type "traceback", dict := none, data := .fields ts }, ts, he₃, Obj.cls_mapFields _ _, vW _ _, hd₃, by simp[hsz], kb₁.fresh, hTe, ?_, rfl, h3⟩;exact(aaZ _ _ (Ne.symm hTe)).trans (aat h₁ rfl)
 . intro b o z hn;obtain⟨sl,z'⟩:=hs₁.2.2 b o z;exact⟨sl,(aaZ _ _ (Ne.symm (il he hd z hn))).trans (aaf _ z')⟩
variable {L:Addr} {outer:List Env} {env:Env}
theorem KI {base:Heap}{cls:Value}{Q:Unit->Shared->Prop}(UI:A.frames=some (env::outer))(hf:env.frame=some L)(WS:ig base (env::outer) e cls od .none s.heap)
   (h:∀ h',ig base (env::outer) e cls od (rawInt L) h'->s.heap.UpToSlots h'->Q () { s with heap:=h' }):wpAny M A (noteFrame (.ref e) env) Q E s:=by
 obtain⟨WQ,UU,hl,oe,vs,T,oT,ts,he,rfl,rfl,hd,h1,hnT,hTe,hT,WT,h3⟩:=WS;unfold noteFrame;simp only[hf];refine aad (aby he hd h1 ?_);rw[if_pos (show(Td T != abq)=true from by simp)];refine aad (aby hT WT h3 ?_);rw[if_neg (show ¬ ((abq == rawInt L)=true) from by simp[rawInt])];refine aad (ac8 hT WT (Array.getElem?_eq_some_iff.mp h3).1 ?_);have ot:∀ b,b≠T->(s.heap.update T (ace (·.setIfInBounds 3 abq))).get? b=s.heap.get? b:=λb hb=>aaZ _ _ (Ne.symm hb)
 refine GK UI (hl.of_keeps λb o hb hnf => ⟨o, (ot b (il hT WT hb hnf)).trans hb, rfl⟩) hf ((ot e (Ne.symm hTe)).trans he) (λb o z => (ot b λq => by rw [q, hnT] at z; cases z).trans (WQ b o z)) UU hd (Array.getElem?_eq_some_iff.mp h1).1
   λh' f1 f2=>h h' f1 λb o z hn=>f2 b o ((ot b (il hT WT z hn)).trans z) hn
theorem qC {base:Heap}{l:List Env}{cls fl:Value}{Q:Unit->Shared->Prop}(WS:ig base l e cls od fl s.heap)
   (h:∀ h',ig base l e cls od .none h'->s.heap.UpToSlots h'->Q () { s with heap:=h' }):wpAny M A (setFlight (.ref e) none) Q E s:=by
 obtain⟨WQ,UU,hl,oe,vs,T,oT,ts,he,rfl,rfl,hd,h1,hnT,hTe,hT,WT,h3⟩:=WS;have hsz3 : 3<ts.size:=(Array.getElem?_eq_some_iff.mp h3).1;unfold setFlight;refine aad (aby he hd h1 ?_);rw[if_pos (show(Td T != abq)=true from by simp)];have ot:∀ b,b≠T->(s.heap.update T (ace (·.setIfInBounds 3 ((none:Option Addr).elim abq λf=>rawInt f)))).get? b=s.heap.get? b:=λb hb=>aaZ _ _ (Ne.symm hb);refine ac8 hT WT hsz3 (h _ ⟨λb o z=>(ot b λq=>by rw[q,hnT] at z;cases z).trans (WQ b o z),UU,hl.of_keeps λb o hb hnf=>⟨o,(ot b (il hT WT hb hnf)).trans hb,rfl⟩,?_⟩ λb o hb hnf=>⟨o.slots,(ot b (il hT WT hb hnf)).trans hb⟩);exact⟨oe,vs,T,_,_,(ot e (Ne.symm hTe)).trans he,rfl,rfl,hd,h1,hnT,hTe,aa_ _ hT (adt (acg WT _)),acg WT _,by simp[hsz3]⟩
theorem ig.out (x:ig base (env::outer) e cls od fl h):ig base outer e cls od fl h:=⟨x.1,x.2.1,x.2.2.1.2.2,x.2.2.2⟩
theorem LG (UI:A.frames=some (env::outer))(hf:env.frame=some L)(WS:ig base (env::outer) e cls od .none s.heap)
   (h:∀ h',ig base outer e cls od .none h'->s.heap.UpToSlots h'->Q () { s with heap:=h' }):wpAny M A (leaving env (.ref e)) Q E s:=by
 unfold leaving;refine aad (KI UI hf WS λh1 f1 u1=>qC f1 λh2 f2 u2=>h h2 f2.out (u1.trans u2))
theorem Cd {e:Addr}(UI:A.frames=some (env::outer))(hl:s.heap.FunFrames base (env::outer))(hf:env.frame=some L)
   (he:s.heap.get? e=some oe) (WQ:base.StaysIn s.heap) (UU:base.get? e=none) (hd:oe.data=.fields vs) (h1:vs[1]? = some .none)
   (h:∀ h',ig base outer e oe.cls oe.dict .none h'->s.heap.UpToSlots h'->Q () { s with heap:=h' }):wpAny M A (leaving env (.ref e)) Q E s:=by
 unfold leaving noteFrame;simp only[hf];refine aad (aad (aby he hd h1 ?_));rw[if_neg (by decide)];exact GK UI hl hf he WQ UU hd (Array.getElem?_eq_some_iff.mp h1).1 λh1 f1 u1=>qC f1 λh2 f2 u2=>h h2 f2.out (u1.trans u2)
end
section
variable {M:Model} {A:Around} {E:Value->Shared->Prop} {env:Env}
variable {nm q:Str} {C N:Addr} {bs bm:List Value} {hdct:Bool} {sn:List Str} {sub:List Value} {ab:Bool} {col:Option Bool} {dd:Option Addr} {k0 k1 k2 k3 k5:Option Value} {newId:String}
theorem FG {s:Shared}{x:Sem Value}{Q:Flow->Shared->Prop}(Tq:bm.contains (.type "BaseException")=true)(hh:A.handled=none)
   (h:wpAny M A x (λv s₁=>∃ e t od,v=.ref e/\s₁.heap.get? C=some (acX nm q C N bs bm hdct sn sub ab col dd k0 k1 k2 k3 k5 newId)/\s₁.heap.get? e=some { cls:=.ref C,dict:=od,data:=.fields #[.ref t,.none,.none,.none,.bool false,.none] }/\E (.ref e) s₁) E s):wpAny M A (raiseStmt env (some x) none) Q E s:=by
 have hcB:(Td C::bm).contains (.type "BaseException")=true:=by rw[List.contains_cons,Tq,Bool.or_true]
 unfold raiseStmt;refine aad (aaI h (λv s₁ h₁=>?_) λ_ _ x=>x);obtain⟨e,t,od,rfl,hC,he,hE⟩:=h₁;obtain⟨hp,g,d,tk,os⟩:=s₁;repeat (first | with_reducible refine acB he ?_ | with_reducible refine acB hC ?_ | (with_reducible refine wpAny_isSubtype_exc hC ?_;rw[hcB]) | wp_step)
 exact wpAny_raiseNew_none hh hE
end
section
variable {prog:Program} {w:World} {A:Around} {E:Value->Shared->Prop} {s:Shared} {env:Env}
variable {nm q:Str} {C N:Addr} {bs bm W6:List Value} {hdct:Bool} {sn:List Str} {sub:List Value} {ab:Bool} {col:Option Bool} {dd:Option Addr} {k0 k1 k2 k3 k5:Option Value} {B Bn newId nid UN inN:String} {bmN:List Value}
theorem Ed (Fn:ac3 Bn newId inN bmN)(hBn:W6.contains (.type Bn)=true)(F:ac3 B nid UN W6){mN:Str->Option Value}{x:Str}{np S5 pos:Pos} 
   (Tq:bm.contains (.type "BaseException")=true) (hh:A.handled=none) (Tj:(backTo S5 (aai args env)).any (·.1)=false) (hi:mN "__init__" = some (.ref fI)) (hfc:oI.cls=.type "function")
   (h:wpAny (model prog w) A (eval (.Name x np) env) (λf s₁=>f=.ref C/\wpAny (model prog w) A (evalArgs (.ref C) true (backTo S5 (aai args env)) [])
     (λa s₂=>a.kw=[]/\a.pos.length<=aal/\s₂.heap.get? C=some (acX nm q C N bs bm hdct sn sub ab col dd k0 k1 k2 k3 k5 newId)/\s₂.heap.Ns N mN/\OwnTail s₂.heap W6 bm/\s₂.heap.get? fI=some oI /\
       ∀ h' e,acR s₂.heap h' e (.ref C) a.pos->s₂.heap.objs.size<=e->wpAny (model prog w) (A.under (.builtin "type.__call__" ⟨.ref C::a.pos,[]⟩)) (call (.ref fI) (.ref e::a.pos))
         (λr s'=>r=.none/\s'.heap.get? C=some (acX nm q C N bs bm hdct sn sub ab col dd k0 k1 k2 k3 k5 newId)/\(∃ t od,s'.heap.get? e=some { cls:=.ref C,dict:=od,data:=.fields #[.ref t,.none,.none,.none,.bool false,.none] })/\E (.ref e) s') E { s₂ with heap:=h' }) E s₁) E s) :
   wpAny (model prog w) A (exec (.Raise (some (.Call (.Name x np) args [] S5)) none pos) env) Q E s:=by
 rw[arm_exec_Raise];refine aad (acr (FG (C:=C) (nm:=nm) (q:=q) (N:=N) (bs:=bs) (bm:=bm) (hdct:=hdct) (sn:=sn) (sub:=sub) (ab:=ab) (col:=col) (dd:=dd) (k0:=k0) (k1:=k1) (k2:=k2) (k3:=k3) (k5:=k5) (newId:=newId) Tq hh ?_));refine aad (aaI (wpAny_Call_ofName (aaI h (λf s₁ h₁=>?_) λ_ _ x=>x)) (λv s₃ h₃=>aad (acr (aaj h₃))) λ_ _ x=>x);obtain⟨rfl,h₁⟩:=h₁;unfold ac1;refine aad (aba (aaI h₁ (λa s₂ h₂=>aad (acr ?_)) λ_ _ x=>x));obtain⟨S_,akw⟩:=a;obtain⟨hkw,S4,hC,hn,T,hf,h₂⟩:=h₂;obtain rfl:akw=[]:=hkw;obtain⟨hp,g,d,tk,os⟩:=s₂;simp only[Tj];refine aad (wpAny_keeperOf_exc hC ?_);refine aad (yR Fn hBn F T hC hn hi hf hfc (λh' e hm hz=>aaI (h₂ h' e hm hz) (λr s' z=>⟨z.1,?_⟩) λ_ _ z=>z) S4);obtain⟨_,hC',⟨t,od,Uc⟩,hE⟩:=z;exact aad (aba (wpAny_point (aaj ⟨e,t,od,rfl,hC',Uc,hE⟩)))
end
structure xg (P:Program)(w:World)(outer:List Env)(H:Hp)(s:Shared)(ea C:Addr)(od:Option Addr)(H':Hp)(s':Shared):Prop where
 os:s'.os=s.os
 bare:AllBare s'.gens
 fr:H' ea=none
 hi:s.heap.objs.size<=ea
 ex:∃ (h0:Heap) (l:List Addr),Un (cU outer) [] H H' s.heap h0/\de P w H' h0/\(∀ b∈l,H' b=none/\(b∈cU outer∨s.heap.objs.size<=b))/\ig (ack h0 l) outer ea (.ref C) od .none s'.heap/\h0.UpToSlots s'.heap
def eu (P:Program)(w:World):dM:=λouter H s E e s'=>∃ (ea C:Addr) (od:Option Addr) (H':Hp),e=.ref ea/\xg P w outer H s ea C od H' s'/\E (.ref C) od H'
variable {Z : L2.St}
theorem CG {e C:Addr}{od:Option Addr}(I:Inv X gV Z H s)
   (Tg:X.stack=X.env::X.outer) (UI:X.env.frame=some X.env.locals) (hex:X.ex=[]) (he:H e=some (XB e C od)) (hi:X.s₀.heap.objs.size<=e) (h0:H' e=none) (h1:∀ b,b≠e->H' b=H b)
   (hQ:∀ s',xg X.prog X.w X.outer X.H₀ X.s₀ e C od H' s'->Q () s'):wpAny (model X.prog X.w) X.A (leaving X.env (.ref e)) Q Ex s:=by
 obtain⟨t,hx⟩:=yU I.az he;have hfs:=AA Tg UI;have WR:∀ env∈X.stack,∀ a,env.frame=some a->a∈e::cU X.stack:=λenv hm b hb=>abc _ (List.mem_filterMap.mpr ⟨env,hm,hb⟩);have hl:s.heap.FunFrames (ack s.heap (e::cU X.stack)) (X.env::X.outer):=by
   have z:=W.funFrames_hide I.stack WR;rw[Tg] at z ⊢;exact z
 have nx:∀ b o,H b=some o->(∀ φ,o≠.ext φ)->b≠e:=λb o z q r=>by rw[r,he] at z;exact q _ (aax z).symm
 have hb:=I.base;rw[hex] at hb;refine Cd (base:=ack s.heap (e::cU X.stack)) (by rw[<- Tg];exact I.ok.frames) hl UI hx (λb o q=>W.of_hideAll _ q) (W.hideAll_none _ (.head _)) rfl rfl λh' f u=>hQ _ ⟨I.os,I.bare,h0,hi,s.heap,e::cU X.stack,?_,?_,?_,f,u⟩
 . refine ⟨hb.keep,hb.slot,λb o q n WM=>?_,hb.there,λb xs q=>?_,λb o u q=>?_,λb ps q=>?_⟩
   . by_cases z:b=e
     . rw[z];exact h0
     . rw[h1 b z];exact hb.free b o q n WM
   . have z := hb.j6 b xs q;rw[h1 b (nx b _ z λ_ z=>nomatch z)];exact z
   . have z := hb.iS b o u q;rw[h1 b (nx b _ z λ_ z=>nomatch z)];exact z
   . obtain⟨m, z⟩ := hb.jB b ps q;exact⟨m,by rw[h1 b (nx b _ z λ_ z=>nomatch z)];exact z⟩
 . intro b o q;by_cases z:b=e
   . rw[z,h0] at q;cases q
   . rw [h1 b z] at q;refine (I.az b o q).iR (λc v _ z=>z) (λc z'=>?_) λc xs z'=>?_
     . rw[h1 c (nx c _ z' λ_ z=>nomatch z)];exact z'
     . rw[h1 c (nx c _ z' λ_ z=>nomatch z)];exact z'
 . intro b hm;rcases List.mem_cons.mp hm with rfl | hm
   . exact⟨h0,.inr hi⟩
   . have hn := I.lN b hm;have nb:b≠e:=λz=>by rw [z,he] at hn;cases hn
     refine⟨by rw[h1 b nb];exact hn,?_⟩;rw[hfs] at hm;rcases List.mem_cons.mp hm with rfl | hm
     . exact .inr I.ok.above
     . exact .inl hm
def vX (C:Addr)(f:Str)(E:XK)(t:TA):TS:=λ_ Z H=>t Z H λvs H1=>∃ i:Int,vs=[.int i]/\i.natAbs.log2<1900/\∀ d,H1 d=none->E (.ref C) (some d) (upd H1 d (.xd [(f,.int i)]))
theorem Hj {P:Program}{w:World}{K:W.Frag}{mg:Str->Option Value}{base:Heap}{N:List Str}{qual:Str}{scope:Scope}{f:Addr}{cd:Value}{A:Around}{outer:List Env}{s0:Shared}{H0:Hp}{E:XK}
   {C fI:Addr} {fd:aa4} {ps:List Str} {fn x:Str} {k:Nat} {np S5 pos:Pos} {e0:Expr} {es:List Expr} {t:TA} (c:k9 K mg x C fI) (F:c7 P w K mg base cb k fI fd ps (Dl C fn)) (hb:Binds K fd ps [])
   (hr:bI (k+1) (bW (eu P w) P w K mg base N qual scope f cd A outer s0 H0 E).A) (hg:Gl (bW (eu P w) P w K mg base N qual scope f cd A outer s0 H0 E) x)
   (ha:PA (bW (eu P w) P w K mg base N qual scope f cd A outer s0 H0 E).eV (e0::es) t) (Tt:(x == ("__debug__" : Str))=false:=by decide)
   (he:aai (e0::es) (bW (eu P w) P w K mg base N qual scope f cd A outer s0 H0 E).env=(false,eval e0 (bW (eu P w) P w K mg base N qual scope f cd A outer s0 H0 E).env)::aai es (bW (eu P w) P w K mg base N qual scope f cd A outer s0 H0 E).env:=by rfl)
   (S6:(backTo S5 (aai es (bW (eu P w) P w K mg base N qual scope f cd A outer s0 H0 E).env)).any (·.1)=false:=by rfl) :
   PS (bW (eu P w) P w K mg base N qual scope f cd A outer s0 H0 E) (.Raise (some (.Call (.Name x np) (e0::es) [] S5)) none pos) (vX C fn E t):=by
 intro gV s Z H D I h;obtain⟨bm,N',nm,qn,bs,hd,sn,sub,ab,col,dd,k0,k1,k2,k3,k5,mN,o,hC,hN,hni,TL,hf,hfc⟩:=c.obj I.ok.mod.uh
 refine Ed (C:=C) (mN:=mN) (N:=N') (nm:=nm) (q:=qn) (bs:=bs) (bm:=bm) (hdct:=hd) (sn:=sn) (sub:=sub) (ab:=ab) (col:=col) (dd:=dd) (k0:=k0) (k1:=k1) (k2:=k2) (k3:=k3) (k5:=k5)
   abv (by nofun) abv (TL.hasType (by nofun)) (I.ok.hd rfl) (by rw[he];show(false || (backTo S5 (aai es _)).any (·.1))=false;rw[S6];rfl) hni hfc ?_
 refine eT I hg c.glob ⟨rfl,?_⟩ Tt;have T8:=(L3.PA.eV ha) S5 gV s Z H _ I h;rw[he] at T8 ⊢;refine acA (aS T8 λus s1 zq=>?_);obtain⟨vs,H1,I1,r,i,ev,WO,q⟩:=zq;subst ev;obtain⟨u,rfl,ru⟩:=vals1 r;refine⟨rfl,by show 1<=aal;nofun,I1.bk _ _ hC,hN.keeps I1.bk,TL.keeps I1.bk,I1.bk _ _ hf,λh' e hm hz=>?_⟩;obtain⟨t',hte,_,_⟩:=hm.there;have I2:=I1.laid (a:=e) (o:=XB e C none) (h':=h') (t':=s1.toks) hm.keeps hz (DQ hte);have fr1:H1 e=none:=I1.az.fresh hz;have hl : [Td e,u].length=ps.length:=by
   have:=F.len [.ref e,.int i] (upd H1 e (XB e C none)) (λ_ _=>True) E ⟨e,i,rfl,aa,WO,λ_ _=>aan⟩
   simpa using this
 have Vw:=hb { s1 with heap:=h' } [.ref e,u] I2.df (by rw[aaM];exact hl);rw[aaM] at Vw;refine acO (ab0 (F.run _ _ _ (upd H1 e (XB e C none)) ⟨[.ref e,u],[]⟩ [.ref e,u] [.ref e,.int i] (λv H2=>v=.aC/\∃ d,upd H1 e (XB e C none) d=none/\H2=upd (upd (upd H1 e (XB e C none)) d (.xd [(fn,.int i)])) e (XB e C (some d))) E (hr.make C [u] []) (I2.zP.make C [u] []) Vw (.cons rfl (.cons ru .nil)) ⟨e,i,rfl,aa,WO,λd hd=>⟨rfl,d,hd,rfl⟩⟩) λr2 s' hq=>?_);cases r2 with
 | error ex=>exact(show False from hq).elim
 | ok fl =>
   cases fl with
   | ret u2 =>
     obtain⟨v,H2,I3,rv,ev,d,hd0,eH⟩:=I2.after hq;subst ev eH;have nd:d≠e:=(bw hd0).2;have Vv:H1 d=none:=(bw hd0).1;obtain⟨t3,h3⟩:=yU I3.az aa;refine⟨rv,I3.bk _ _ hC,⟨_,_,h3⟩,?_⟩;exact CG (X:=bW (eu P w) P w K mg base N qual scope f cd A outer s0 H0 E) (H':=upd H1 d (.xd [(fn,.int i)])) I3 rfl rfl rfl aa (aaL I1.sz hz) (by rw[ak nd.symm];exact fr1) (λb W4=>by
       rw[ak W4];by_cases z:b=d
       . rw[z,aa,aa]
       . rw[ak z,ak z,ak W4]) λs'' th=>⟨e,C,some d,_,rfl,th,q d Vv⟩
   | next=>exact aaW hq
   | brk=>exact aaW hq
   | cont=>exact aaW hq
theorem Iq {P:Program}{w:World}{K:W.Frag}{mg:Str->Option Value}{base:Heap}{N:List Str}{qual:Str}{scope:Scope}{f:Addr}{cd:Value}{A:Around}{outer:List Env}{s0:Shared}{H0:Hp}{E:XK} :
   dE (eu P w) (bW (eu P w) P w K mg base N qual scope f cd A outer s0 H0 E) E:=by
 intro gV Z H s e s' I h;obtain⟨ea,C,od,H',rfl,⟨os,bare,fr,hi,h0,l,u,az,hl,fl,up⟩,q⟩:=h;show wpAny _ _ (leaving _ (.ref ea)) _ _ s';refine LG (outer:=outer) I.ok.frames rfl fl λh2 fl2 up2=>⟨ea,C,od,H',rfl,⟨os.trans I.os,bare,fr,aaL I.sz hi,h0,l,?_,az,λb hb=>⟨(hl b hb).1,?_⟩,fl2,up.trans up2⟩,q⟩
 . have J := I.call (h' := h0) (g' := s'.gens) (d' := s'.drawn) (t' := s'.toks) (ch := []) u az bare (λb z => absurd z (by simp));exact J.base
 . rcases(hl b hb).2 with z | z
   . have z' : b ∈ cU (envOfC qual scope s0.heap.objs.size f cd :: outer) := z;have e1:cU (envOfC qual scope s0.heap.objs.size f cd::outer)=s0.heap.objs.size::cU outer:=by unfold cU;rw [abH];rfl
     rw[e1] at z';rcases List.mem_cons.mp z' with rfl | z'
     . exact .inr (aag _)
     . exact .inl z'
   . exact .inr (aaL I.sz z)
section
variable {P:Program} {w:World} {K:W.Frag} {mg:Str->Option Value} {base:Heap} {x qual:Str} {st:Stmt} {N ps:List Str} {sp:Sp} {C:Addr} {k:Nat}
def Ly (P:Program)(w:World)(K:W.Frag)(mg:Str->Option Value)(base:Heap)(qual:Str)(st:Stmt)(N:List Str)(f:Addr)(S0:Value)(A:Around)(outer:List Env)(s:Shared)(E:XK)(Q:VK)(H:Hp)(vs:List V):Prop :=
 ∃ t,gj (bW (eu P w) P w K mg base N qual (ah st) f S0 A outer s H E) (aV st) t/\t { nx:=λ_ H'=>Q .aC H',rt:=Q } (start N vs) H
def Qc (P:Program)(w:World)(K:W.Frag)(mg:Str->Option Value)(base:Heap)(k:Nat)(qual:Str)(st:Stmt)(N:List Str)(sp:Sp):Prop :=
 ∀ (f:Addr) (S0:Value) (A:Around) (outer:List Env) (s:Shared) (H:Hp) (vs:List V) (Q:VK) (E:XK),bI k (A.deeper (envOfC qual (ah st) s.heap.objs.size f S0))->sp vs H Q E ->
   Ly P w K mg base qual st N f S0 A outer s E Q H vs
theorem G7 (k:Nat)(h:∃ f fd,ee K x qual st f fd/\mg x=some (.ref f)/\Binds K fd ps [])(S:aq N ps (ah st))(len:∀ vs H Q E,sp vs H Q E->vs.length=ps.length)
   (S7:Qc P w K mg base k qual st N sp):iJ P w K mg base (eu P w) (k+1) x sp:=by
 obtain⟨f,fd,F,hm,hb⟩:=h;obtain⟨oc,od,kV,S8,pm,an,S0,ct,Ts,rfl,lk,Ua⟩:=F.ex;exact⟨f,_,ps,qx lk Ua S len λA outer s H vs Q E hr UQ=>S7 f S0 A outer s H vs Q E hr UQ,hm,F.kp,hb⟩
structure J7 (P:Program)(w:World)(K:W.Frag)(mg:Str->Option Value)(base:Heap)(k:Nat)(x:Str)(C:Addr)(fn:Str):Prop where
 ex:∃ (f:Addr) (fd:aa4) (ps:List Str),k9 K mg x C f/\c7 P w K mg base cb k f fd ps (Dl C fn)/\Binds K fd ps []
end
def E1 (X:Cx)(gV:List (Addr×Obj))(Z : L2.St)(Ew:XK)(ex:Value)(s':Shared):Prop :=
 ∃ (ea C:Addr) (od:Option Addr) (H1:Hp) (s1:Shared) (H':Hp),ex=.ref ea/\Inv X gV Z H1 s1/\xg X.prog X.w X.stack H1 s1 ea C od H' s'/\Ew (.ref C) od H'
abbrev Kl:=L2.St->Hp->VK->XK->Prop
def QW (X:Cx)(e:Expr)(t:Kl):Prop:=∀ (gV:List (Addr×Obj)) (s:Shared) (Z : L2.St) (H:Hp) (Q:VK) (Ew:XK),Inv X gV Z H s->t Z H Q Ew->wpAny (model X.prog X.w) X.A (eval e X.env) (EP X gV Z Q) (E1 X gV Z Ew) s
section
variable {X:Cx} {gV:List (Addr×Obj)} {Z : L2.St} {H:Hp} {s:Shared} {k:Nat} {g x n:Str} {sp:Sp} {e:Expr} {es:List Expr} {t:TA} {tx:Kl} {ta:TAX} {te:TE} {gp S5 pos py:Pos}
def Kb (sp:Sp)(t:TA):Kl:=λZ H Q Ew=>t Z H λvs H1=>sp vs H1 Q Ew
theorem Lm (G : iJ X.prog X.w X.K X.mg X.base (eu X.prog X.w) k g sp)(hr : bI k X.A)(hg : Gl X g)(ha : PA X.eV (e :: es) t)(Tt : (g == ("__debug__" : Str)) = false := by decide)
   (he:aai (e::es) X.env=(false,eval e X.env)::aai es X.env:=by rfl) (S6:(backTo S5 (aai es X.env)).any (·.1)=false:=by rfl):QW X (.Call (.Name g gp) (e::es) [] S5) (Kb sp t):=by
 intro gV s Z H Q Ew I h;obtain⟨f,fd,ps,F,hm,hk,hb⟩:=G.ex;refine abg (eT I hg hm ?_ Tt);refine adw (h₀:=X.base) I.ok.mod.uh hk (aaI (ha S5 gV s Z H _ (I.fQ _) h) (λus s1 zq=>bQ zq λvs H1 I1 r q=>⟨I1.df,?_⟩) λ_ _ z=>z.elim) he S6;have J:Inv X gV Z H1 s1:=I1.d7;have hl:us.length=ps.length:=by rw[<- r.length];exact F.len _ _ _ _ q
 have Vw:=hb s1 us J.df (by rw[aaM];exact hl);rw[aaM] at Vw;refine acO (ab0 (F.run X.A X.stack s1 H1 ⟨us,[]⟩ us vs Q Ew hr J.zP Vw r q) λr2 s' hq=>?_);cases r2 with
 | error ex =>
   obtain⟨ea,C,od,H',rfl,th,q2⟩:=(show eu X.prog X.w X.stack H1 s1 Ew ex s' from hq)
   exact⟨ea,C,od,H1,s1,H',rfl,J,th,q2⟩
 | ok fl =>
   cases fl with
   | ret u=>exact J.after hq
   | next=>exact aaW hq
   | brk=>exact aaW hq
   | cont=>exact aaW hq
def QX (X:Cx)(body:List Stmt)(tb:TB):Prop :=
 ∀ (gV:List (Addr×Obj)) (s:Shared) (Z : L2.St) (H:Hp) (D:Ends) (Ew:XK),Inv X gV Z H s->tb D Ew Z H->wpAny (model X.prog X.w) X.A (execs body X.env) (SP X gV D) (E1 X gV Z Ew) s
def Nx (i:Nat)(tx:Kl):TB:=λD Ew Z H=>tx Z H (λv H2=>D.nx (Z.set i (some v)) H2) Ew
theorem Mh (hN : X.N.Nodup)(hi : X.N[i]? = some x)(hx : Loc X.env.scope x)(hv : QW X v tx)(hw : acU v (some (.Name x py)) pos.line X.env = pure false := by rfl)
   (hf:X.fn x=true∨X.env.scope.names.lookup x=some .local:=by first | exact .inl rfl | exact .inr rfl | assumption):QX X [.Assign [.Name x py] v pos] (Nx i tx):=by
 intro gV s Z H D Ew I h;refine adu (wpAny_Assign_Name (aaI (hv gV s Z H _ Ew I h) (λv s1 zq=>bQ zq λy H1 I1 r1 q1=>?_) λ_ _ z=>z) hw);exact m9 I1 hN hi hx r1 (λs2 I2=>abK ⟨_,H1,I2,q1⟩) hf
end
def Kp (x:Str)(tv:TE):TE:=λZ H Q=>tv Z H λu H1=>∃ i,u=.int i/\i.natAbs.log2<1900/\Q (.str (adm++x++aae (toString i))) H1
theorem qV {v:Expr}{j1:Nat}{p0 p1 p2:Pos}(hv:PE X v tv)(hx:(adm++x).length<=1000:=by nofun):PE X (.JoinedStr [.Constant (.str x) j1 p1,.FormattedValue v (-1) none p2] p0) (Kp x tv):=by
 intro gV s Z H Q I h;refine JoinedStr_many (joinParts_cons (aS (gP (X:=X) gV s Z H (λu H'=>u=.str x/\H'=H) I ⟨rfl,rfl⟩) λu1 s1 zq=>?_));obtain⟨v1,H1,I1,r1,e1,e2⟩:=zq;subst e1 e2;obtain⟨t1,rfl⟩:=r1;refine⟨by rw[aaJ];omega,joinParts_cons (FormattedValue_plain (aS (hv gV s1 Z H1 _ I1 h) λu2 s2 zq=>?_))⟩;obtain⟨v2,H2,I2,r2,i,e,hd,q⟩:=zq;subst e;obtain⟨t2,rfl⟩:=r2;have hl:=int_text_len_1921 (i:=i) (by omega);have hz:(adm++x++aae (toString i)).length<=aal:=by
   rw[aaJ]
   have:(adm++x++aae (toString i)).length=(adm++x).length+(aae (toString i)).length:=by
     show Array.size _=Array.size _+Array.size _;exact Array.size_append
   omega
 refine formatField_int_small (by omega) ?_;exact⟨hz,joinParts_nil ⟨.str _,_,(I2.tok _).tok _,⟨_,rfl⟩,q⟩ hz⟩
theorem Io {K:W.Frag}{o value:Expr}{ta:TE}{f:Str}{Tx:Pos}(h:X.K=K)(ha:PE X o ta)(hv:PE X value tv)(hs:acU value (some (.Attribute o f Tx)) pos.line X.env=pure false:=by rfl):PS X (.Assign [.Attribute o f Tx] value pos) (sX K ta tv f):=by
 subst h;exact KL ha hv hs
theorem kD {P:Program}{w:World}{K:W.Frag}{mg:Str->Option Value}{base:Heap}{N:List Str}{qual:Str}{scope:Scope}{f:Addr}{cd:Value}{A:Around}{outer:List Env}{s0:Shared}{H0:Hp}{E:XK}
   {C:Addr} {fn x:Str} {k:Nat} {np S5 pos:Pos} {e0:Expr} {es:List Expr} {t:TA} (G:J7 P w K mg base k x C fn)
   (hr:bI (k+1) (bW (eu P w) P w K mg base N qual scope f cd A outer s0 H0 E).A) (hg:Gl (bW (eu P w) P w K mg base N qual scope f cd A outer s0 H0 E) x)
   (ha:PA (bW (eu P w) P w K mg base N qual scope f cd A outer s0 H0 E).eV (e0::es) t) (Tt:(x == ("__debug__" : Str))=false:=by decide)
   (he:aai (e0::es) (bW (eu P w) P w K mg base N qual scope f cd A outer s0 H0 E).env=(false,eval e0 (bW (eu P w) P w K mg base N qual scope f cd A outer s0 H0 E).env)::aai es (bW (eu P w) P w K mg base N qual scope f cd A outer s0 H0 E).env:=by rfl)
   (S6:(backTo S5 (aai es (bW (eu P w) P w K mg base N qual scope f cd A outer s0 H0 E).env)).any (·.1)=false:=by rfl) :
   PS (bW (eu P w) P w K mg base N qual scope f cd A outer s0 H0 E) (.Raise (some (.Call (.Name x np) (e0::es) [] S5)) none pos) (vX C fn E t):=by
 obtain⟨fI,fd,ps,c,F,hb⟩:=G.ex;exact Hj c F hb hr hg ha Tt he S6
variable {D:Ends}
theorem IX {f:Str}{E:XK}{t:TA}(h:t Z H λvs H1=>∃ i:Int,vs=[.int i]/\i.natAbs.log2<1900/\∀ d,H1 d=none->E (.ref C) (some d) (upd H1 d (.xd [(f,.int i)]))):vX C f E t D Z H:=h
theorem Nl (h:t Z H λvs H1=>∃ e u,vs=[.ref e,u]/\H1 e=some (XB e C none)/\Q .aC H1):Ko C t Z H Q:=h
theorem qh (h:tv Z H λu H1=>∃ i,u=.int i/\i.natAbs.log2<1900/\Q (.str (adm++x++aae (toString i))) H1):Kp x tv Z H Q:=h
theorem Rj {K:W.Frag}{ta:TE}{f:Str}(h:tv Z H λy H1=>ta Z H1 λx H2=>∃ a C,x=.ref a/\H2 a=some (XB a C none)/\wq K C f/\∀ d,H2 d=none->D.nx Z (upd (upd H2 d (.xd [(f,y)])) a (XB a C (some d)))):sX K ta tv f D Z H:=h
theorem fg (h1 : -(2 ^ 62)<=i)(h2:i<2 ^ 62):i.natAbs.log2<1900:=by
 have h3:i.natAbs<2 ^ 63:=by omega
 by_cases h0:i.natAbs=0
 . rw[h0];decide
 . have := (Nat.log2_lt h0).mpr h3;omega
theorem NM (h:tx Z H (λv H2=>D.nx (Z.set i (some v)) H2) Ew):Nx i tx D Ew Z H:=h
theorem Mf (h:t Z H λvs H1=>sp vs H1 Q Ew):Kb sp t Z H Q Ew:=h
section
variable {prog:Program} {w:World} {A:Around} {E:Value->Shared->Prop} {s:Shared}
theorem Ec:adM (.type "list_reverseiterator") "__len__" = pure none:=by rw[typeLookup_type,adJ];kernel_rfl
theorem IG:adM (.type "list_reverseiterator") "__length_hint__" = pure (some (.builtin "list_reverseiterator.__length_hint__")):=by rw[typeLookup_type,adJ];kernel_rfl
variable {l:Addr}
theorem Hs (TH:s.heap.IsRevIter it l i)(h:Q false s):wpAny (model prog w) A (Builtin.List.listLengthHint (.ref it)) Q E s:=by
 unfold Builtin.List.listLengthHint;refine aad (adG TH.typeIs Ec ?_);show wpAny _ _ (specialOf (Td it) (aae "__length_hint__") >>= _) _ _ _;refine aad (adG TH.typeIs IG ?_);generalize hid:("list_reverseiterator.__length_hint__" : String)=id0
 wp_delta
 rw[show splitId id0=some ("list_reverseiterator","__length_hint__") from by subst hid;nofun];subst hid;refine aad (wpAny_isInstance (T:="list_reverseiterator") (b:=true) TH.typeIs (by rw[isSubtype_type];kernel_rfl) ?_);refine wpAny_ite_split (λhab=>absurd hab (by decide)) (λ_=>?_);refine wpAny_ite_split (λ_=>?_) (λhab=>absurd (by nofun) hab);refine wpAny_ite_split (λhab=>absurd hab (by nofun)) (λ_=>?_);exact aaj h
theorem Eo (hh:A.handled=none)(T6:l≠I)(TH:s.heap.IsRevIter I l ((items.size:Int) - 1))(hl:s.heap.IsList l items)(S:Addr)(res:Value)(c₀ : Nat)(hSI:S≠I)(hSl:S≠l)
   (hS:s.heap.get? S=some { cls:=.type "list",data:=.seq #[] c₀ })
   (hR:∀ h' tk Ux c',(∀ b o,b≠S->b≠I->s.heap.get? b=some o->h'.get? b=some o)->h'.get? S=some { cls:=.type "list",dict:=none,data:=.seq Ux c',slots:=#[] } ->
     ItemsOf (λi v=>items[items.size - 1 - i]? = some v) Ux items.size->R (.ok (.ret res)) { s with heap:=h',toks:=tk }) (hn:items.size<=aal) :
   wpAny (model prog w) A.in1 (abJ (.ref S) (.ref I) res)
     (λTa s'=>match Ta with | .done f=>R (.ok f) s' | .again c'=>c'.quiet=true/\codeAny (model prog w) A c' R s') (λe s'=>R (.error e) s') s:=by
 have W:=(Walks.listRev (prog:=prog) (w:=w) (A:=A.in1) hh I l T6 items).toS;have hSf:S ∉ [I,l]:=λhm=>by
   rcases List.mem_cons.mp hm with e | e
   . exact hSI e
   . exact hSl (List.mem_singleton.mp e)
 unfold abJ;refine aad (wpAny_typeOf TH.typeIs ?_);have h1:Builtin.List.listSameRef (.ref S) (.ref I)=false:=by simp[Builtin.List.listSameRef,hSI]
 have h2:(acY "list_reverseiterator" == acY "list")=false:=by decide
 have h3:(acY "list_reverseiterator" == acY "tuple")=false:=by decide
 simp only[h1,h2,h3,adO,acd,if_false];refine aad (wpAny_pyIter_revIter TH ?_);refine aad (aba (Hs TH ?_));rw[if_neg (by decide)];refine aaj ⟨plainId_quiet F.plain_extend_loop _,codeAny_extend_loopS W hn _ hSf _ items.size 0 _ _ _ rfl (aaU _) ⟨aaU _,by simpa using TH,hl⟩ hS (ItemsOf.nil _) λs' Ux c' hm hS' T3=>?_⟩;rw[Moved.eq_with hm];refine hR s'.heap s'.toks Ux c' (λb ob hb UB e=>hm.heap b ob (λhmem=>?_) e) hS' T3;rcases List.mem_cons.mp hmem with e' | hmem
 . exact hb e'
 . exact UB (List.mem_singleton.mp hmem)
theorem yC (hh:A.handled=none)(T6:l≠I)(TH:s.heap.IsRevIter I l ((items.size:Int) - 1))(hl:s.heap.IsList l items)
   (hQ:∀ h' tk Ux c',(∀ b o,b≠I->s.heap.get? b=some o->h'.get? b=some o) ->
     h'.get? s.heap.objs.size=some { cls:=.type "list",dict:=none,data:=.seq Ux c',slots:=#[] }->ItemsOf (λi v=>items[items.size - 1 - i]? = some v) Ux items.size->Q (.ref s.heap.objs.size) { s with heap:=h',toks:=tk }) (hn:items.size<=aal) :
   wpAny (model prog w) A (call (.type "list") [.ref I]) Q E s:=by
 refine callType_codes (Q₁:=λobj s₁=>obj=.ref s.heap.objs.size/\s₁ = { s with heap:=s.heap.push { cls:=.type "list",data:=.seq #[] } }) F.called_list (F.typeCall_list_1 _) F.entry_list_init
   (code_list_new _ ⟨rfl,rfl⟩) λobj s₁ h₁=>?_
 obtain⟨rfl,rfl⟩:=h₁;obtain⟨oi,hoi,_⟩:=id TH;obtain⟨ol,hol,_⟩:=id hl;have hSI:s.heap.objs.size≠I:=λe=>absurd (aam hoi) (by rw[<- e];exact abB _);have hSl:s.heap.objs.size≠l:=λe=>absurd (aam hol) (by rw[<- e];exact abB _);have hS:(s.heap.push { cls:=.type "list",data:=.seq #[] }).get? s.heap.objs.size=some { cls:=.type "list",data:=.seq #[] }:=aat _ rfl;refine⟨⟨_,hS,rfl⟩,F.args_list_init_2 _ _,?_⟩;show wpAny _ _ (do let U8 <- Builtin.List.listItems (.ref s.heap.objs.size);Builtin.List.listUpdate (.ref s.heap.objs.size) (λ_=>#[]);letGo U8.toList.reverse;abJ (.ref s.heap.objs.size) (.ref I) .none) _ _ _;refine aad ?_;unfold Builtin.List.listItems;refine aad (ac9 hS rfl (aaj ?_));show wpAny _ _ (updateSeq s.heap.objs.size (λ_=>#[]) >>= λ_=>letGo (#[]:Array Value).toList.reverse >>= λ_=>abJ (.ref s.heap.objs.size) (.ref I) .none) _ _ _;refine aad (wpAny_updateSeq hS rfl ?_);have hS₂:=aa_ (acH (λ_=>(#[]:Array Value))) hS rfl;have WG:∀ b o,b≠s.heap.objs.size->s.heap.get? b=some o->((s.heap.push { cls:=.type "list",data:=.seq #[] }).update s.heap.objs.size (acH (λ_=>(#[]:Array Value)))).get? b=some o :=
   λb o hb e=>(aaZ _ _ (Ne.symm hb)).trans (aaf _ e)
 refine aad (wpAny_letGo ?_);refine Eo (A:=A.in1) hh T6 (TH.at λo e=>WG I o (Ne.symm hSI) e) (hl.at λo e=>WG l o (Ne.symm hSl) e) _ .none _ hSI hSl hS₂ (λh' tk Ux c' hk hS' T3=>?_) hn;exact⟨rfl,hQ h' tk Ux c' (λb o hb e=>hk b o (aaw (aam e)) hb (WG b o (aaw (aam e)) e)) hS' T3⟩
end
def J1 (K:W.Frag)(te:TE):TE:=λZ H Q=>te Z H λx H1=>∃ p ys,x=.ref p/\ar K H1 p ys/\∀ l,H1 l=none->Q (.ref l) (upd H1 l (.lst ys.reverse))
theorem NF {K:W.Frag}{te:TE}{Q:VK}(h:te Z H λx H1=>∃ p ys,x=.ref p/\ar K H1 p ys/\∀ l,H1 l=none->Q (.ref l) (upd H1 l (.lst ys.reverse))):J1 K te Z H Q:=h
theorem Pd {K:W.Frag}{p:Addr}{ys:List V}{R:Addr->Hp->Prop}(h:ar K H p ys)(q:∀ l,H l=none->R l (upd H l (.lst ys.reverse))):∃ p' ys,V.ref p=.ref p'/\ar K H p' ys/\∀ l,H l=none->R l (upd H l (.lst ys.reverse)):=⟨p,ys,rfl,h,q⟩
theorem zL:∀ {ys:List V} {its:List Value},aM ys its->aM ys.reverse its.reverse
 | [],_,.nil=>.nil
 | y :: ys, _, .cons r h => by
   rw[List.reverse_cons,List.reverse_cons];exact(zL h).append (.cons r .nil)
theorem FR {its:List Value}{TK:Array Value}(h:ItemsOf (λi v=>its.toArray[its.toArray.size - 1 - i]? = some v) TK its.toArray.size):TK=its.reverse.toArray:=by
 obtain⟨hz,hi⟩:=h;have hz':TK.size=its.length:=by rw[hz];simp
 apply Array.ext
 . simp[hz']
 . intro i h1 h2;have hi1:=hi i TK[i] (Array.getElem?_eq_getElem h1);have hl:i<its.length:=by omega
   have e:its.reverse[i]? = some TK[i]:=by
     rw[adl hl]
     simpa using hi1
   have h3:i<its.reverse.length:=by rw[aa8];exact hl
   rw[aaa h3] at e;injection e with e
   simpa using e.symm
theorem DZ:aaX "reversed" = some (.type "reversed"):=by nofun
theorem LP {K:W.Frag}{e:Expr}{te:TE}{p1 p2 pos1 pos2:Pos}(hK:X.K=K)(hc:X.calm=true)(hg1:Gl X "list")(Uz:X.mg "list" = none)(hg2:Gl X "reversed")(T7:X.mg "reversed" = none)(he:PE X e te)
   (hs1:aai [Expr.Call (.Name "reversed" p2) [e] [] pos2] X.env=[(false,eval (Expr.Call (.Name "reversed" p2) [e] [] pos2) X.env)]:=by rfl) (Uq:aai [e] X.env=[(false,eval e X.env)]:=by rfl) :
   PE X (.Call (.Name "list" p1) [.Call (.Name "reversed" p2) [e] [] pos2] [] pos1) (J1 K te):=by
 subst hK;intro gV s Z H Q I h;refine abg (iM I hg1 Uz Ba ?_);refine aa9 ?_ hs1 rfl;rw[hs1];show wpAny _ _ (spliced [(false,eval (Expr.Call (.Name "reversed" p2) [e] [] pos2) X.env)]) _ _ s;refine adL ?_;refine abg (iM I hg2 T7 DZ ?_);refine aa9 ?_ Uq rfl;rw[Uq];show wpAny _ _ (spliced [(false,eval e X.env)]) _ _ s;refine adL (aS (he gV s Z H _ I h) λu s1 zq=>?_);obtain⟨x,H1,I1,r1,p,ys,ex,hq,q1⟩:=zq;subst ex;cases (show u=Td p from r1)
 refine Calls.spliced_nil ?_;obtain⟨its,rv,pl,hz⟩:=I1.list hq;have S4:=rv.length;have hil:=pl.isList;refine call_reversed_list hil ?_;refine Calls.spliced_nil ?_;obtain⟨ol,hol,_⟩:=id hil;have T6:p≠s1.heap.objs.size:=aaw (aam hol);refine yC (I:=s1.heap.objs.size) (l:=p) (items:=its.toArray) (I1.ok.hd hc) T6 ⟨_,aat _ rfl,rfl,rfl⟩ (hil.at λo e=>aaf _ e) (λh' tk Ux c' kp hS T3=>?_) (by rw[aao,<- S4];exact hz);have ea:=FR T3;subst ea;have VV:s1.heap.objs.size<=(s1.heap.push (revObj p ((its.toArray.size:Int) - 1))).objs.size:=by rw[abP];exact abm _
 refine⟨.ref _,upd H1 (s1.heap.push (revObj p ((its.toArray.size:Int) - 1))).objs.size (.lst ys.reverse),I1.laid (t':=tk) (λb u eb=>kp b u (aaw (aam eb)) (aaf _ eb)) VV ?_,rfl,q1 _ (I1.az.fresh VV)⟩;exact⟨by rw[aa8];exact hz,its.reverse,c',zL rv,hS⟩
def EK (K:W.Frag)(a b:Addr):It :=
 ⟨λi H=>∃ xs ys x y,ar K H a xs/\ar K H b ys/\xs[i]? = some x/\ys[i]? = some y,
  λi H v H'=>∃ T x y,v=.ref T/\H T=none/\H'=upd H T (.tup [x,y])/\∀ xs ys,ar K H a xs->ar K H b ys->xs[i]? = some x/\ys[i]? = some y,
  λi H=>∃ xs ys,ar K H a xs/\ar K H b ys/\(xs.length<=i∨ys.length<=i)⟩
def Ku (K:W.Frag)(ta:TA):TI:=λZ H R=>ta Z H λvs H1=>∃ a b xs ys,vs=[.ref a,.ref b]/\ar K H1 a xs/\ar K H1 b ys/\R (EK K a b) H1
theorem O8 {K:W.Frag}{ta:TA}{Z : St}{R:It->Hp->Prop}(q:ta Z H λvs H1=>∃ a b xs ys,vs=[.ref a,.ref b]/\ar K H1 a xs/\ar K H1 b ys/\R (EK K a b) H1):Ku K ta Z H R:=q
section
variable {X:Cx} {gV:List (Addr×Obj)} {Z : L2.St} {C fI:Addr}
def FX (tb:TB)(C:Addr)(th:TS):TS:=λD Z H=>tb D (λc od H2=>c=.ref C/\∃ d,od=some d/\th { nx:=λZ' H'=>D.nx Z' H',rt:=λv H'=>D.rt v H' } Z H2) Z H
theorem Jy {body:List Stmt}{tb:TB}{x:Str}{np U3 pos:Pos}{b0:Stmt}{Vx:List Stmt}{th:TS}(Tg:X.stack=X.env::X.outer)(UI:X.env.frame=some X.env.locals)(hc:X.calm=true)
   (hb:QX X body tb) (c:k9 X.K X.mg x C fI) (hg:Gl X x) (hs:∀ ea,gj (Cx.sup X ea []) (b0::Vx) th) (Tt:(x == ("__debug__" : Str))=false:=by decide) :
   PS X (.Try body [.ExceptHandler (some (.Name x np)) none (b0::Vx) U3] [] [] pos) (FX tb C th):=by
 intro gV s Z H D I0 h;refine wpAny_Try_except (aaI (hb gV s Z H D _ I0 h) (λf s1 q=>?_) λex s' q=>?_)
 . cases f with
   | next=>exact abK q
   | brk=>exact q
   | cont=>exact q
   | ret u=>exact q
 obtain⟨ea,C',od,H1,s1,H',rfl,I,⟨os,bare,fr,hz,h0,l,u,az,hl,fl,up⟩,ec,d,ed,q⟩:=q;cases ec
 subst ed;have hh:X.calm=true->X.A.handled=none:=I.ok.hd;have fl':ig (ack h0 l) (X.env::X.outer) ea (.ref C) (some d) .none s'.heap:=by rw[<- Tg];exact fl
 refine KI (by rw[<- Tg];exact I.ok.frames) UI fl' λh4 WD up4=>?_;refine qC WD λh5 fl5 up5=>?_;have I5:Inv X gV Z H' { s' with heap:=h5 }:=ku I os bare u az hl fl5.1 ((up.trans up4).trans up5);obtain⟨oe,vs,T,oT,ts,Uc,hoec,hoedd,hoed,_⟩:=fl5.2.2.2;refine wpAny_handleBy_cons (codeAny_handlers_test (eT (X:=Cx.sup X ea []) (Inv.sup I5 (λp hp=>nomatch hp)) hg c.glob ?_ Tt)) (by intro z;cases z);obtain⟨bm,N',nm,qn,bs,hd,sn,sub,ab,col,dd,k0,k1,k2,k3,k5,mN,o,hC,hNs,hni,TL,hf,hfc⟩:=c.obj I5.df;refine wpAny_excMatches_sub_self hC Uc hoec (TL.hasType (by nofun)) (codeAny_handlers_suite ?_);refine qC fl5 λh6 fl6 up6=>?_;have I6:Inv (Cx.sup X ea []) gV Z H' { s' with heap:=h6 }:=Inv.sup (ku I os bare u az hl fl6.1 (((up.trans up4).trans up5).trans up6)) λp hp=>nomatch hp;refine aaI (hs ea gV _ Z H' _ I6 q) (λf s8 q8=>?_) λ_ _ z=>z.elim;cases f with
 | next =>
   obtain⟨Z',H'',I8,q9⟩:=q8;exact⟨Z',H'',Inv.um I8 hh,q9⟩
 | brk=>obtain⟨_,_,_,z⟩:=q8;exact z.elim
 | cont=>obtain⟨_,_,_,z⟩:=q8;exact z.elim
 | ret v =>
   obtain⟨v',Z',H'',I8,r8,q9⟩:=q8;exact⟨v',Z',H'',Inv.um I8 hh,r8,q9⟩
theorem LC (h:tb D (λc od H2=>c=.ref C/\∃ d,od=some d/\th { nx:=λZ' H'=>D.nx Z' H',rt:=λv H'=>D.rt v H' } Z H2) Z H):FX tb C th D Z H:=h
end
theorem SQ (a v:Value):checkTypeCall "enumerate" ⟨[a],[("start",v)]⟩=pure ():=by kernel_rfl
theorem Se (a v:Value):checkBuiltinCall "enumerate.__new__" ⟨[.type "enumerate",a],[("start",v)]⟩=pure ():=by kernel_rfl
theorem Sl (obj a v:Value):argsOk "object.__init__" ⟨[obj,a],[("start",v)]⟩:=by
 unfold argsOk;rw[signature?_of (id:="object.__init__") (n:=['_','_','t','i','n','i','_','_']) (o:=['t','c','e','j','b','o']) (by kernel_rfl) F.owner_object];kernel_rfl
set_option maxHeartbeats 1000000 in
theorem RG (l:Addr)(items:Array Value)(n:Nat)(dct:Option Addr)(sl:Array (Option Value))(k:Int)(t:Tok)(hk:Builtin.SmallTypes.fitsIndex k=true) :
   Meets (Builtin.«enumerate.__new__» ⟨[.type "enumerate",.ref l],[("start",.int k t)]⟩) (λ_ R s=>s.heap.get? l=some { cls:=.type "list",dict:=dct,data:=.seq items n,slots:=sl } /\
     R (.ok (.ret (.ref (s.heap.push { cls:=.type "list_iterator",data:=.fields #[.ref l,.int 0 0] }).objs.size)))
       { s with heap:=(s.heap.push { cls:=.type "list_iterator",data:=.fields #[.ref l,.int 0 0] }).push { cls:=.type "enumerate",data:=.fields #[.none,.bool false,.ref s.heap.objs.size,rawInt k,.none,.none] } }) :=
 .of_wp λprog w A R s h=>by
   obtain⟨hp,g,d,tk,os⟩:=s;obtain⟨hl,h⟩:=h;have hsub:=sub_enumerate;have hL:Heap.IsList (Shared.heap ⟨hp,g,d,tk,os⟩) l items:=⟨_,hl,rfl,n,rfl⟩
   have hk' : ¬ ((!Builtin.SmallTypes.fitsIndex k)=true):=by rw[hk];decide
   wp_walk using ab2 hl
   refine wpAny_stack_any λst=>aaj ?_;split
   . rename_i c _ _ _ _ _;cases (c == acY "enumerate")
     . wp_walk using ab2 hl,abL hL
       exact⟨_,rfl,h⟩
     . wp_walk using ab2 hl,abL hL
       exact⟨_,rfl,h⟩
   . wp_walk using ab2 hl,abL hL
     exact⟨_,rfl,h⟩
theorem QG:Meets (Builtin.«object.__init__» ⟨[self,a],[("start",v)]⟩) (λ_ R s=>s.TypeIs self "enumerate"/\R (.ok (.ret .none)) s):=by
 have hl:=F.called_enumerate.init.lookup;have hm:=F.called_enumerate.made;have T6:(some "enumerate.__new__" != some "object.__new__")=true:=by decide
 refine Meets.of_wp λprog w A R s hs=>?_;obtain⟨hT,hq⟩:=hs;repeat (any_goals (first | assumption | wp_step))
 exact⟨_,rfl,hq⟩
section
variable {prog:Program} {w:World} {A:Around} {E:Value->Shared->Prop} {s:Shared}
variable {l:Addr}
theorem P8 (hk:Builtin.SmallTypes.fitsIndex k=true)(hL:s.heap.IsList l items)
   (h:∀ h',IsEnum h' (s.heap.objs.size+1) s.heap.objs.size k .none->h'.IsListIter s.heap.objs.size l 0->(∀ b o,s.heap.get? b=some o->h'.get? b=some o)->Q (.ref (s.heap.objs.size+1)) { s with heap:=h' }) :
   wpAny (model prog w) A (call (.type "enumerate") [.ref l] [("start",.int k t)]) Q E s:=by
 obtain⟨⟨c0,dct,dt,sl⟩,hl,V0,n,hd0⟩:=hL
 replace V0:c0=.type "list":=V0
 replace hd0:dt=.seq items n:=hd0
 subst V0 hd0;have ft:=F.called_enumerate;obtain⟨c,tl,VO⟩:=ft.mro;have hmade:=ft.made;have hsub:=ft.sub;have hct:=SQ (.ref l) (.int k t);refine acO (codeAny_of_tree ?_);show wpAny _ _ (callAny (.type "enumerate") _) _ _ _;refine aaj ⟨adQ _ (by nofun),codeAny_builtin F.entry_type_call ?_⟩;rw[Around.under_plain (weight_type_call_type "enumerate" [.ref l] [("start",.int k t)]) (units_type_call_type "enumerate" [.ref l] [("start",.int k t)])];have h1:=ft.notType;have h2:=ft.canCreate;repeat (any_goals (first | assumption | wp_step))
 have hz:(s.heap.push { cls:=.type "list_iterator",data:=.fields #[.ref l,.int 0 0] }).objs.size=s.heap.objs.size+1:=abP ..
 refine ab0 (acN ft.plain F.entry_enumerate_new (wpAny_of_eq (Se _ _) (RG l items n dct sl k t hk prog w A.in1 (wants (λobj s₁=>obj=.ref (s.heap.push { cls:=.type "list_iterator",data:=.fields #[.ref l,.int 0 0] }).objs.size /\
   s₁ = { s with heap:=(s.heap.push { cls:=.type "list_iterator",data:=.fields #[.ref l,.int 0 0] }).push { cls:=.type "enumerate",data:=.fields #[.none,.bool false,.ref s.heap.objs.size,rawInt k,.none,.none] } }) E) s ⟨hl,rfl,rfl⟩))) λr s₁ hr=>?_
 cases r with
 | error e=>exact hr
 | ok fl =>
   cases fl with
   | ret obj =>
     obtain⟨eo,es⟩:=hr;rw[hz] at eo;subst eo es
     have he : IsEnum ((s.heap.push { cls := .type "list_iterator", data := .fields #[.ref l, .int 0 0] }).push
         { cls:=.type "enumerate",data:=.fields #[.none,.bool false,.ref s.heap.objs.size,rawInt k,.none,.none] }) (s.heap.objs.size+1) s.heap.objs.size k .none:=by
       have := aat (s.heap.push { cls := .type "list_iterator", data := .fields #[.ref l, .int 0 0] })
         (o:={ cls:=.type "enumerate",data:=.fields #[.none,.bool false,.ref s.heap.objs.size,rawInt k,.none,.none] }) rfl
       rw[hz] at this;exact this
     have hT:Shared.TypeIs { s with heap:=(s.heap.push { cls:=.type "list_iterator",data:=.fields #[.ref l,.int 0 0] }).push { cls:=.type "enumerate",data:=.fields #[.none,.bool false,.ref s.heap.objs.size,rawInt k,.none,.none] } } (.ref (s.heap.objs.size+1)) "enumerate":=⟨_,he,rfl⟩
     have hq:=h _ he ⟨_,aaf _ (aat _ rfl),rfl,rfl⟩ λb o x=>aaf _ (aaf _ x);have hli:=ft.init.lookup;have hbi:=ft.init.bind (.ref (s.heap.objs.size+1));repeat (any_goals (first | assumption | wp_step))
     refine ab0 (acN ft.init.plain F.entry_object_init (ft.init.check _ _ _ _ _ _ _ _ hT (Sl _ _ _) (QG prog w A.in1 (wants (λr s₂=>r=.none/\Q (.ref (s.heap.objs.size+1)) s₂) E) _ ⟨hT,rfl,hq⟩))) λr₂ s₂ hr₂=>?_;cases r₂ with
     | error e=>exact hr₂
     | ok fl₂ =>
       cases fl₂ with
       | ret r =>
         obtain⟨rfl,hq⟩:=hr₂;repeat (any_goals (first | assumption | wp_step))
       | _=>exact hr₂.elim
   | _=>exact hr.elim
end
variable {A:Around}
theorem CC {prog:Program}{w:World}{it:Addr}{fp:List Addr}{n:Nat}{P:Nat->Value->Prop}{St:Nat->Heap->Prop}(D:Draws prog w A it fp n P St) :
   Draws prog w A it fp (n+1) (λi v=>match i with | 0=>False | j+1=>P j v) (λi h=>match i with | 0=>False | j+1=>St j h) where
 live:=λi h st=>match i,st with | j+1,st=>D.live j h st
 frame:=λi h h' st k=>match i,st with | j+1,st=>D.frame j h h' st k
 item:=λi s Q E hi st hQ=>match i,hi,st,hQ with | j+1,hi,st,hQ=>D.item j s Q E (by omega) st hQ
 done:=λs Q E st hE=>D.done s Q E st hE
def Kf (K:W.Frag)(a:Addr):It :=
 ⟨λi H=>∃ xs x,ar K H a xs/\xs[i]? = some x,
  λi H v H'=>∃ T x,v=.ref T/\H T=none/\H'=upd H T (.tup [.int ((i:Int)+1),x])/\∀ xs,ar K H a xs->xs[i]? = some x,
  λi H=>∃ xs,ar K H a xs/\xs.length<=i⟩
theorem Fz {P:Program}{w:World}{K:W.Frag}{es:List Expr}{n:Nat}{pos:Pos}{a it:Addr}(n1:e≠it)(n2:e≠a)(n3:a≠it) :
   Turn P w K (.Tuple es n pos) (Kf K a) [e,it] e (λi h=>(∃ U8,IsEnum h e it ((i:Int)+1) U8)/\h.IsListIter it a i) where
 mem:=by simp
 obj:=λi h st c hc=>by
   obtain⟨⟨U8,he⟩,⟨o1,e1,_,d1⟩⟩:=st;have hc:c=e∨c=it:=by simpa using hc
   rcases hc with rfl | rfl
   . exact⟨_,he,λv z=>by cases z⟩
   . exact⟨_,e1,λv z=>by rw[d1] at z;cases z⟩
 keep:=λi h h' st k=>by
   obtain⟨⟨U8,he⟩,h1⟩:=st;exact⟨⟨U8,k e (by simp) _ he⟩,h1.at λo z=>k it (by simp) o z⟩
 item:=by
   intro X hP hw hK hc i gV s Z H E I hf st hg;subst hP hw hK;obtain⟨⟨U8,he⟩,h1⟩:=st;obtain⟨xs,x,Vc,hx⟩:=hg;obtain⟨Vk,rv1,p1,_⟩:=I.list Vc;obtain⟨u,hu,ru⟩:=rv1.get hx;have S9:i<Vk.length:=(List.getElem?_eq_some_iff.mp hu).1;refine wpAny_pyNext_enum_itemD (i:=i+1) (CC (Draws.list (A:=X.A.in1) (show X.A.in1.handled=none from I.ok.hd hc) it a n3 Vk.toArray)) (by simpa using he) ⟨h1,p1.isList⟩ (by simpa using S9) n1 (by simp[n1,n2]) λu' h' tk hu' ho Tg ht hz kk=>?_;have e1:u'=u:=by
     have hu'':Vk.toArray[i]? = some u':=hu'
     simpa [hu] using hu''.symm
   subst e1;refine⟨_,rfl,wpAny_letOwnedTupleGo_enum ho λh2' he2 s2=>?_⟩;have T0:H s.heap.objs.size=none:=I.az.fresh (aag _);have te:s.heap.objs.size≠e:=abU (aam he);have J:Inv X gV Z (upd H s.heap.objs.size (.tup [.int ((i:Int)+1),x])) { s with heap:=h2' }:=by
     refine xB (ch:=[e,it]) I hf (aag _) (λc o hc z=>?_) (λc hc=>?_) ?_
     . have c1 : c ≠ e := λq => hc (by simp[q]);exact s2.extBut _ _ c1 (kk c o c1 (λq=>hc (by simp[q])) z)
     . have hc : c = e ∨ c = it := by simpa using hc
       rcases hc with rfl | rfl
       . exact⟨_,he2⟩
       . obtain⟨o,z,_⟩:=Tg.1;exact⟨o,s2.extBut _ _ n1.symm z⟩
     . exact⟨by show 2<=aal;decide,[.int ((i:Int)+1) tk,u'],.cons ⟨_,rfl⟩ (.cons ru .nil),⟨_,s2.extBut _ _ te (by simpa using ht),rfl,_,rfl⟩⟩
   refine⟨.ref s.heap.objs.size,_,J.tok _,rfl,⟨_,x,rfl,T0,rfl,λxs' q1=>by rw[I.tV q1 Vc];exact hx⟩,⟨⟨_,by simpa using he2⟩,Tg.1.at λo z=>s2.extBut _ _ n1.symm z⟩,λc hc=>?_⟩;have S9:c<s.heap.objs.size:=by
     have hc:c=e∨c=it:=by simpa using hc
     rcases hc with z | z <;> rw[z]
     . exact aam he
     . obtain⟨o,z,_⟩:=h1;exact aam z
   rw[ak (aaw S9)];exact(hf c hc).1
 done:=by
   intro X hP hw hK hc i gV s Z H E I hf st hg;subst hP hw hK;obtain⟨⟨U8,he⟩,h1⟩:=st;obtain⟨xs,Vc,hl⟩:=hg;obtain⟨Vk,rv1,p1,_⟩:=I.list Vc;have l1:=rv1.length;have hge:Vk.length<=i:=by omega
   have D:Draws X.prog X.w X.A.in1 it [it,a] 0 (λ_ _=>False) (λ_ h=>h.IsListIter it a i/\h.IsList a Vk.toArray) :=
     ⟨λ_ _ st => let ⟨o, ho, _⟩ := st.1; ⟨o, ho⟩, λ_ _ _ st hk => ⟨st.1.at λo z => hk it (by simp) o z, st.2.at λo z => hk a (by simp) o z⟩, λj s Q E hj => absurd hj (acf _),
       λs Q E st hE=>wpAny_nextOf_list_end (show X.A.in1.handled=none from I.ok.hd hc) st.1 st.2 (by simp;omega) hE⟩
   refine wpAny_pyNext_enum_endD D he ⟨h1,p1.isList⟩ λh' hx=>⟨rfl,?_⟩;have hnc:∀ c o,c ∉ [e,it]->s.heap.get? c=some o->h'.get? c=some o:=λc o hc z=>hx c o (λq=>hc (by simp[q])) z;refine I.vc (s':={ s with heap:=h' }) (ch:=[e,it]) rfl ⟨λb o z _ _ hc=>hnc b o hc z,λb o z _ _ hc=>⟨o.slots,hnc b o hc z⟩,λb o z n _=>n,λb o z hc=>⟨o,hnc b o hc z⟩,λ_ _ z=>z,λ_ _ _ z=>z,λb ps z=>⟨#[],by rw[z];simp⟩⟩ (λb u z=>?_) I.bare ?_
   . have nc : ∀ b u, H b = some u -> b ∉ [e, it] := λb u z hb => by rw [(hf b hb).1] at z; cases z
     refine(I.az b u z).iR (λc v hc q=>hnc c v ?_ q) (λ_ q=>q) λ_ _ q=>q;rcases hc with q | q
     . rw[q];exact nc b u z
     . exact nc c _ q
   . intro b hb;obtain⟨f0,f1,f2,f3,f4,f5⟩:=hf b hb;exact⟨f3,f1,f4,f5⟩
 self:=λ_ _ _ _ _ st h=>by
   obtain⟨⟨U8,he⟩,_⟩:=st;exact wpAny_pyIter_enum he h
section
variable {M:Model} {A:Around} {E:Value->Shared->Prop} {s:Shared}
theorem yn {pos:Pos} 
   (Tj:args.any (·.1)=false) (hkw:keywords.any (·.1.isNone)=false)
   (h:wpAny M A (evalArgs (.type T) true args keywords) (λa s₁=>wpAny M A (call (.type T) (first++a.pos) a.kw) Q E s₁) E s):wpAny M A (ac1 pos (.type T) first args keywords) Q E s:=by
 unfold ac1;refine aad (aba (aaI h (λa s₁ h₁=>aad (acr ?_)) λ_ _ x=>x));simp only[Tj,hkw,adO];refine aad (aaj ?_);exact aad (aaI h₁ (λr s₂ hr=>aad (aba (wpAny_point (aaj hr)))) λ_ _ x=>x)
end
theorem Co:aaX "enumerate" = some (.type "enumerate"):=by nofun
def JX (K:W.Frag)(ta:TA)(tv:TE):TI:=λZ H R=>ta Z H λvs H1=>tv Z H1 λv H2=>∃ a xs,vs=[.ref a]/\v=.int 1/\ar K H2 a xs/\R (Kf K a) H2
theorem LA {K:W.Frag}{es:List Expr}{n:Nat}{TV:Pos}{a v:Expr}{ta:TA}{p pos kp:Pos}(hK:X.K=K)(hg:Gl X "enumerate")(hm:X.mg "enumerate" = none)(ha:PA X [a] ta)(hv:PE X v tv)
   (he:backTo pos (aai [a] X.env)=[(false,eval a X.env)]:=by rfl) :
   PI X (.Tuple es n TV) (.Call (.Name "enumerate" p) [a] [⟨some "start",v,kp⟩] pos) (JX K ta tv):=by
 subst hK;intro gV s Z H R I h;refine abg (iM I hg hm Co ?_);refine yn (by rw[he];rfl) rfl ?_;have T8:=ha pos gV s Z H _ I h;rw[he] at T8 ⊢;refine evalArgs_kwB rfl (aS T8 λus s1 zq=>bQ zq λvs H1 I1 r1 q1=>?_);refine kws_cons (aS (hv gV s1 Z H1 _ I1 q1) λu s2 zq=>bQ zq λy H2 I2 ry q2=>kws_nil ?_);obtain⟨l,xs,e1,e2,hx,q⟩:=q2;subst e1 e2;obtain⟨t,rfl⟩:=ry;cases r1 with
 | cons r rr =>
   cases rr
   cases r
   obtain⟨Vk,rv1,p1,_⟩:=I2.list hx;have lx:l<s2.heap.objs.size:=(by obtain⟨o,n,e,_⟩:=p1;exact aam e)
   refine P8 (by decide) (p1.isList) λh' z1 z2 kk=>?_;refine wpAny_pyIter_enum z1 ⟨_,[s2.heap.objs.size+1,s2.heap.objs.size],_,_,H2,rfl,I2.kept (t':=s2.toks) kk,Fz (Nat.succ_ne_self _) (abU (acs lx)) (aaw lx),⟨⟨_,by simpa using z1⟩,z2⟩,λc hc=>?_,q⟩;have hc:c=s2.heap.objs.size+1∨c=s2.heap.objs.size:=by simpa using hc
   have hge:s2.heap.objs.size<=c:=by rcases hc with e | e <;> rw[e] <;> first | exact abm _ | exact aag _
   exact I2.tR hge (I2.az.fresh hge)
theorem NZ {K:W.Frag}{ta:TA}{R:It->Hp->Prop}(q:ta Z H λvs H1=>tv Z H1 λv H2=>∃ a xs,vs=[.ref a]/\v=.int 1/\ar K H2 a xs/\R (Kf K a) H2):JX K ta tv Z H R:=q
def D4 (K:W.Frag):List V->Hp->VK->Prop:=λxs H Q=>∃ (p:Addr) (ns:List Int),xs=[.ref p]/\ar K H p (ns.map V.int)/\Q (.bl (ns.all λn=>n != 0)) H
theorem DS (ns:List Int):(ab9 ns.length).all (λi=>ns.getD i 0 != 0)=ns.all λn=>n != 0:=by
 induction ns with
 | nil=>rfl
 | cons b r ih =>
   rw[aaH,List.range_succ_eq_map,acF,acF,List.all_map,<- ih];rfl
theorem Ft (hc:X.calm=true):cX X (.builtin "all") (D4 X.K):=by
 intro gV s Z H xs us Q I r h;obtain⟨p,bs,rfl,hq,q⟩:=h;obtain⟨u,rfl,rx⟩:=vals1 r;cases rx
 obtain⟨its,rv,pl,hz⟩:=I.list hq;have S4:=rv.length;rw[aac] at S4;have S9:p<s.heap.objs.size:=by obtain⟨o,e,_⟩:=pl.isList;exact aam e
 refine call_all_walk (abL pl.isList ?_);refine⟨s.heap.objs.size,_,_,_,_,_,λi=>bs.getD i 0 != 0,rfl,Walks.list (by exact I.ok.hd hc) s.heap.objs.size p (aaw S9) its.toArray,⟨⟨_,aat _ rfl,rfl,rfl⟩,pl.isList.push _⟩,?_,?_⟩
 . intro i v s' Q' E' hP hQ';have hP':its[i]? = some v:=by simpa using hP
   have hi:i<its.length:=(List.getElem?_eq_some_iff.mp hP').1;have hb:(bs.map V.int)[i]? = some (V.int (bs.getD i 0)):=by
     rw[aah,aaa (by omega)];simp[List.getD,aaa (show i<bs.length by omega)]
   obtain⟨u',hu',ru'⟩:=rv.get hb;rw[hP'] at hu';cases hu'
   obtain⟨t,rfl⟩:=(show ∃ t,v=abt _ t from ru')
   exact PySem.P.truthy_int hQ'
 . intro h' tk kk;have e:(ab9 its.toArray.size).all (λi=>bs.getD i 0 != 0)=bs.all λn=>n != 0:=by
     rw[aao,<- S4];exact DS bs
   rw[e];refine⟨.bl _,H,?_,rfl,q⟩;have I1:Inv X gV Z H { s with heap:=s.heap.push { cls:=.type "list_iterator",data:=.fields #[.ref p,.int 0 0] } }:=I.kept (t':=s.toks) λb o e=>aaf _ e;have f:=I.tR (H':=H) (aag _) I.fresh;exact I1.turned (it:=s.heap.objs.size) (h':=h') (t':=tk) (λb o hb e=>kk b o (by simpa using hb) e) f.1 f.2.1 f.2.2.2.1 f.2.2.2.2.1 f.2.2.2.2.2
theorem DF {K:W.Frag}(h:X.K=K)(hc:X.calm=true):cX X (.builtin "all") (D4 K):=by subst h;exact Ft hc
theorem Nh {K:W.Frag}{p:Addr}{ns:List Int}{Q:VK}(h:ar K H p (ns.map V.int))(q:Q (.bl (ns.all λn=>n != 0)) H):D4 K [.ref p] H Q:=⟨p,ns,rfl,h,q⟩
def Jd (K:W.Frag):List V->Hp->VK->Prop:=λxs H Q=>∃ (p:Addr) (bs:List Bool),xs=[.ref p]/\ar K H p (bs.map V.bl)/\Q (.bl (bs.any id)) H
theorem any_range (bs:List Bool):(ab9 bs.length).any (λi=>bs.getD i false)=bs.any id:=by
 induction bs with
 | nil=>rfl
 | cons b r ih =>
   rw[aaH,List.range_succ_eq_map,abA,abA,List.any_map,<- ih];rfl
theorem Fw (hc:X.calm=true):cX X (.builtin "any") (Jd X.K):=by
 intro gV s Z H xs us Q I r h;obtain⟨p,bs,rfl,hq,q⟩:=h;obtain⟨u,rfl,rx⟩:=vals1 r;cases rx
 obtain⟨its,rv,pl,hz⟩:=I.list hq;have S4:=rv.length;rw[aac] at S4;have S9:p<s.heap.objs.size:=by obtain⟨o,e,_⟩:=pl.isList;exact aam e
 refine call_any_walk (abL pl.isList ?_);refine⟨s.heap.objs.size,_,_,_,_,_,λi=>bs.getD i false,rfl,Walks.list (by exact I.ok.hd hc) s.heap.objs.size p (aaw S9) its.toArray,⟨⟨_,aat _ rfl,rfl,rfl⟩,pl.isList.push _⟩,?_,?_⟩
 . intro i v s' Q' E' hP hQ';have hP':its[i]? = some v:=by simpa using hP
   have hi:i<its.length:=(List.getElem?_eq_some_iff.mp hP').1;have hb:(bs.map V.bl)[i]? = some (V.bl (bs.getD i false)):=by
     rw[aah,aaa (by omega)];simp[List.getD,aaa (show i<bs.length by omega)]
   obtain⟨u',hu',ru'⟩:=rv.get hb;rw[hP'] at hu';cases hu'
   cases (show v=adh _ from ru')
   exact abk hQ'
 . intro h' tk kk;have e:(ab9 its.toArray.size).any (λi=>bs.getD i false)=bs.any id:=by
     rw[aao,<- S4];exact any_range bs
   rw[e];refine⟨.bl _,H,?_,rfl,q⟩;have I1:Inv X gV Z H { s with heap:=s.heap.push { cls:=.type "list_iterator",data:=.fields #[.ref p,.int 0 0] } }:=I.kept (t':=s.toks) λb o e=>aaf _ e;have f:=I.tR (H':=H) (aag _) I.fresh;exact I1.turned (it:=s.heap.objs.size) (h':=h') (t':=tk) (λb o hb e=>kk b o (by simpa using hb) e) f.1 f.2.1 f.2.2.2.1 f.2.2.2.2.1 f.2.2.2.2.2
theorem GY {K:W.Frag}(h:X.K=K)(hc:X.calm=true):cX X (.builtin "any") (Jd K):=by subst h;exact Fw hc
theorem Mo {K:W.Frag}{p:Addr}{bs:List Bool}{Q:VK}(h:ar K H p (bs.map V.bl))(q:Q (.bl (bs.any id)) H):Jd K [.ref p] H Q:=⟨p,bs,rfl,h,q⟩
def ml (K:W.Frag):R2:=λx y H Q=>∃ p q xs ys,x=.ref p/\y=.ref q/\ar K H p xs/\ar K H q ys/\xs.length≠ys.length/\Q (.bl true) H
theorem IP (hu:X.A.units+64<cLine):bR X (aaV .NotEq) (ml X.K):=by
 intro gV s Z H x y v u Q I rx ry h;obtain⟨p,q,xs,ys,rfl,rfl,h1,h2,hn,k⟩:=h;cases rx;cases ry
 obtain⟨its,r1,pl1,_⟩:=I.list h1;obtain⟨jts,r2,pl2,_⟩:=I.list h2;have l1:=r1.length;have l2:=r2.length;refine RcNeAt.lists_lengths pl1.isList pl2.isList ?_ (by omega) _ _ _ _ ⟨.bl true,H,I,rfl,k⟩;simp only[aao,bne_iff_ne];omega
theorem C6 {K:W.Frag}(h:X.K=K)(hu:X.A.units+64<cLine):bR X (aaV .NotEq) (λx y H Q=>gm K x y H Q∨ml K x y H Q):=by subst h;exact(Gr hu).or (IP hu)
section
variable {X:Cx} {C:Addr}
def JS (tb:TB)(C:Addr)(th:TS):TS:=λD Z H=>tb D (λc _ H2=>c=.ref C/\th { nx:=λZ' H'=>D.nx Z' H',rt:=λ_ _=>False } Z H2) Z H
theorem LR {x:Str}{np U3 pos:Pos}(Tg:X.stack=X.env::X.outer)(UI:X.env.frame=some X.env.locals)(hc:X.calm=true)
   (hb:PB X body tb) (c:Bi X.K X.mg x C) (hg:Gl X x) (hs:∀ ea,gj (Cx.sup X ea []) (b0::Vx) th) (Tt:(x == ("__debug__" : Str))=false:=by decide) :
   PS X (.Try body [.ExceptHandler (some (.Name x np)) none (b0::Vx) U3] [] [] pos) (JS tb C th):=by
 intro gV s Z H D I0 h;refine wpAny_Try_except (aaI (hb gV s Z H D _ I0 h) (λf s1 q=>?_) λex s' q=>?_)
 . cases f with
   | next=>exact abK q
   | brk=>exact q
   | cont=>exact q
   | ret u=>exact q
 obtain⟨ea,C',H1,s1,H',rfl,I,⟨os,bare,h0,l,a0,u,az,hl,hnew,fl,up⟩,ec,q⟩:=q;cases ec
 have hh:X.calm=true->X.A.handled=none:=I.ok.hd;have fl':Heap.FlyingW (ack h0 l) (X.env::X.outer) ea (.ref C) a0 s'.heap:=by rw[<- Tg];exact fl
 refine wpAny_looks_onW (by rw[<- Tg];exact I.ok.frames) UI fl' λh4 WD up4=>?_;refine wpAny_landsW WD λh5 fl5 up5=>?_;have I5:Inv X gV Z H' { s' with heap:=h5 }:=ku I os bare u az hl fl5.1 ((up.trans up4).trans up5);obtain⟨oe,Uc,hoec⟩:=fl5.there;refine wpAny_handleBy_cons (codeAny_handlers_test (eT (X:=Cx.sup X ea []) (Inv.sup I5 (λp hp=>nomatch hp)) hg c.glob ?_ Tt)) (by intro z;cases z);obtain⟨bm,N',nm,qn,bs,hd,sn,sub,ab,col,dd,k0,k1,k2,k3,k5,mN,hC,hNs,hni,TL⟩:=c.obj I5.df;refine wpAny_excMatches_sub_self hC Uc hoec (TL.hasType (by nofun)) (codeAny_handlers_suite ?_);refine lands_againW fl5 λh6 fl6 up6=>?_;have I6:Inv (Cx.sup X ea []) gV Z H' { s' with heap:=h6 }:=Inv.sup (ku I os bare u az hl fl6.1 (((up.trans up4).trans up5).trans up6)) λp hp=>nomatch hp;refine aaI (hs ea gV _ Z H' _ I6 q) (λf s8 q8=>?_) λ_ _ z=>z.elim;cases f with
 | next =>
   obtain⟨Z',H'',I8,q9⟩:=q8;exact⟨Z',H'',Inv.um I8 hh,q9⟩
 | brk=>obtain⟨_,_,_,z⟩:=q8;exact z.elim
 | cont=>obtain⟨_,_,_,z⟩:=q8;exact z.elim
 | ret v=>obtain⟨_,_,_,_,_,z⟩:=q8;exact z.elim
end
open PySem PySem.Spec PyProof.Rows L2 PySem.SeqAt PySem.Builtin PySem.Builtin.Str
open PySem PySem.Spec PyProof.Rows L2 PySem.SeqAt PySem.Builtin PySem.Builtin.Str PySem.StrLaws
open PySem PySem.Spec PyProof.Rows L2 PySem.SeqAt PySem.NumText
end L3
namespace HT
open PySem PyProof.Rows
end HT
namespace L3
open PySem PySem.Spec PyProof.Rows L2 PySem.SeqAt
structure QZ (P:Program)(w:World)(K:W.Frag)(mg:Str->Option Value)(base:Heap)(CX:dM)(k:Nat)(x:Str)(sp:Sp):Prop where
 ex:∃ (f:Addr) (fd:aa4) (ps:List Str),c7 P w K mg base CX k f fd ps sp/\mg x=some (.ref f)/\abi K (.ref f)=true/\Binds K fd ps [.none]
section
variable {P:Program} {w:World} {K:W.Frag} {mg:Str->Option Value} {base:Heap} {x qual:Str} {st:Stmt} {N ps:List Str} {sp:Sp}
theorem fj.Ka (F:fj K x qual st f fd)(S:aq N ps (ah st))(len:∀ vs H Q E,sp vs H Q E->vs.length=ps.length)(S7:y8 P w K mg base k qual st N sp):c7 P w K mg base (eQ P w) (k+1) f fd ps sp:=by
 obtain⟨oc,od,da,kV,S8,pm,an,S0,ct,Ts,o,n,rfl,lk,Ua,_,_⟩:=F.ex;exact qx lk Ua S len λA outer s H vs Q E hr UQ=>S7 f S0 A outer s H vs Q E hr UQ
theorem Lk (k:Nat)(h:∃ f fd,fj K x qual st f fd/\mg x=some (.ref f)/\Binds K fd ps []/\Binds K fd ps [.none])(S:aq N ps (ah st))(len:∀ vs H Q E,sp vs H Q E->vs.length=ps.length)
   (S7:y8 P w K mg base k qual st N sp):iJ P w K mg base (eQ P w) (k+1) x sp/\QZ P w K mg base (eQ P w) (k+1) x sp:=by
 obtain⟨f,fd,F,hm,hb,UB⟩:=h;exact⟨⟨f,fd,ps,fj.Ka F S len S7,hm,F.kp,hb⟩,⟨f,fd,ps,fj.Ka F S len S7,hm,F.kp,UB⟩⟩
end
def Fd:List V->Hp->VK->Prop:=λxs H Q=>∃ (a:Addr) (kvs:List (Key×V)) (ks:List Int),xs=[.ref a]/\Rd H a (.dK kvs)/\kvs.map (·.1)=ks.map Sum.inl/\∀ p,H p=none->Q (.ref p) (upd H p (.lst (ks.map V.int)))
variable {X:Cx}
theorem Ef (hc:X.calm=true):cX X (.type "list") Fd:=by
 intro gV s Z H xs us Q I r h;obtain⟨a,kvs,ks,rfl,e,hk,q⟩:=h;obtain⟨u,rfl,rx⟩:=vals1 r;cases rx
 have hh:X.A.handled=none:=I.ok.hd hc;obtain⟨z,hd,vs,TM,dd⟩:=kR I.az e;obtain⟨ep,TU⟩:=dd.dictAt;have WN:kvs.length=ks.length:=by rw[<- aac (f:=(·.1)) (as:=kvs),hk,aac]
 have hlv:vs.length=ks.length:=by rw[<- TM.length,WN]
 refine W.kdl_call (W.kdl_dict (knd:=c4 X.prog X.w) (kvs:=vs) (ep:=ep) hd) hh TU (by rw[hlv,<- WN];exact z) λh' tk TK c' hk' hS T3=>?_;have hl:TK.toList.length=ks.length:=by rw[ab5,<- hlv];exact T3.1
 have hI:IntsAre TK.toList ks:=wU hl λj v hv=>by
   obtain⟨k,x,e1,e2⟩:=T3.2 j v (by rw[<- adg];exact hv);have e3:(kvs.map (·.1))[j]? = some k:=by
     have e4:∀ {kvs:List (Key×V)} {vs:List (Key×Value)},KV kvs vs->kvs.map (·.1)=vs.map (·.1):=λr=>by
       unfold KV at r
       induction r with
       | nil=>rfl
       | cons r1 r2 ih=>rw[aaR,aaR,r1.1,ih]
     rw[e4 TM,aah,e1];rfl
   rw[hk,aah] at e3;obtain⟨n,e5,e6⟩:=Option.map_eq_some_iff.mp e3;rcases cG e2 with ⟨i,t,e7,e8⟩ | ⟨x,t,e7,e8⟩
   . rw[e7] at e6;cases e6
     exact⟨_,t,e5,e8⟩
   . rw[e7] at e6;cases e6
 have hn:H s.heap.objs.size=none:=I.az.fresh (aag _);exact⟨.ref s.heap.objs.size,_,I.laid (t':=tk) (o:=.lst (ks.map V.int)) hk' (aag _) ⟨by rw[aac,<- WN];exact z,TK.toList,c',qa hI,hS⟩,rfl,q _ hn⟩
variable {H:Hp}
theorem LW {a:Addr}{kvs:List (Key×V)}{ks:List Int}{Q:VK}(h:H a=some (.dK kvs))(hk:kvs.map (·.1)=ks.map Sum.inl)(q:∀ p,H p=none->Q (.ref p) (upd H p (.lst (ks.map V.int)))):Fd [.ref a] H Q:=⟨a,kvs,ks,rfl,.inl h,hk,q⟩
section
variable {prog:Program} {w:World} {A:Around} {E:Value->Shared->Prop} {s:Shared}
theorem OH (hi:s.heap.IsListIter it t i)(ht:s.heap.IsList t its)
   (q1:∀ x,its[i]? = some x->∀ h',h'.IsListIter it t (i+1)->ab_ it s.heap h'->Q x { s with heap:=h' })
   (q2:its[i]? = none->A.handled=none/\∀ h' e,Heap.ExtBut it s.heap h'->(∃ o,h'.get? e=some o/\o.cls=.type "StopIteration")->E (.ref e) { s with heap:=h' }) :
   wpAny (model prog w) A (abo (.ref it)) Q E s:=by
 cases hx:its[i]? with
 | some x=>exact wpAny_nextOf_list_item hi ht hx λh' k1 k2=>q1 x hx h' k1 k2
 | none =>
   obtain⟨hh,q⟩:=q2 hx;exact wpAny_nextOf_list_end hh hi ht hx λh' e k1 k2=>q h' e k1 k2
end
def D3 (K:W.Frag)(l1 l2 l3 l4 l5:Addr):It :=
 ⟨λi H=>∃ X1 X2 X3 X4 X5 x1 x2 x3 x4 x5,ar K H l1 X1/\ar K H l2 X2/\ar K H l3 X3/\ar K H l4 X4/\ar K H l5 X5/\X1[i]? = some x1/\X2[i]? = some x2/\X3[i]? = some x3/\X4[i]? = some x4/\X5[i]? = some x5,
  λi H v H'=>∃ T x1 x2 x3 x4 x5,v=.ref T/\H T=none/\H'=upd H T (.tup [x1,x2,x3,x4,x5])/\∀ X1 X2 X3 X4 X5,ar K H l1 X1->ar K H l2 X2->ar K H l3 X3->ar K H l4 X4->ar K H l5 X5->X1[i]? = some x1/\X2[i]? = some x2/\X3[i]? = some x3/\X4[i]? = some x4/\X5[i]? = some x5,
  λi H=>∃ X1 X2 X3 X4 X5,ar K H l1 X1/\ar K H l2 X2/\ar K H l3 X3/\ar K H l4 X4/\ar K H l5 X5/\(X1.length<=i∨X2.length<=i∨X3.length<=i∨X4.length<=i∨X5.length<=i)⟩
def Km (K:W.Frag)(ta:TA):TI:=λZ H R=>ta Z H λvs H1=>∃ l1 l2 l3 l4 l5 X1 X2 X3 X4 X5,vs=[.ref l1,.ref l2,.ref l3,.ref l4,.ref l5]/\ar K H1 l1 X1/\ar K H1 l2 X2/\ar K H1 l3 X3/\ar K H1 l4 X4/\ar K H1 l5 X5/\R (D3 K l1 l2 l3 l4 l5) H1
variable {ta:TA}
theorem Of {K:W.Frag}{Z : St}{R:It->Hp->Prop}(q:ta Z H λvs H1=>∃ l1 l2 l3 l4 l5 X1 X2 X3 X4 X5,vs=[.ref l1,.ref l2,.ref l3,.ref l4,.ref l5]/\ar K H1 l1 X1/\ar K H1 l2 X2/\ar K H1 l3 X3/\ar K H1 l4 X4/\ar K H1 l5 X5/\R (D3 K l1 l2 l3 l4 l5) H1):Km K ta Z H R:=q
theorem Jp {K:W.Frag}{l1 l2 l3 l4 l5:Addr}{X1 X2 X3 X4 X5:List V}{g:TG}{tb:TS}{D:Ends}{Z : St}(hy2:X2.length=X1.length)(hy3:X3.length=X1.length)(hy4:X4.length=X1.length)(hy5:X5.length=X1.length)(Pv:Nat->St->Hp->Prop)(h0:Pv 0 Z H)(hl:∀ i Z H,i<=X1.length->Pv i Z H->ar K H l1 X1/\ar K H l2 X2/\ar K H l3 X3/\ar K H l4 X4/\ar K H l5 X5)
   (hs:∀ i x1 x2 x3 x4 x5 T Z H,X1[i]? = some x1->X2[i]? = some x2->X3[i]? = some x3->X4[i]? = some x4->X5[i]? = some x5->Pv i Z H->H T=none->g (.ref T) Z (upd H T (.tup [x1,x2,x3,x4,x5])) λZ2 H2=>tb { D with nx:=Pv (i+1),ct:=Pv (i+1),bk:=D.nx } Z2 H2) (hd:∀ Z H,Pv X1.length Z H->D.nx Z H):zv (D3 K l1 l2 l3 l4 l5) g tb D Z H:=by
 refine⟨λi m Z H=>m=X1.length - i/\i<=X1.length/\Pv i Z H,⟨X1.length,by simp,aaU _,h0⟩,?_⟩;rintro i m Z H ⟨rfl,hi,p⟩;obtain⟨q1,q2,q3,q4,q5⟩:=hl i Z H hi p;by_cases S9:i<X1.length
 . refine .inr ⟨⟨X1, X2, X3, X4, X5, X1[i], X2[i], X3[i], X4[i], X5[i], q1, q2, q3, q4, q5, by simp[S9], by simp[hy2, S9], by simp[hy3, S9], by simp[hy4, S9], by simp[hy5, S9]⟩, Pv (i + 1), λZ' H' p' => ⟨X1.length - (i + 1), by omega, rfl, S9, p'⟩, λx H' y => ?_⟩;obtain⟨T,x1,x2,x3,x4,x5,rfl,hT,rfl,hxy⟩:=y;obtain⟨r1,r2,r3,r4,r5⟩:=hxy _ _ _ _ _ q1 q2 q3 q4 q5;exact hs i x1 x2 x3 x4 x5 T Z H r1 r2 r3 r4 r5 p hT
 . have e : i = X1.length := by omega
   subst e;exact .inl ⟨⟨X1,X2,X3,X4,X5,q1,q2,q3,q4,q5,.inl (aag _)⟩,hd Z H p⟩
variable {l:List Str} {x:Str}
theorem SW (_:(x::l).Nodup)(e:X.N=x::l):X.N[0]? = some x:=by rw[e];rfl
theorem R4 (_:(a::x::l).Nodup)(e:X.N=a::x::l):X.N[1]? = some x:=by rw[e];rfl
variable {b:Str}
theorem SM (_:(a::b::x::l).Nodup)(e:X.N=a::b::x::l):X.N[2]? = some x:=by rw[e];rfl
variable {c:Str}
theorem Sf (_:(a::b::c::x::l).Nodup)(e:X.N=a::b::c::x::l):X.N[3]? = some x:=by rw[e];rfl
variable {d:Str}
theorem SG (_:(a::b::c::d::x::l).Nodup)(e:X.N=a::b::c::d::x::l):X.N[4]? = some x:=by rw[e];rfl
variable {e:Str}
theorem R6 (_:(a::b::c::d::e::x::l).Nodup)(e:X.N=a::b::c::d::e::x::l):X.N[5]? = some x:=by rw[e];rfl
variable {f:Str}
theorem Sn (_:(a::b::c::d::e::f::x::l).Nodup)(e:X.N=a::b::c::d::e::f::x::l):X.N[6]? = some x:=by rw[e];rfl
variable {g:Str}
theorem R_ (_:(a::b::c::d::e::f::g::x::l).Nodup)(e:X.N=a::b::c::d::e::f::g::x::l):X.N[7]? = some x:=by rw[e];rfl
variable {h:Str}
theorem SO (_:(a::b::c::d::e::f::g::h::x::l).Nodup)(e:X.N=a::b::c::d::e::f::g::h::x::l):X.N[8]? = some x:=by rw[e];rfl
variable {i:Str}
theorem SS (_:(a::b::c::d::e::f::g::h::i::x::l).Nodup)(e:X.N=a::b::c::d::e::f::g::h::i::x::l):X.N[9]? = some x:=by rw[e];rfl
variable {j:Str}
theorem RE (_:(a::b::c::d::e::f::g::h::i::j::x::l).Nodup)(e:X.N=a::b::c::d::e::f::g::h::i::j::x::l):X.N[10]? = some x:=by rw[e];rfl
theorem Rz (_:(a::b::c::d::e::f::g::h::i::j::k::x::l).Nodup)(e:X.N=a::b::c::d::e::f::g::h::i::j::k::x::l):X.N[11]? = some x:=by rw[e];rfl
theorem RO (_:(a::b::c::d::e::f::g::h::i::j::k::m::x::l).Nodup)(e:X.N=a::b::c::d::e::f::g::h::i::j::k::m::x::l):X.N[12]? = some x:=by rw[e];rfl
theorem Ro (_:(a::b::c::d::e::f::g::h::i::j::k::m::n::x::l).Nodup)(e:X.N=a::b::c::d::e::f::g::h::i::j::k::m::n::x::l):X.N[13]? = some x:=by rw[e];rfl
section
variable {X:Cx} {P:Program} {w:World} {K:W.Frag} {mg:Str->Option Value} {base:Heap} {CX:dM} {k:Nat} {E:XK} {m x:Str} {p pos S_:Pos} {e o iter tg c:Expr} {es:List Expr} {ta te tl:TE} {t:TA} {sp:Sp} {C:Addr} {id:String} {v:V} {u:Value} {r:List V->Hp->VK->Prop} {g:TG} {tb:TS} {wi:TI} {tc:TT} {body:List Stmt}
theorem PY (hP:X.prog=P/\X.w=w/\X.K=K/\X.mg=mg/\X.base=base)(G:iJ P w K mg base cb k x sp)(hr:bI k X.A)(hg:Gl X x)(ha:PA X (e::es) t)(Tt:(x == ("__debug__" : Str))=false)
   (he:aai (e::es) X.env=(false,eval e X.env)::aai es X.env) (S6:(backTo pos (aai es X.env)).any (·.1)=false):PE X (.Call (.Name x p) (e::es) [] pos) (cj sp E0 t):=by
 obtain⟨rfl,rfl,rfl,rfl,rfl⟩:=hP;exact bp G hr b_ hg ha Tt he S6
theorem NY (hP:X.prog=P/\X.w=w/\X.K=K/\X.mg=mg/\X.base=base)(G:CS P w K mg base cb k x C sp)(hr:bI (k+1) X.A)(hg:Gl X x)(ha:PA X (e::es) t)(Tt:(x == ("__debug__" : Str))=false)
   (he:aai (e::es) X.env=(false,eval e X.env)::aai es X.env) (S6:(backTo pos (aai es X.env)).any (·.1)=false):PE X (.Call (.Name x p) (e::es) [] pos) (zH C sp E0 t):=by
 obtain⟨rfl,rfl,rfl,rfl,rfl⟩:=hP;exact Aa G hr b_ hg ha Tt he S6
theorem OV (hM:X.mg=mg)(hm:mg x=none)(hv:aaX x=some (.builtin id))(hc:cX X (.builtin id) r)(hg:Gl X x)(ha:PA X (e::es) t)(Tt:(x == ("__debug__" : Str))=false)(hn:x ≠ "__name__")
   (he:aai (e::es) X.env=(false,eval e X.env)::aai es X.env) (S6:(backTo pos (aai es X.env)).any (·.1)=false):PE X (.Call (.Name x p) (e::es) [] pos) (nB r t):=by
 subst hM;exact cJ hc hg hm hv ha hn Tt he S6
theorem NI (hM:X.mg=mg)(hm:mg x=none)(hv:aaX x=some (.type id))(hc:cX X (.type id) r)(hg:Gl X x)(ha:PA X (e::es) t)(Tt:(x == ("__debug__" : Str))=false)(hn:x ≠ "__name__")
   (he:aai (e::es) X.env=(false,eval e X.env)::aai es X.env) (S6:(backTo pos (aai es X.env)).any (·.1)=false):PE X (.Call (.Name x p) (e::es) [] pos) (nB r t):=by
 subst hM;exact qc hc hg hm hv ha hn Tt he S6
theorem M3 (hM:X.mg=mg)(hm:mg x=some (.ref A))(hg:Gl X x)(hd:(x == ("__debug__" : Str))=false):PE X (.Name x pos) (tC (.ref A)):=by
 subst hM;exact gb hg hm rfl hd
theorem Ni {i:Int}(hM:X.mg=mg)(hm:∃ t,mg x=some (.int i t))(hg:Gl X x)(hd:(x == ("__debug__" : Str))=false):PE X (.Name x pos) (tC (.int i)):=by
 subst hM;exact gb hg hm.choose_spec ⟨_,rfl⟩ hd
theorem Ow (hM:X.mg=mg)(hm:mg "range" = none)(hg:Gl X "range")(ha:PA X [a] t)(hs:aai [a] X.env=[(false,eval a X.env)]):PI X tg (.Call (.Name "range" p) [a] [] pos) (mX t):=by
 subst hM;exact e_ hg hm ha hs
theorem O2 {a b:Expr}(hM:X.mg=mg)(hm:mg "range" = none)(hg:Gl X "range")(ha:PA X [a,b] t)(hs:aai [a,b] X.env=[(false,eval a X.env),(false,eval b X.env)])(Uq:aai [b] X.env=[(false,eval b X.env)]):PI X tg (.Call (.Name "range" p) [a,b] [] pos) (Dt t):=by
 subst hM;exact xS hg hm ha hs Uq
theorem NL {a b:Expr}{rest:List Expr}{tA WE:TT}(ha:PT X a tA)(hb:PW X (.BoolOp .And (b::rest) pos) WE):PT X (.BoolOp .And (a::b::rest) pos) (Og tA WE):=(lX ha hb).pt
theorem Ql {a b:Expr}{rest:List Expr}{tA WE:TT}(ha:PT X a tA)(hb:PW X (.BoolOp .Or (b::rest) pos) WE):PT X (.BoolOp .Or (a::b::rest) pos) (JQ tA WE):=(EU ha hb).pt
def oX:List Str->List V->St
 | [],_=>[]
 | _::r,[]=>none::oX r []
 | _::r,v::vs=>some v::oX r vs
theorem Qf {t:TS}{D:Ends}{N:List Str}{vs:List V}{Z':St}(h1:L2.start N vs=oX N vs)(h2:oX N vs = Z')(q:t D Z' H):t D (L2.start N vs) H:=by rw[h1,h2];exact q
def Pe (_:Str)(_:Nat):Prop:=True
theorem iZ (m:Str)(k:Nat):Pe m k:=trivial
theorem MX (hk:Pe m k)(hP:X.prog=P/\X.w=w/\X.K=K/\X.mg=mg/\X.base=base)(he:PE X o ta)(hr:bI k X.A)(ha:PA X (e::es) t)
   (Tg:aai (e::es) X.env=(false,eval e X.env)::aai es X.env) (S6:(backTo pos (aai es X.env)).any (·.1)=false)
   (ht : eval (.Call (.Attribute o m S_) (e :: es) [] pos) X.env = (do
     let ov <- eval o X.env
     standAt S_.atName
     let (f,first) <- holding [ov] (acV ov m pl)
     ac1 pos f first (backTo pos (aai (e::es) X.env)) (ac2 pos (abZ [] X.env)))) :
   PE X (.Call (.Attribute o m S_) (e::es) [] pos) (cE P w K mg base cb k m E0 ta t):=AS hP he hr b_ ha Tg S6 ht
theorem K0 (hk:Pe m k)(hP:X.prog=P/\X.w=w/\X.K=K/\X.mg=mg/\X.base=base)(he:PE X o ta)(hr:bI k X.A)
   (ht : eval (.Call (.Attribute o m S_) [] [] pos) X.env = (do
     let ov <- eval o X.env
     standAt S_.atName
     let (f,first) <- holding [ov] (acV ov m pl)
     ac1 pos f first (backTo pos (aai [] X.env)) (ac2 pos (abZ [] X.env)))) :
   PE X (.Call (.Attribute o m S_) [] [] pos) (cE P w K mg base cb k m E0 ta aR):=kJ hP he hr b_ ht
theorem K1 {S_ S5:Pos}(h:X.K=K)(ho:PE X o ta)(ha:PA X (e::es) t)
   (Tq:ab3 o "append" X.env (eval o X.env)=eval o X.env)
   (Wq:((backTo S5 (aai (e::es) X.env)).all (λx=>!x.1) && (ac2 S5 (abZ [] X.env)).all (λx=>x.1.isSome)
     && decide ((e::es).length+([]:List Keyword).length+(if ([]:List Keyword).isEmpty then 0 else 1)<30))=true)
   (T4:(S_.endLine == S5.line)=true) (hs:aai (e::es) X.env=(false,eval e X.env)::aai es X.env) (Tj:(backTo S5 (aai es X.env)).any (·.1)=false) :
   PE X (.Call (.Attribute o "append" S_) (e::es) [] S5) (Od K "list" xj ta t):=zY h abG PySem.F.slot_list_append PySem.F.type_list_append ye ho ha Tq Wq T4 hs Tj
end
abbrev Src:=Bool×Addr×Addr
def er (h:Heap)(p:Src)(k:Nat):Prop:=match p with | (true,t,i)=>h.IsListIter i t k | (false,t,i)=>h.IsTupleIter i t k
def ib (h:Heap)(p:Src)(X:Array Value):Prop:=match p with | (true,t,_)=>h.IsList t X | (false,t,_)=>h.IsTuple t X
abbrev eg (xs:Array Value):Obj:={ cls:=.type "tuple",data:=.seq xs }
structure My (z TI TO:Addr)(S:List Src):Prop where
 TIz:TI≠z
 TOz:TO≠z
 TITO:TI≠TO
 el:∀ p∈S,p.2.2≠z/\p.2.2≠TO/\TI≠p.2.2/\p.2.1≠z/\p.2.1≠TO/\∀ q∈S,p.2.1≠q.2.2
 nd:(S.map (·.2.2)).Nodup
theorem er.to {h h':Heap}{p:Src}{k:Nat}(q:er h p k)(e:∀ o,h.get? p.2.2=some o->h'.get? p.2.2=some o):er h' p k:=by
 obtain⟨b,t,i⟩:=p;cases b
 . exact Heap.IsTupleIter.at q e
 . exact Heap.IsListIter.at q e
theorem ib.to {h h':Heap}{p:Src}{X:Array Value}(q:ib h p X)(e:∀ o,h.get? p.2.1=some o->h'.get? p.2.1=some o):ib h' p X:=by
 obtain⟨b,t,i⟩:=p;cases b
 . exact Heap.IsTuple.at q e
 . exact Heap.IsList.at q e
variable {β : Type}
theorem BB {M:Model}{A:Around}{E:Value->Shared->Prop}{f:Value×Nat->β->Sem (ForInStep β)}{b0 : β}{Q : β->Shared->Prop}(I:Nat->Shared->Prop):∀ (l:List Value) (j:Nat) (s:Shared),I j s ->
   (∀ i v s,l[i]? = some v->I (j+i) s->wpAny M A (f (v,j+i) b0) (λr s'=>r=.yield b0/\I (j+i+1) s') E s)->(∀ s,I (j+l.length) s->Q b0 s)->wpAny M A (forIn (l.zipIdx j) b0 f) Q E s
 | [],j,s,h,_,q=>by simp only[List.zipIdx_nil,List.forIn_nil];exact aaj (q s h)
 | v :: l, j, s, h, st, q => by
   simp only[List.zipIdx_cons,List.forIn_cons];refine aad (aaI (st 0 v s rfl h) (λr s' e=>?_) (λ_ _ x=>x));obtain⟨rfl,h'⟩:=e;refine BB I l (j+1) s' h' (λi v s e hi=>?_) λs h=>q s (by rw[aaH,Nat.add_comm l.length,<- Nat.add_assoc];exact h);have e1:j+1+i=j+(i+1):=by omega
   rw[e1] at hi ⊢;exact st (i+1) v s e hi
section
variable {prog:Program} {w:World} {A:Around} {E:Value->Shared->Prop} {s:Shared}
theorem Qs {p:Src}{i:Nat}{its:Array Value}{Q:Value->Shared->Prop}(hi:er s.heap p i)(ht:ib s.heap p its)
   (q1:∀ x,its[i]? = some x->∀ h',er h' p (i+1)->ab_ p.2.2 s.heap h'->Q x { s with heap:=h' })
   (q2:its[i]? = none->A.handled=none/\∀ h' e,Heap.ExtBut p.2.2 s.heap h'->(∃ o,h'.get? e=some o/\o.cls=.type "StopIteration")->E (.ref e) { s with heap:=h' }) :
   wpAny (model prog w) A (abo (.ref p.2.2)) Q E s:=by
 obtain⟨b,t,it⟩:=p;cases b
 . exact Pf hi ht q1 q2
 . exact OH hi ht q1 q2
theorem IW {T:Addr}{xs:Array Value}{x:Value}{k:Nat}{Q:Unit->Shared->Prop}(hT:s.heap.get? T=some (eg xs))(hs:xs.size<=aal)
   (h:∀ h',h'.get? T=some (eg (xs.setIfInBounds k x))->ab_ T s.heap h'->Q () { s with heap:=h' }) :
   wpAny (model prog w) A (updateSeq T (·.setIfInBounds k x)) Q E s:=by
 refine wpAny_updateSeq hT rfl (h _ ?_ (ac6 ..)) hs (by simp only[Array.size_setIfInBounds];omega);rw[aa_ _ hT rfl];simp[acH]
set_option maxHeartbeats 4000000 in
theorem RK {z TI TO:Addr}{S:List Src}{Xs:List (Array Value)}{as:Array Value}{k:Nat}{Q:Fin->Shared->Prop}(D:My z TI TO S)(hz:IsZip s.heap z TI TO .none)(hTI:s.heap.get? TI=some (eg (S.map λp=>Td p.2.2).toArray))(hTO:s.heap.get? TO=some (eg as))(hl:as.size=S.length)(hS:S≠[])(hX:Xs.length=S.length)(hs:S.length<=aal)
   (h:∀ (i:Nat) p X,S[i]? = some p->Xs[i]? = some X->er s.heap p k/\ib s.heap p X)
   (q1:∀ xs:List Value,xs.length=S.length->(∀ (i:Nat) X x,Xs[i]? = some X->xs[i]? = some x->X[k]? = some x)->∀ h',IsZip h' z TI TO (rawInt s.heap.objs.size)->h'.get? TO=some (eg xs.toArray)->(∀ (i:Nat) p,S[i]? = some p->er h' p (k+1))->h'.get? s.heap.objs.size=some (eg xs.toArray) ->
     (∀ c o,c≠z->c≠TO->(∀ p∈S,c≠p.2.2)->s.heap.get? c=some o->h'.get? c=some o)->Q (.done (.ret (.ref s.heap.objs.size))) { s with heap:=h' })
   (q2:∀ (i:Nat) X,Xs[i]? = some X->X[k]? = none->A.handled=none/\∀ h' e,(∀ c o,c≠z->c≠TO->(∀ p∈S,c≠p.2.2)->s.heap.get? c=some o->h'.get? c=some o)->(∃ o,h'.get? e=some o/\o.cls=.type "StopIteration")->E (.ref e) { s with heap:=h' }) :
   wpAny (model prog w) A (Builtin.«zip.__next__» ⟨[.ref z],[]⟩) Q E s:=by
 show wpAny _ _ (field (.ref z) 2 >>= _) _ _ _;refine aad (aby hz rfl (x:=.bool false) rfl ?_);show wpAny _ _ (field (.ref z) 3 >>= _) _ _ _;refine aad (aby hz rfl (x:=.ref TI) rfl (aad (ac9 hTI rfl ?_)));have ne:(S.map λp=>Td p.2.2).toArray.isEmpty=false:=by
   cases S
   . exact absurd rfl hS
   . rfl
 simp only[ne];show wpAny _ _ (Builtin.SmallTypes.ownedTupleIsFree (.ref z) >>= _) _ _ _;refine aad ?_;unfold Builtin.SmallTypes.ownedTupleIsFree;refine aad (aby hz rfl (x:=.none) rfl (aaj ?_));simp only[if_true];refine aad (wpAny_rule (aad (aby hz rfl (x:=.ref TO) rfl ?_)));refine aad (ac5 hz (by simp) λg1 hz1 s1=>?_);replace hz1:IsZip g1 z TI TO .ellipsis:=hz1;refine aad ?_
 refine BB (λj s'=>∃ (xs:List Value) (g:Heap),s'={ s with heap:=g }/\xs.length=j/\(∀ (i:Nat) X x,Xs[i]? = some X->xs[i]? = some x->X[k]? = some x)/\IsZip g z TI TO .ellipsis/\g.get? TO=some (eg (xs++as.toList.drop j).toArray)/\(∀ (i:Nat) p,S[i]? = some p->i<j->er g p (k+1))/\g.objs.size=s.heap.objs.size/\∀ c o,c≠z->c≠TO->(∀ (i:Nat) p,S[i]? = some p->i<j->c≠p.2.2)->s.heap.get? c=some o->g.get? c=some o) _ 0 _
   ⟨[],g1,rfl,rfl,λi X x _ e=>by simp at e,hz1,s1.extBut _ _ D.TOz hTO,λi p _ e=>absurd e (acf _),s1.1,λc o c1 _ _ e=>s1.extBut _ _ c1 e⟩ (λi v s' hv hI=>?_) λs' hI=>?_
 . rw[ado] at hI ⊢;obtain⟨xs,g,rfl,V7,WL,hzg,hO,TH,hsz,hk⟩:=hI;obtain⟨p,hp,rfl⟩:∃ p,S[i]? = some p/\v=Td p.2.2:=by
     have:=hv
     simp only[List.toList_toArray,aah,abN] at this;obtain⟨p,e,e2⟩:=this;exact⟨p,e,e2.symm⟩
   have hi:i<S.length:=(List.getElem?_eq_some_iff.mp hp).1;obtain⟨X,hX'⟩:∃ X,Xs[i]? = some X:=⟨Xs[i],aaa (by omega)⟩
   have hm:p∈S:=aak hp;obtain⟨a1,a2,a3,a4,a5,a6⟩:=D.el p hm;obtain⟨h1,h2⟩:=h i p X hp hX';have inj:∀ (j:Nat) q,S[j]? = some q->j<i->p.2.2≠q.2.2:=λj q hq hj e=>by
     have e1:(S.map (·.2.2))[i]? = some p.2.2:=by rw[aah,hp];rfl
     have e2:(S.map (·.2.2))[j]? = some p.2.2:=by rw[aah,hq,e];rfl
     have:=(List.getElem?_inj (by rw[aac];omega) D.nd).mp (e2.trans e1.symm)
     omega
   refine aad (wpAny_onRaise ?_);show wpAny _ _ (abo (.ref p.2.2) >>= _) _ _ _;refine aad (Qs (p:=p) (h1.to λo e=>hk _ o a1 a2 inj e) (h2.to λo e=>hk _ o a4 a5 (λj q hq _=>a6 q (aak hq)) e) (λx hx g2 h12 s2=>aaj ?_) λhx=>?_)
   . have hO2 := s2.extBut _ _ a2.symm hO;refine aad (ac9 hO2 rfl (aad (IW hO2 (by simp [V7];omega) λg3 hO3 s3=>?_)));refine aad (wpAny_letGo (aaj ⟨rfl,xs++[x],g3,rfl,by simp [V7],λj Y y hY hy=>?_,s3.extBut _ _ D.TOz.symm (s2.extBut _ _ a1.symm hzg),?_,λj q hq hj=>?_,by rw [s3.1,s2.1];exact hsz,λc o c1 c2 c3 e=>s3.extBut _ _ c2 (s2.extBut _ _ (c3 i p hp (acE _)) (hk c o c1 c2 (λj q hq hj=>c3 j q hq (acs hj)) e))⟩))
     . by_cases hj:j<i
       . exact WL j Y y hY (by rw[aas (by omega)] at hy;exact hy)
       . rw [aaq (by omega)] at hy
         have:j=i:=by
           have:=(List.getElem?_eq_some_iff.mp hy).1
           simp at this;omega
         subst this;simp[V7] at hy;rw[hX'] at hY;cases hY
         cases hy
         exact hx
     . rw[hO3]
       congr 2
       apply Array.toList_inj.mp;have hd:as.toList.drop i=as.toList[i]'(by simp;omega)::as.toList.drop (i+1):=List.drop_eq_getElem_cons (by simp;omega);simp only[Array.toList_setIfInBounds,List.toList_toArray];rw[hd,List.set_append_right _ _ (by omega),V7,Nat.sub_self,List.set_cons_zero,acn];rfl
     . by_cases e:j=i
       . subst e;rw[hp] at hq;cases hq
         exact h12.to λo e=>s3.extBut _ _ a2 e
       . obtain⟨_, b2, _⟩ := D.el q (aak hq);exact(TH j q hq (by omega)).to λo e'=>s3.extBut _ _ b2 (s2.extBut _ _ (inj j q hq (by omega)).symm e')
   . obtain ⟨hh, q2⟩ := q2 i X hX' hx;refine ⟨hh,λg4 e s4 he=>?_⟩;obtain ⟨oe,Uc,hce⟩:=he;have hz4:IsZip g4 z TI TO .ellipsis:=s4 _ _ a1.symm hzg;have hez:e≠z:=λv=>by subst v;rw [hz4] at Uc;cases Uc;simp at hce
     exact ac5 hz4 (by simp) λg5 _ s5=>q2 g5 e (λc o c1 c2 c3 v=>s5.extBut _ _ c1 (s4 _ _ (c3 p hm) (hk c o c1 c2 (λj q hq _=>c3 q (aak hq)) v))) ⟨oe,s5.extBut _ _ hez Uc,hce⟩
 . obtain ⟨xs, g5, rfl, V7, WL, hz5, hO5, TH, z5, k5⟩ := hI;have V7:xs.length=S.length:=by rw [V7];simp
   have hO5:g5.get? TO=some (eg xs.toArray):=by rw[hO5];simp[hl]
   refine aad (ac9 hO5 rfl (aad (wpAny_newTuple ?_ (by show xs.length<=aal;omega))));have zlt:z<g5.objs.size:=aam hz5;show wpAny _ _ (Builtin.SmallTypes.ownedTupleHandOut (.ref z) (.ref g5.objs.size) >>= _) _ _ _;refine aad ?_;unfold Builtin.SmallTypes.ownedTupleHandOut;have hz6:IsZip (g5.push (eg xs.toArray)) z TI TO .ellipsis:=aaf _ hz5;refine aad (ac5 hz6 (by simp) λg7 hz7 s7=>?_);replace hz7:IsZip g7 z TI TO (rawInt g5.objs.size):=hz7;refine ac5 hz7 (by simp) λg8 hz8 s8=>?_;replace hz8:IsZip g8 z TI TO (rawInt g5.objs.size):=hz8;have up:∀ c o,c≠z->g5.get? c=some o->g8.get? c=some o:=λc o c1 e=>s8.extBut _ _ c1 (s7.extBut _ _ c1 (aaf _ e));have hT8:g8.get? g5.objs.size=some (eg xs.toArray):=s8.extBut _ _ (abU zlt) (s7.extBut _ _ (abU zlt) (aat _ rfl));rw[z5] at hz8 hT8;refine aaj ?_;show Q (.done (.ret (.ref g5.objs.size))) _;rw[z5];refine q1 xs V7 WL g8 hz8 (up _ _ D.TOz hO5) (λi p hp=>(TH i p hp ?_).to λo e=>up _ o (D.el p (aak hp)).1 e) hT8 λc o c1 c2 c3 e=>up c o c1 (k5 c o c1 c2 (λj q hq _=>c3 q (aak hq)) e)
   have:=(List.getElem?_eq_some_iff.mp hp).1
   simpa using this
variable {α : Type}
theorem AZ {M:Model}{A:Around}{E:Value->Shared->Prop}{f : α->β->Sem (ForInStep β)}{Q : β->Shared->Prop}(I:Nat->β->Shared->Prop):∀ (l:List α) (j:Nat) (b : β) (s:Shared),I j b s ->
   (∀ (i:Nat) v b s,l[i]? = some v->I (j+i) b s->wpAny M A (f v b) (λr s'=>∃ b',r=.yield b'/\I (j+i+1) b' s') E s)->(∀ b s,I (j+l.length) b s->Q b s)->wpAny M A (forIn l b f) Q E s
 | [],j,b,s,h,_,q=>by simp only[List.forIn_nil];exact aaj (q b s h)
 | v :: l, j, b, s, h, st, q => by
   simp only[List.forIn_cons];refine aad (aaI (st 0 v b s rfl h) (λr s' e=>?_) (λ_ _ x=>x));obtain⟨b',rfl,h'⟩:=e;refine AZ I l (j+1) b' s' h' (λi v b s e hi=>?_) λb s h=>q b s (by rw[aaH,Nat.add_comm l.length,<- Nat.add_assoc];exact h);have e1:j+1+i=j+(i+1):=by omega
   rw[e1] at hi ⊢;exact st (i+1) v b s e hi
def dq (n:Nat)(ts:List (Bool×Addr)):List Src:=ts.zipIdx.map λp=>(p.1.1,p.1.2,n+p.2)
variable {ts:List (Bool×Addr)} {n:Nat}
theorem qH {i:Nat}{q:Src}:(dq n ts)[i]? = some q ↔ ∃ p,ts[i]? = some p/\q=(p.1,p.2,n+i):=by
 simp only[dq,aah,List.getElem?_zipIdx,Option.map_map,abN,ado];exact⟨λzq=>nO zq λp a b=>⟨p,a,b.symm⟩,λzq=>nO zq λp a b=>⟨p,a,b.symm⟩⟩
theorem ia:(dq n ts).length=ts.length:=by simp[dq]
theorem zI:(dq n ts).map (·.2.2)=List.range' n ts.length:=by
 apply List.ext_getElem?;intro i;rw[aah];by_cases h:i<ts.length
 . rw[qH.mpr ⟨ts[i],aaa h,rfl⟩,List.getElem?_range' h]
   simp
 . rw[abS (by rw[ia]; omega), abS (by rw[List.length_range']; omega)];rfl
theorem QE {Q:List Value->Shared->Prop}(h:∀ p∈ts,∃ X,ib s.heap (p.1,p.2,0) X)
   (q:∀ h',h'.objs.size=s.heap.objs.size+ts.length->(∀ c o,s.heap.get? c=some o->h'.get? c=some o)->(∀ (i:Nat) p,(dq s.heap.objs.size ts)[i]? = some p->er h' p 0)->Q ((dq s.heap.objs.size ts).map λp=>.ref p.2.2) { s with heap:=h' }) :
   wpAny (model prog w) A (Builtin.SmallTypes.iterAll (ts.map λp=>.ref p.2)) Q E s:=by
 unfold Builtin.SmallTypes.iterAll
 refine aad (AZ (λj b s'=>∃ g,s'={ s with heap:=g }/\b.toList=(List.range' s.heap.objs.size j).map .ref/\g.objs.size=s.heap.objs.size+j/\(∀ c o,s.heap.get? c=some o->g.get? c=some o)/\∀ (i:Nat) p,(dq s.heap.objs.size ts)[i]? = some p->i<j->er g p 0) _ 0 _ _
   ⟨s.heap,rfl,rfl,rfl,λ_ _ e=>e,λi p _ e=>absurd e (acf _)⟩ (λi v b s' hv hI=>?_) λb s' hI=>?_)
 . rw[ado] at hI ⊢;obtain⟨g,rfl,hb,hz,hk,TH⟩:=hI;obtain⟨p,hp,rfl⟩:∃ p,ts[i]? = some p/\v=Td p.2:=by
     rw[aah,abN] at hv;obtain⟨p,e,e2⟩:=hv;exact⟨p,e,e2.symm⟩
   obtain⟨X,hX⟩:=h p (aak hp);have hX':=hX.to λo e=>hk _ o e;have Ta:∀ o,er (g.push o) (p.1,p.2,g.objs.size) 0->∃ b',(acy (b.push (Td g.objs.size)):ForInStep (Array Value))=.yield b'/\∃ g',({ s with heap:=g.push o }:Shared)={ s with heap:=g' }/\b'.toList=(List.range' s.heap.objs.size (i+1)).map .ref/\g'.objs.size=s.heap.objs.size+(i+1)/\(∀ c o,s.heap.get? c=some o->g'.get? c=some o)/\∀ (j:Nat) q,(dq s.heap.objs.size ts)[j]? = some q->j<i+1->er g' q 0:=λo ho=>by
     refine⟨_,rfl,_,rfl,?_,by rw[abP,hz];omega,λc o e=>aaf _ (hk c o e),λj q hq hj=>?_⟩
     . rw[Array.toList_push,hb,List.range'_concat,aaE,hz];simp
     . by_cases e:j=i
       . subst e;obtain⟨p',e1,rfl⟩:=qH.mp hq;rw[hp] at e1;cases e1
         rw[<- hz];exact ho
       . exact(TH j q hq (by omega)).to λo e=>aaf _ e
   obtain⟨bb,t⟩:=p;cases bb
   . exact aad (aba (wpAny_pyIter_tuple hX' (aaj (Ta _ ⟨_,aat _ rfl,rfl,rfl⟩))))
   . exact aad (aba (abL hX' (aaj (Ta _ ⟨_,aat _ rfl,rfl,rfl⟩))))
 . obtain⟨g, rfl, hb, hz, hk, TH⟩ := hI;simp only[ado,aac] at hb hz TH;refine aaj ?_;rw[hb,<- zI,abe];exact q g hz hk λi p hp=>TH i p hp (by have:=(List.getElem?_eq_some_iff.mp hp).1;rw[ia] at this;exact this)
abbrev Kq (h':Heap)(S:List Src):Heap:=h'.push (eg (S.map λp=>Td p.2.2).toArray)
abbrev Ky (h':Heap)(S:List Src):Heap:=(Kq h' S).push (eg ((S.map λp=>Td p.2.2).map λ_=>abq).toArray)
abbrev EZ (h':Heap)(S:List Src):Heap:=(Ky h' S).push { cls:=.type "zip",data:=.fields #[.none,.bool false,.bool false,.ref h'.objs.size,.ref (Kq h' S).objs.size] }
theorem HM (ts:List (Bool×Addr)):Meets (Builtin.«zip.__new__» ⟨.type "zip" :: ts.map (λp=>.ref p.2),[]⟩) (λ_ R s=>(∀ p∈ts,∃ X,ib s.heap (p.1,p.2,0) X)/\ts.length<=aal /\
   ∀ h',h'.objs.size=s.heap.objs.size+ts.length->(∀ c o,s.heap.get? c=some o->h'.get? c=some o)->(∀ (i:Nat) p,(dq s.heap.objs.size ts)[i]? = some p->er h' p 0)->R (.ok (.ret (.ref (Ky h' (dq s.heap.objs.size ts)).objs.size))) { s with heap:=EZ h' (dq s.heap.objs.size ts) }) :=
 .of_wp λprog w A R s h=>by
   obtain⟨hp,g,d,tk,os⟩:=s;obtain⟨h1,hs,h⟩:=h;have hsub:=sub_zip;have VU:(dq (Shared.heap ⟨hp,g,d,tk,os⟩).objs.size ts).length<=aal:=by rw[ia];exact hs
   wp_walk using QE h1
   intro h' hz hk TH;refine aad (wpAny_newTuple ?_ (by rw[aac];exact VU));refine aad (wpAny_newTuple ?_ (by rw[aac,aac];exact VU))
   wp_walk
   exact⟨_,rfl,h h' hz hk TH⟩
theorem Iw (h:∀ p∈ts,∃ X,ib s.heap (p.1,p.2,0) X)(hs:ts.length<=aal)(c1:checkTypeCall "zip" ⟨ts.map (λp=>.ref p.2),[]⟩=pure ())(c2:checkBuiltinCall "zip.__new__" ⟨.type "zip" :: ts.map (λp=>.ref p.2),[]⟩=pure ())
   (c3:∀ obj,argsOk "object.__init__" ⟨obj::ts.map (λp=>.ref p.2),[]⟩)
   (q:∀ h' m,m=s.heap.objs.size+ts.length->IsZip h' (m+2) m (m+1) .none->h'.get? m=some (eg ((dq s.heap.objs.size ts).map λp=>Td p.2.2).toArray)->(∃ as:Array Value,as.size=ts.length/\h'.get? (m+1)=some (eg as))->(∀ (i:Nat) p,(dq s.heap.objs.size ts)[i]? = some p->er h' p 0) ->
     (∀ c o,s.heap.get? c=some o->h'.get? c=some o)->Q (.ref (m+2)) { s with heap:=h' }):wpAny (model prog w) A (call (.type "zip") (ts.map λp=>.ref p.2)) Q E s:=by
 refine callType_new F.called_zip (by decide) c1 c2 c3 F.entry_zip_new (HM ts) ⟨h,hs,λh' hz hk TH=>?_⟩;have z1:(Kq h' (dq s.heap.objs.size ts)).objs.size=h'.objs.size+1:=abP ..;have z2:(Ky h' (dq s.heap.objs.size ts)).objs.size=h'.objs.size+2:=by rw[abP,z1]
 have e3:(EZ h' (dq s.heap.objs.size ts)).get? (Ky h' (dq s.heap.objs.size ts)).objs.size=some _:=aat _ rfl;have e2:(EZ h' (dq s.heap.objs.size ts)).get? (Kq h' (dq s.heap.objs.size ts)).objs.size=some _:=aaf _ (aat _ rfl);have up:∀ c o,h'.get? c=some o->(EZ h' (dq s.heap.objs.size ts)).get? c=some o:=λc o e=>aaf _ (aaf _ (aaf _ e));have e1:(EZ h' (dq s.heap.objs.size ts)).get? h'.objs.size=some _:=aaf _ (aaf _ (aat _ rfl));rw[z1,z2] at e3;rw[z1] at e2;show _/\_;rw[z2];exact⟨⟨_,e3,rfl⟩,q _ _ hz e3 e1 ⟨_,by simp[ia],e2⟩ (λi p hp=>(TH i p hp).to λo e=>up _ _ e) λc o x=>up c o (hk c o x)⟩
theorem Av {z TI TO:Addr}{S:List Src}{Xs:List (Array Value)}{as:Array Value}{k:Nat}{Q:Option Value->Shared->Prop}(D:My z TI TO S)(hz:IsZip s.heap z TI TO .none)(hTI:s.heap.get? TI=some (eg (S.map λp=>Td p.2.2).toArray))(hTO:s.heap.get? TO=some (eg as))(hl:as.size=S.length)(hS:S≠[])(hX:Xs.length=S.length)(hs:S.length<=aal)
   (h:∀ (i:Nat) p X,S[i]? = some p->Xs[i]? = some X->er s.heap p k/\ib s.heap p X)
   (q1:∀ xs:List Value,xs.length=S.length->(∀ (i:Nat) X x,Xs[i]? = some X->xs[i]? = some x->X[k]? = some x)->∀ h',IsZip h' z TI TO (rawInt s.heap.objs.size)->h'.get? TO=some (eg xs.toArray)->(∀ (i:Nat) p,S[i]? = some p->er h' p (k+1))->h'.get? s.heap.objs.size=some (eg xs.toArray) ->
     (∀ c o,c≠z->c≠TO->(∀ p∈S,c≠p.2.2)->s.heap.get? c=some o->h'.get? c=some o)->Q (some (.ref s.heap.objs.size)) { s with heap:=h' })
   (q2:∀ (i:Nat) X,Xs[i]? = some X->X[k]? = none->A.handled=none/\∀ h',(∀ c o,c≠z->c≠TO->(∀ p∈S,c≠p.2.2)->s.heap.get? c=some o->h'.get? c=some o)->Q none { s with heap:=h' }) :
   wpAny (model prog w) A (pyNext (.ref z)) Q E s:=by
 have hT:s.TypeIs (.ref z) "zip":=⟨_,hz,rfl⟩;unfold pyNext;refine aad (wpAny_attempt (acu (name:=aae "__next__") hT F.slot_zip_next (acK F.slot_zip_next hT F.entry_zip_next ?_ (F.args_zip_next_1 _))));refine RK D hz hTI hTO hl hS hX hs h (λxs y1 y2 h' a1 a2 a3 a4 a5=>⟨_,rfl,aaj (q1 xs y1 y2 h' a1 a2 a3 a4 a5)⟩) λi X e1 he=>⟨(q2 i X e1 he).1,λh' e kk ho=>?_⟩;obtain⟨o,ho,hc⟩:=ho;exact aad (wpAny_isInstance (T:="StopIteration") (b:=true) ⟨o,ho,hc⟩ isSubtype_stop (aaj ((q2 i X e1 he).2 _ kk)))
end
def vO (K:W.Frag)(H:Hp)(p:Bool×Addr)(xs:List V):Prop:=match p with | (true,a)=>ar K H a xs | (false,a)=>aI K H a xs
variable {n:Nat}
theorem uU (I:Inv X gV Z H s)(h:vO X.K H p xs):∃ its,aM xs its/\ib s.heap (p.1,p.2,n) its.toArray/\p.2<s.heap.objs.size:=by
 obtain⟨b,a⟩:=p;cases b
 . obtain⟨its, rv, p1, _⟩ := I.tuple h;exact⟨its,rv,p1,p1.lt⟩
 . obtain⟨its, rv, p1, _⟩ := I.list h;exact⟨its,rv,p1.isList,p1.lt⟩
theorem C1 (I:Inv X gV Z H s)(h:vO X.K H p xs)(h':vO X.K H p ys):xs=ys:=by
 obtain⟨b,a⟩:=p;cases b
 . exact I.yg h h'
 . exact I.tV h h'
theorem er.obj {h:Heap}{p:Src}{k:Nat}(q:er h p k):∃ o,h.get? p.2.2=some o/\∀ v,o.data≠.cell v:=by
 obtain⟨b,t,i⟩:=p;cases b
 . obtain⟨o, e, _, d⟩ := q;exact⟨o,e,λv e=>by rw[d] at e;cases e⟩
 . obtain⟨o, e, _, d⟩ := q;exact⟨o,e,λv e=>by rw[d] at e;cases e⟩
variable {α : Type}
theorem wy {p:Nat->α->Prop}:∀ n,(∀ j,j<n->∃ x,p j x)->∃ xs:List α,xs.length=n/\∀ (j:Nat) x,xs[j]? = some x->p j x
 | 0,_=>⟨[],rfl,λj x e=>by simp at e⟩
 | n + 1, h => by
   obtain⟨xs,hl,hx⟩:=wy n λj hj=>h j (acs hj);obtain⟨x,hp⟩:=h n (acE n);refine⟨xs++[x],by simp[hl],λj y e=>?_⟩;by_cases hj:j<n
   . rw[aas (by omega)] at e;exact hx j y e
   . have hj2 := (List.getElem?_eq_some_iff.mp e).1;simp at hj2;obtain rfl:j=n:=by omega
     rw[aaq (by omega),hl,Nat.sub_self] at e;cases e
     exact hp
def Kc (K:W.Frag)(ts:List (Bool×Addr)):It :=
 ⟨λi H=>∃ vs:List V,vs.length=ts.length/\∀ (j:Nat) p v,ts[j]? = some p->vs[j]? = some v->∃ xs,vO K H p xs/\xs[i]? = some v,
  λi H v H'=>∃ T vs,v=.ref T/\H T=none/\H'=upd H T (.tup vs)/\vs.length=ts.length/\∀ (j:Nat) p v xs,ts[j]? = some p->vs[j]? = some v->vO K H p xs->xs[i]? = some v,
  λi H=>(∀ p∈ts,∃ xs,vO K H p xs)/\∃ p∈ts,∃ xs,vO K H p xs/\xs.length<=i⟩
theorem aM.of (hl:us.length=vs.length)(h:∀ (j:Nat) v u,vs[j]? = some v->us[j]? = some u->RelV v u):aM vs us:=by
 induction vs generalizing us with
 | nil=>cases us with
   | nil=>exact .nil
   | cons _ _=>cases hl
 | cons v vs ih=>cases us with
   | nil=>cases hl
   | cons u us=>exact .cons (h 0 v u rfl rfl) (ih (by simpa using hl) λj a b e1 e2=>h (j+1) a b e1 e2)
variable {ts:List (Bool×Addr)}
set_option maxHeartbeats 4000000 in
theorem Qn {P:Program}{w:World}{K:W.Frag}{es:List Expr}{n:Nat}{pos:Pos}{z TI TO:Addr}{S:List Src}(D:My z TI TO S)(hS:∀ (j:Nat) q,S[j]? = some q->ts[j]? = some (q.1,q.2.1))(hl:S.length=ts.length)(ne:ts≠[])(hs:ts.length<=aal) :
   Turn P w K (.Tuple es n pos) (Kc K ts) (z::TI::TO::S.map (·.2.2)) z (λi h=>IsZip h z TI TO .none/\h.get? TI=some (eg (S.map λp=>Td p.2.2).toArray)/\(∃ as:Array Value,as.size=S.length/\h.get? TO=some (eg as))/\∀ (j:Nat) p,S[j]? = some p->er h p i):=by
 have nS:S≠[]:=λe=>ne (List.length_eq_zero_iff.mp (by rw[<- hl,e];rfl));have mm:∀ {c:Addr},c∈z::TI::TO::S.map (·.2.2)->c=z∨c=TI∨c=TO∨∃ (j:Nat) (p:Src),S[j]? = some p/\c=p.2.2:=λ{c} hc=>by
   simp only[aaQ,List.mem_map] at hc;rcases hc with e | e | e | ⟨p,hp,e⟩
   . exact .inl e
   . exact .inr (.inl e)
   . exact .inr (.inr (.inl e))
   . obtain⟨j, hj⟩ := List.mem_iff_getElem?.mp hp;exact .inr (.inr (.inr ⟨j,p,hj,e.symm⟩))
 have mi:∀ {j:Nat} {p:Src},S[j]? = some p->p.2.2∈z::TI::TO::S.map (·.2.2):=λ{j p} hp=>by
   simp only[aaQ,List.mem_map];exact .inr (.inr (.inr ⟨p,aak hp,rfl⟩))
 have mn:∀ {c:Addr},c ∉ z::TI::TO::S.map (·.2.2)->c≠z/\c≠TO/\∀ p∈S,c≠p.2.2:=λ{c} hc=>by
   simp only[aaQ,List.mem_map,not_or,not_exists,not_and] at hc;exact⟨hc.1,hc.2.2.1,λp hp e=>hc.2.2.2 p hp e.symm⟩
 refine⟨by simp,λi h st c hc=>?_,λi h h' st k=>?_,?_,?_,λ_ _ _ _ _ st h=>wpAny_pyIter_zip st.1 h⟩
 . obtain⟨hz, hI, ⟨as, _, hO⟩, TH⟩ := st;rcases mm hc with rfl | rfl | rfl | ⟨j,p,hp,rfl⟩
   . exact⟨_,hz,λv e=>by cases e⟩
   . exact⟨_,hI,λv e=>by cases e⟩
   . exact⟨_,hO,λv e=>by cases e⟩
   . exact(TH j p hp).obj
 . obtain⟨hz, hI, ⟨as, hl, hO⟩, TH⟩ := st;exact⟨k z (by simp) _ hz,k TI (by simp) _ hI,⟨as,hl,k TO (by simp) _ hO⟩,λj p hp=>(TH j p hp).to λo e=>k _ (mi hp) o e⟩
 . intro X hP hw hK hc i gV s Z H E I hf st hg;subst hP hw hK;obtain⟨hz,hI,⟨as,hal,hO⟩,TH⟩:=st;obtain⟨vs,hvl,hv⟩:=hg;obtain⟨Ys,hYl,hY⟩:=wy (p:=λj (Y:Array Value×Value)=>∀ p v,S[j]? = some p->vs[j]? = some v->ib s.heap p Y.1/\Y.1[i]? = some Y.2/\RelV v Y.2) S.length λj hj=>by
     obtain⟨xs,hx,hxi⟩:=hv j _ _ (hS j _ (aaa hj)) (aaa (by omega));obtain⟨its,rv,p1,_⟩:=uU (n:=S[j].2.2) I hx;obtain⟨u,hu,ru⟩:=rv.get hxi;refine⟨(its.toArray,u),λp v e1 e2=>?_⟩;rw[aaa hj] at e1;rw[aaa (by omega)] at e2;cases e1
     cases e2
     exact⟨p1,by simpa using hu,ru⟩
   have CV:∀ (j:Nat) p Y,S[j]? = some p->Ys[j]? = some Y->∃ v,vs[j]? = some v/\ib s.heap p Y.1/\Y.1[i]? = some Y.2/\RelV v Y.2:=λj p Y hp hy=>by
     have hj:=(List.getElem?_eq_some_iff.mp hp).1;exact⟨vs[j],aaa (by omega),hY j Y hy p _ hp (aaa (by omega))⟩
   refine Av (k:=i) (Xs:=Ys.map (·.1)) D hz hI hO hal nS (by rw[aac,hYl]) (by omega) (λj p X hp hX=>?_) (λxs V7 WL h' z1 z2 z3 z5 kk=>?_) λj X hX he=>?_
   . rw[aah,abN] at hX;obtain⟨Y,hy,rfl⟩:=hX;obtain⟨v,_,a,_⟩:=CV j p Y hp hy;exact⟨TH j p hp,a⟩
   . have TM : aM vs xs := aM.of (by omega) λj v u e1 e2 => by
       have hj:=(List.getElem?_eq_some_iff.mp e1).1;obtain⟨v',W5,_,b,c⟩:=CV j S[j] Ys[j] (aaa (by omega)) (aaa (by omega));rw[e1] at W5;cases W5
       have:=WL j Ys[j].1 u (by rw[aah,aaa (by omega)];rfl) e2
       rw[b] at this;cases this
       exact c
     refine⟨_,rfl,wpAny_letOwnedTupleGo_zip z1 λh2' hz2 s2=>?_⟩;have T0:H s.heap.objs.size=none:=I.az.fresh (aag _);have tz:s.heap.objs.size≠z:=abU (aam hz);have hI2:=s2.extBut _ _ D.TIz (kk _ _ D.TIz D.TITO (λp hp=>(D.el p hp).2.2.1) hI);have hO2:=s2.extBut _ _ D.TOz z2;have hit2:∀ (j:Nat) p,S[j]? = some p->er h2' p (i+1):=λj p hp=>(z3 j p hp).to λo e=>s2.extBut _ _ (D.el p (aak hp)).1 e;have J:Inv X gV Z (upd H s.heap.objs.size (.tup vs)) { s with heap:=h2' }:=by
       refine xB (ch:=z::TI::TO::S.map (·.2.2)) I hf (aag _) (λc o hc e=>?_) (λc hc=>?_) ⟨by omega,xs,TM,⟨_,s2.extBut _ _ tz z5,rfl,_,rfl⟩⟩
       . obtain⟨c1, c2, c3⟩ := mn hc;exact s2.extBut _ _ c1 (kk c o c1 c2 c3 e)
       . rcases mm hc with rfl | rfl | rfl | ⟨j,p,hp,rfl⟩
         . exact⟨_,hz2⟩
         . exact⟨_,hI2⟩
         . exact⟨_,hO2⟩
         . obtain⟨o, e, _⟩ := (hit2 j p hp).obj;exact⟨o,e⟩
     refine⟨.ref s.heap.objs.size,_,J,rfl,⟨_,vs,rfl,T0,rfl,hvl,λj p v ys e1 e2 e3=>?_⟩,⟨hz2,hI2,⟨_,by simpa using V7,hO2⟩,hit2⟩,λc hc=>?_⟩
     . obtain⟨ys', q1, q2⟩ := hv j p v e1 e2;rw[C1 I e3 q1];exact q2
     . have S9 : c < s.heap.objs.size := by
         rcases mm hc with rfl | rfl | rfl | ⟨j,p,hp,rfl⟩
         . exact aam hz
         . exact aam hI
         . exact aam hO
         . obtain⟨o, e, _⟩ := (TH j p hp).obj;exact aam e
       rw[ak (aaw S9)];exact(hf c hc).1
   . exfalso
     rw[aah,abN] at hX;obtain⟨Y,hy,rfl⟩:=hX;have hj:=(List.getElem?_eq_some_iff.mp hy).1;obtain⟨v,_,_,b,_⟩:=CV j S[j] Y (aaa (by omega)) hy;rw[b] at he;cases he
 . intro X hP hw hK hc i gV s Z H E I hf st hg;subst hP hw hK;obtain⟨hz,hI,⟨as,hal,hO⟩,TH⟩:=st;obtain⟨hall,p0,Tw,xs0,hq0,hl0⟩:=hg;obtain⟨Ys,hYl,hY⟩:=wy (p:=λj (Y:Array Value)=>∀ p,S[j]? = some p->ib s.heap p Y/\(∀ xs,vO X.K H (p.1,p.2.1) xs->Y.size=xs.length)) S.length λj hj=>by
     obtain⟨xs,hx⟩:=hall _ (aak (hS j _ (aaa hj)));obtain⟨its,rv,p1,_⟩:=uU (n:=S[j].2.2) I hx;refine⟨its.toArray,λp e1=>?_⟩;rw[aaa hj] at e1;cases e1
     exact⟨p1,λys hy=>by rw[C1 I hy hx];simpa using rv.length.symm⟩
   refine Av (k:=i) (Xs:=Ys) D hz hI hO hal nS hYl (by omega) (λj p X hp hX=>⟨TH j p hp,(hY j X hX p hp).1⟩) (λxs V7 WL h' z1 z2 z3 z5 kk=>?_) λj X hX he=>⟨I.ok.hd hc,λh' kk=>⟨rfl,?_⟩⟩
   . exfalso
     obtain⟨j,hj⟩:=List.mem_iff_getElem?.mp Tw;have hj':=(List.getElem?_eq_some_iff.mp hj).1;have e1:=hS j _ (aaa (show j<S.length by omega));rw[hj] at e1;cases e1
     have e2:=(hY j _ (aaa (show j<Ys.length by omega)) _ (aaa (by omega))).2 _ hq0;have e3:=WL j _ _ (aaa (show j<Ys.length by omega)) (aaa (show j<xs.length by omega))
     have:=(Array.getElem?_eq_some_iff.mp e3).1
     omega
   . have hnc : ∀ c o, c ∉ z :: TI :: TO :: S.map (·.2.2) -> s.heap.get? c = some o -> h'.get? c = some o := λc o hc e => kk c o (mn hc).1 (mn hc).2.1 (mn hc).2.2 e;refine I.vc (s':={ s with heap:=h' }) (ch:=z::TI::TO::S.map (·.2.2)) rfl ⟨λb o e _ _ hc=>hnc b o hc e,λb o e _ _ hc=>⟨o.slots,hnc b o hc e⟩,λb o e n _=>n,λb o e hc=>⟨o,hnc b o hc e⟩,λ_ _ e=>e,λ_ _ _ e=>e,λb ps e=>⟨#[],by rw [e];simp⟩⟩ (λb u e=>?_) I.bare ?_
     . have nc : ∀ b u, H b = some u -> b ∉ z :: TI :: TO :: S.map (·.2.2) := λb u e hb => by rw [(hf b hb).1] at e; cases e
       refine(I.az b u e).iR (λc v hc q=>hnc c v ?_ q) (λ_ q=>q) λ_ _ q=>q;rcases hc with q | q
       . rw[q];exact nc b u e
       . exact nc c _ q
     . intro b hb;obtain⟨f0,f1,f2,f3,f4,f5⟩:=hf b hb;exact⟨f3,f1,f4,f5⟩
theorem Fj {P:Program}{w:World}{K:W.Frag}{tg:Expr}{J J':It}{fp:List Addr}{it:Addr}{tn:Nat->Heap->Prop}(T:Turn P w K tg J fp it tn)(h1:∀ i H,J'.go i H->J.go i H)(h2:∀ i H v H',J.sq i H v H'->J'.sq i H v H')(h3:∀ i H,J'.stop i H->J.stop i H):Turn P w K tg J' fp it tn :=
 ⟨T.mem,T.obj,T.keep,λX a b c d i gV s Z H E I hf st hg=>aS (T.item X a b c d i gV s Z H E I hf st (h1 i H hg)) λr s1 zq=>nO zq λu e q=>⟨u,e,aS q λ_ s2 ⟨x,H',I',rv,y,r⟩=>⟨x,H',I',rv,h2 _ _ _ _ y,r⟩⟩,λX a b c d i gV s Z H E I hf st hg=>T.done X a b c d i gV s Z H E I hf st (h3 i H hg),T.self⟩
theorem xp:∀ {ts:List (Bool×Addr)} {us:List Value},aM (ts.map λp=>V.ref p.2) us->us=ts.map λp=>.ref p.2
 | [],_,h=>by cases h;rfl
 | a :: ts, _, h => by
   cases h with
   | cons r rr =>
     cases r
     rw[xp rr];rfl
variable {pos:Pos}
theorem qS {es:List Expr}{n:Nat}{TV:Pos}{m:Expr}{ms:List Expr}{W:List V->Hp->(It->Hp->Prop)->Prop}{p:Pos}(hg:Gl X "zip")(hm:X.mg "zip" = none)(ha:PA X (m::ms) ta)(hs:aai (m::ms) X.env=(false,eval m X.env)::aai ms X.env)(S6:(backTo pos (aai ms X.env)).any (·.1)=false)
   (hw:∀ vs H1 R,W vs H1 R->∃ (ts:List (Bool×Addr)) (J:It),vs=ts.map (λp=>V.ref p.2)/\ts≠[]/\ts.length<=aal/\(∀ p∈ts,∃ xs,vO X.K H1 p xs)/\checkTypeCall "zip" ⟨ts.map (λp=>.ref p.2),[]⟩=pure ()/\checkBuiltinCall "zip.__new__" ⟨.type "zip" :: ts.map (λp=>.ref p.2),[]⟩=pure ()/\(∀ obj,argsOk "object.__init__" ⟨obj::ts.map (λp=>.ref p.2),[]⟩) /\
     (∀ i H,J.go i H->(Kc X.K ts).go i H)/\(∀ i H v H',(Kc X.K ts).sq i H v H'->J.sq i H v H')/\(∀ i H,J.stop i H->(Kc X.K ts).stop i H)/\R J H1) :
   PI X (.Tuple es n TV) (.Call (.Name "zip" p) (m::ms) [] pos) (λZ H R=>ta Z H λvs H1=>W vs H1 R):=by
 intro gV s Z H R I h;refine Call_ (iM I hg hm P2 (aa9 (aS (ha pos gV s Z H _ I h) λus s1 zq=>bQ zq λvs H1 I1 r1 q1=>?_) hs S6));obtain⟨ts,J,rfl,ne,hl,hsq,c1,c2,c3,j1,j2,j3,q⟩:=hw _ _ _ q1;obtain rfl:=xp r1;have lt:∀ p∈ts,p.2<s1.heap.objs.size:=λp hp=>by
   obtain⟨xs,hx⟩:=hsq p hp;obtain⟨_,_,_,e⟩:=uU (n:=0) I1 hx;exact e
 refine Iw (λp hp=>?_) hl c1 c2 c3 λh' m hm' z1 z2 z3 z4 kk=>?_
 . obtain⟨xs, hx⟩ := hsq p hp;obtain⟨_,_,e,_⟩:=uU (n:=0) I1 hx;exact⟨_,e⟩
 . have el : ∀ q ∈ dq s1.heap.objs.size ts, @LT.lt Nat _ q.2.1 s1.heap.objs.size /\ @LE.le Nat _ s1.heap.objs.size q.2.2 /\ @LT.lt Nat _ q.2.2 m := λq hq => by
     obtain⟨j,hj⟩:=List.mem_iff_getElem?.mp hq;obtain⟨p,e,rfl⟩:=qH.mp hj
     have:=(List.getElem?_eq_some_iff.mp e).1
     exact⟨lt p (aak e),ab8 _ _,by show s1.heap.objs.size+j<m;omega⟩
   have T := Qn (P := X.prog) (w := X.w) (K := X.K) (es := es) (n := n) (pos := TV) (z := m + 2) (TI := m) (TO := m + 1) (S := dq s1.heap.objs.size ts) (ts := ts)
     ⟨aaw (by omega),aaw (by omega),aaw (by omega),λq hq=>?_,by rw[zI];exact List.nodup_range'⟩ (λj q hj=>?_) ia ne hl
   . refine wpAny_pyIter_zip z1 ⟨_,_,_,J,H1,rfl,I1.kept (t':=s1.toks) kk,Fj T j1 j2 j3,⟨z1,z2,?_,z4⟩,λc hc=>?_,q⟩
     . obtain⟨as, e1, e2⟩ := z3;exact⟨as,by rw[ia];exact e1,e2⟩
     . have hge : s1.heap.objs.size <= c := by
         simp only[aaQ,List.mem_map] at hc;rcases hc with e | e | e | ⟨q,hq,e⟩
         . rw[e];exact aaL (ab8 _ _) (aaL (acw hm'.symm) (ab8 _ _))
         . rw[e];exact aaL (ab8 _ _) (acw hm'.symm)
         . rw[e];exact aaL (ab8 _ _) (aaL (acw hm'.symm) (ab8 _ _))
         . rw[<- e];exact(el q hq).2.1
       exact I1.tR hge (I1.az.fresh hge)
   . obtain⟨a, b, c⟩ := el q hq;exact⟨aaw (by omega),aaw (by omega),abU (by omega),aaw (by omega),aaw (by omega),λq' hq'=>aaw (aaC a (el q' hq').2.1)⟩
   . obtain⟨p, e, rfl⟩ := qH.mp hj;exact e
theorem Sv (y a b c:Value):argsOk "object.__init__" ⟨[y,a,b,c],[]⟩:=by unfold argsOk;rw[signature?_of (id:="object.__init__") (n:=['_','_','t','i','n','i','_','_']) (o:=['t','c','e','j','b','o']) (by kernel_rfl) PySem.F.owner_object];kernel_rfl
theorem Sj (y a b c d e:Value):argsOk "object.__init__" ⟨[y,a,b,c,d,e],[]⟩:=by unfold argsOk;rw[signature?_of (id:="object.__init__") (n:=['_','_','t','i','n','i','_','_']) (o:=['t','c','e','j','b','o']) (by kernel_rfl) PySem.F.owner_object];kernel_rfl
theorem mW {P : α->β->Prop}{T:List β}(j:Nat)(p : α)(v : β)(h:([]:List α)[j]? = some p)(_:T[j]? = some v):P p v:=by cases h
theorem c6 {P : α->β->Prop}{a : α}{x : β}{S:List α}{T:List β}(h0:P a x)(h:∀ (j:Nat) p v,S[j]? = some p->T[j]? = some v->P p v):∀ (j:Nat) p v,(a::S)[j]? = some p->(x::T)[j]? = some v->P p v
 | 0,_,_,h1,h2=>by rw[<- aax h1,<- aax h2];exact h0
 | j+1,p,v,h1,h2=>h j p v h1 h2
variable {vs:List α}
theorem GB (h:vs.length=n+1):∃ a r,vs=a::r/\r.length=n:=by
 cases vs with
 | nil=>cases h
 | cons a r=>exact⟨a,r,rfl,adI h⟩
theorem Sb (h:vs.length=0):vs=[]:=List.eq_nil_of_length_eq_zero h
theorem Po (h:vs.length=2):∃ a b,vs=[a,b]:=by
 obtain⟨a,r,rfl,h1⟩:=GB h;obtain⟨b,t,rfl,h2⟩:=GB h1;exact⟨a,b,by rw[Sb h2]⟩
theorem Q3 (h:vs.length=3):∃ a b c,vs=[a,b,c]:=by
 obtain⟨a,r,rfl,h1⟩:=GB h;obtain⟨b,c,rfl⟩:=Po h1;exact⟨a,b,c,rfl⟩
theorem Sq (h:vs.length=5):∃ a b c d e,vs=[a,b,c,d,e]:=by
 obtain⟨a,r,rfl,h1⟩:=GB h;obtain⟨b,t,rfl,h2⟩:=GB h1;obtain⟨c,d,e,rfl⟩:=Q3 h2;exact⟨a,b,c,d,e,rfl⟩
variable {m0 m1:Expr}
theorem O1 {K:W.Frag}{es:List Expr}{n:Nat}{TV:Pos}{p pos:Pos}(hK:X.K=K)(hg:Gl X "zip")(hm:X.mg "zip" = none)(ha:PA X [m0,m1] ta)(hs:aai [m0,m1] X.env=(false,eval m0 X.env)::aai [m1] X.env:=by rfl)(S6:(backTo pos (aai [m1] X.env)).any (·.1)=false:=by rfl):PI X (.Tuple es n TV) (.Call (.Name "zip" p) [m0,m1] [] pos) (O4 K ta):=by
 subst hK;refine qS (W:=λvs H1 R=>∃ a b X0 X1,vs=[.ref a,.ref b]/\aI X.K H1 a X0/\aI X.K H1 b X1/\R (KD X.K a b) H1) hg hm ha hs S6 λvs H1 R h=>?_;obtain⟨a,b,X0,X1,rfl,h0,h1,q⟩:=h;refine⟨[(false,a),(false,b)],_,rfl,ac_ _ _,by show 2<=aal;decide,λp hp=>?_,by kernel_rfl,by kernel_rfl,λy=>F.args_object_init_3 y _ _,λi H h=>?_,λi H v H' h=>?_,λi H h=>?_,q⟩
 . simp only[aaQ,aaS,or_false] at hp;rcases hp with rfl | rfl
   . exact⟨_,h0⟩
   . exact⟨_,h1⟩
 . obtain⟨X0, X1, x0, x1, g0, g1, e0, e1⟩ := h;exact⟨[x0,x1],rfl,c6 ⟨_,g0,e0⟩ (c6 ⟨_,g1,e1⟩ mW)⟩
 . obtain⟨T, vs, e, hT, e', hl, f⟩ := h;obtain⟨x0,x1,rfl⟩:=Po hl;exact⟨T,x0,x1,e,hT,e',λX0 X1 g0 g1=>⟨f 0 _ _ _ rfl rfl g0,f 1 _ _ _ rfl rfl g1⟩⟩
 . obtain ⟨X0, X1, g0, g1, hl⟩ := h;refine ⟨λp hp=>?_,?_⟩
   . simp only[aaQ,aaS,or_false] at hp;rcases hp with rfl | rfl
     . exact⟨_,g0⟩
     . exact⟨_,g1⟩
   . rcases hl with hl | hl
     . exact⟨(false,a),by simp,_,g0,hl⟩
     . exact⟨(false,b),by simp,_,g1,hl⟩
theorem K2 {K:W.Frag}{es:List Expr}{n:Nat}{TV:Pos}{p pos:Pos}(hK:X.K=K)(hg:Gl X "zip")(hm:X.mg "zip" = none)(ha:PA X [m0,m1] ta)(hs:aai [m0,m1] X.env=(false,eval m0 X.env)::aai [m1] X.env:=by rfl)(S6:(backTo pos (aai [m1] X.env)).any (·.1)=false:=by rfl):PI X (.Tuple es n TV) (.Call (.Name "zip" p) [m0,m1] [] pos) (Ku K ta):=by
 subst hK;refine qS (W:=λvs H1 R=>∃ a b X0 X1,vs=[.ref a,.ref b]/\ar X.K H1 a X0/\ar X.K H1 b X1/\R (EK X.K a b) H1) hg hm ha hs S6 λvs H1 R h=>?_;obtain⟨a,b,X0,X1,rfl,h0,h1,q⟩:=h;refine⟨[(true,a),(true,b)],_,rfl,ac_ _ _,by show 2<=aal;decide,λp hp=>?_,by kernel_rfl,by kernel_rfl,λy=>F.args_object_init_3 y _ _,λi H h=>?_,λi H v H' h=>?_,λi H h=>?_,q⟩
 . simp only[aaQ,aaS,or_false] at hp;rcases hp with rfl | rfl
   . exact⟨_,h0⟩
   . exact⟨_,h1⟩
 . obtain⟨X0, X1, x0, x1, g0, g1, e0, e1⟩ := h;exact⟨[x0,x1],rfl,c6 ⟨_,g0,e0⟩ (c6 ⟨_,g1,e1⟩ mW)⟩
 . obtain⟨T, vs, e, hT, e', hl, f⟩ := h;obtain⟨x0,x1,rfl⟩:=Po hl;exact⟨T,x0,x1,e,hT,e',λX0 X1 g0 g1=>⟨f 0 _ _ _ rfl rfl g0,f 1 _ _ _ rfl rfl g1⟩⟩
 . obtain ⟨X0, X1, g0, g1, hl⟩ := h;refine ⟨λp hp=>?_,?_⟩
   . simp only[aaQ,aaS,or_false] at hp;rcases hp with rfl | rfl
     . exact⟨_,g0⟩
     . exact⟨_,g1⟩
   . rcases hl with hl | hl
     . exact⟨(true,a),by simp,_,g0,hl⟩
     . exact⟨(true,b),by simp,_,g1,hl⟩
theorem Pj {K:W.Frag}{es:List Expr}{n:Nat}{TV:Pos}{m2:Expr}{p pos:Pos}(hK:X.K=K)(hg:Gl X "zip")(hm:X.mg "zip" = none)(ha:PA X [m0,m1,m2] ta)(hs:aai [m0,m1,m2] X.env=(false,eval m0 X.env)::aai [m1,m2] X.env:=by rfl)(S6:(backTo pos (aai [m1,m2] X.env)).any (·.1)=false:=by rfl):PI X (.Tuple es n TV) (.Call (.Name "zip" p) [m0,m1,m2] [] pos) (JL K ta):=by
 subst hK;refine qS (W:=λvs H1 R=>∃ a b c X0 X1 X2,vs=[.ref a,.ref b,.ref c]/\aI X.K H1 a X0/\aI X.K H1 b X1/\aI X.K H1 c X2/\R (ES X.K a b c) H1) hg hm ha hs S6 λvs H1 R h=>?_;obtain⟨a,b,c,X0,X1,X2,rfl,h0,h1,h2,q⟩:=h;refine⟨[(false,a),(false,b),(false,c)],_,rfl,ac_ _ _,by show 3<=aal;decide,λp hp=>?_,by kernel_rfl,by kernel_rfl,λy=>Sv y _ _ _,λi H h=>?_,λi H v H' h=>?_,λi H h=>?_,q⟩
 . simp only[aaQ,aaS,or_false] at hp;rcases hp with rfl | rfl | rfl
   . exact⟨_,h0⟩
   . exact⟨_,h1⟩
   . exact⟨_,h2⟩
 . obtain⟨X0, X1, X2, x0, x1, x2, g0, g1, g2, e0, e1, e2⟩ := h;exact⟨[x0,x1,x2],rfl,c6 ⟨_,g0,e0⟩ (c6 ⟨_,g1,e1⟩ (c6 ⟨_,g2,e2⟩ mW))⟩
 . obtain⟨T, vs, e, hT, e', hl, f⟩ := h;obtain⟨x0,x1,x2,rfl⟩:=Q3 hl;exact⟨T,x0,x1,x2,e,hT,e',λX0 X1 X2 g0 g1 g2=>⟨f 0 _ _ _ rfl rfl g0,f 1 _ _ _ rfl rfl g1,f 2 _ _ _ rfl rfl g2⟩⟩
 . obtain ⟨X0, X1, X2, g0, g1, g2, hl⟩ := h;refine ⟨λp hp=>?_,?_⟩
   . simp only[aaQ,aaS,or_false] at hp;rcases hp with rfl | rfl | rfl
     . exact⟨_,g0⟩
     . exact⟨_,g1⟩
     . exact⟨_,g2⟩
   . rcases hl with hl | hl | hl
     . exact⟨(false,a),by simp,_,g0,hl⟩
     . exact⟨(false,b),by simp,_,g1,hl⟩
     . exact⟨(false,c),by simp,_,g2,hl⟩
theorem Nw {K:W.Frag}{es:List Expr}{n:Nat}{TV:Pos}{m2 m3 m4:Expr}{p pos:Pos}(hK:X.K=K)(hg:Gl X "zip")(hm:X.mg "zip" = none)(ha:PA X [m0,m1,m2,m3,m4] ta)(hs:aai [m0,m1,m2,m3,m4] X.env=(false,eval m0 X.env)::aai [m1,m2,m3,m4] X.env:=by rfl)(S6:(backTo pos (aai [m1,m2,m3,m4] X.env)).any (·.1)=false:=by rfl):PI X (.Tuple es n TV) (.Call (.Name "zip" p) [m0,m1,m2,m3,m4] [] pos) (Km K ta):=by
 subst hK;refine qS (W:=λvs H1 R=>∃ a b c d e X0 X1 X2 X3 X4,vs=[.ref a,.ref b,.ref c,.ref d,.ref e]/\ar X.K H1 a X0/\ar X.K H1 b X1/\ar X.K H1 c X2/\ar X.K H1 d X3/\ar X.K H1 e X4/\R (D3 X.K a b c d e) H1) hg hm ha hs S6 λvs H1 R h=>?_;obtain⟨a,b,c,d,e,X0,X1,X2,X3,X4,rfl,h0,h1,h2,h3,h4,q⟩:=h;refine⟨[(true,a),(true,b),(true,c),(true,d),(true,e)],_,rfl,ac_ _ _,by show 5<=aal;decide,λp hp=>?_,by kernel_rfl,by kernel_rfl,λy=>Sj y _ _ _ _ _,λi H h=>?_,λi H v H' h=>?_,λi H h=>?_,q⟩
 . simp only[aaQ,aaS,or_false] at hp;rcases hp with rfl | rfl | rfl | rfl | rfl
   . exact⟨_,h0⟩
   . exact⟨_,h1⟩
   . exact⟨_,h2⟩
   . exact⟨_,h3⟩
   . exact⟨_,h4⟩
 . obtain⟨X0, X1, X2, X3, X4, x0, x1, x2, x3, x4, g0, g1, g2, g3, g4, e0, e1, e2, e3, e4⟩ := h;exact⟨[x0,x1,x2,x3,x4],rfl,c6 ⟨_,g0,e0⟩ (c6 ⟨_,g1,e1⟩ (c6 ⟨_,g2,e2⟩ (c6 ⟨_,g3,e3⟩ (c6 ⟨_,g4,e4⟩ mW))))⟩
 . obtain⟨T, vs, e, hT, e', hl, f⟩ := h;obtain⟨x0,x1,x2,x3,x4,rfl⟩:=Sq hl;exact⟨T,x0,x1,x2,x3,x4,e,hT,e',λX0 X1 X2 X3 X4 g0 g1 g2 g3 g4=>⟨f 0 _ _ _ rfl rfl g0,f 1 _ _ _ rfl rfl g1,f 2 _ _ _ rfl rfl g2,f 3 _ _ _ rfl rfl g3,f 4 _ _ _ rfl rfl g4⟩⟩
 . obtain ⟨X0, X1, X2, X3, X4, g0, g1, g2, g3, g4, hl⟩ := h;refine ⟨λp hp=>?_,?_⟩
   . simp only[aaQ,aaS,or_false] at hp;rcases hp with rfl | rfl | rfl | rfl | rfl
     . exact⟨_,g0⟩
     . exact⟨_,g1⟩
     . exact⟨_,g2⟩
     . exact⟨_,g3⟩
     . exact⟨_,g4⟩
   . rcases hl with hl | hl | hl | hl | hl
     . exact⟨(true,a),by simp,_,g0,hl⟩
     . exact⟨(true,b),by simp,_,g1,hl⟩
     . exact⟨(true,c),by simp,_,g2,hl⟩
     . exact⟨(true,d),by simp,_,g3,hl⟩
     . exact⟨(true,e),by simp,_,g4,hl⟩
end L3
namespace FB
open PySem PySem.Spec PyProof.Rows L2 L3 PySem.SeqAt
local macro_rules | `(tactic| walk_at "clok") => `(tactic| repeat (first | exact aan | refine ⟨rfl, ?_⟩))
local macro_rules | `(tactic| walk_at "frok") => `(tactic| repeat (first | exact aan | refine ⟨⟨rfl, (by first | exact Or.inl rfl | exact Or.inr rfl), (by first | exact Or.inl rfl | exact Or.inr rfl), rfl⟩, ?_⟩))
local macro_rules | `(tactic| walk_at "hlk") => `(tactic| first | (with_reducible assumption) | (exact aa) | ((with_reducible refine' ai ?x ?y); (case y => with_reducible assumption); (case x => walk_at "hlk")) | ((fail_if_success (((with_reducible refine' ai ?x ?y); (case y => with_reducible assumption)))); (with_reducible refine' cu ?x ?y); (case x => walk_at "ne"); (case y => walk_at "hlk")) | ((with_reducible refine' LJ ?x ?y); (case x => with_reducible assumption); (case y => walk_at "hlk")))
local macro_rules | `(tactic| walk_at "ne") => `(tactic| first | (with_reducible assumption) | (apply Ne.symm; (with_reducible assumption)) | ((with_reducible refine' ag ?x ?y); (case y => with_reducible assumption); (case x => walk_at "hlk")) | (apply Ne.symm; (with_reducible refine' ag ?x ?y); (case y => with_reducible assumption); (case x => walk_at "hlk")))
local macro_rules | `(tactic| walk_at "sql") => `(tactic| first | (with_reducible assumption) | (refine' ar.of ?x; (case x => first | (with_reducible assumption) | (exact aa))) | ((with_reducible refine' C5 ?x ?y); (case y => with_reducible assumption); (case x => walk_at "sql")) | ((fail_if_success (((with_reducible refine' C5 ?x ?y); (case y => with_reducible assumption)))); first | ((with_reducible refine' Ml ?s ?h ?q); (case h => with_reducible assumption); (case s => walk_at "same"); (case q => walk_at "sql")) | (refine' ar.of ?x; (case x => (with_reducible refine' cu ?x2 ?y2); (case x2 => walk_at "ne"); (case y2 => walk_at "hlk")))) | ((with_reducible refine' ao.seq ?x ?y); (case x => with_reducible assumption); (case y => walk_at "sql")))
local macro_rules | `(tactic| walk_at "sqt") => `(tactic| first | (with_reducible assumption) | (refine' aI.of ?x; (case x => first | (with_reducible assumption) | (exact aa))) | ((with_reducible refine' C0 ?x ?y); (case y => with_reducible assumption); (case x => walk_at "sqt")) | ((fail_if_success (((with_reducible refine' C0 ?x ?y); (case y => with_reducible assumption)))); first | ((with_reducible refine' sqt_upd ?s ?h ?q); (case h => with_reducible assumption); (case s => walk_at "same"); (case q => walk_at "sqt")) | (refine' aI.of ?x; (case x => (with_reducible refine' cu ?x2 ?y2); (case x2 => walk_at "ne"); (case y2 => walk_at "hlk")))) | ((with_reducible refine' cm ?x ?y); (case x => with_reducible assumption); (case y => walk_at "sqt")))
local macro_rules | `(tactic| walk_at "lk") => `(tactic| first | (with_reducible exact cz) | (refine' aJ ?x ?y; (case x => nofun); (case y => walk_at "lk")) | exact cz)
local macro_rules | `(tactic| walk_at "nolk") => `(tactic| first | (with_reducible rfl) | (refine' g9 ?x ?y; (case x => nofun); (case y => walk_at "nolk")) | rfl)
local macro_rules | `(tactic| walk_at "fewf") => `(tactic| first | exact aaG (aag 0) (by decide) | exact aaG (aL (aag 0)) (by decide) | exact aaG (aL (aL (aag 0))) (by decide) | exact aaG (aL (aL (aL (aag 0)))) (by decide))
local macro_rules | `(tactic| walk_at "small") => `(tactic| first | exact aa3 rfl | (show _ <= aal; rw [aaJ]; first | omega | (simp only [aac, aaH, acI, aab, aaB, aa0, List.length_range]; omega)))
local macro_rules | `(tactic| walk_at "r2") => `(tactic| first
 | ((with_reducible refine' Gf ?h ?c ?n ?l ?_);(case h=>walk_at"hlk");(case c=>walk_at"cls");(case n=>walk_at"noat");(case l=>walk_at"lk"))
 | ((with_reducible refine' LV ?h ?c ?n ?l ?_);(case h=>walk_at"hlk");(case c=>walk_at"cls");(case n=>walk_at"noat");(case l=>walk_at"fewf"))
 | ((with_reducible refine' N1 ?h ?_);(case h=>walk_at"sql"))
 | ((with_reducible refine' dQ ?h ?_);(case h=>walk_at"sql"))
 | ((with_reducible refine' C3 ?h ?_);(case h=>walk_at"sql"))
 | ((with_reducible refine' Mg ?h ?_);(case h=>walk_at"sqt"))
 | ((with_reducible refine' JY ?h ?_);(case h=>rfl))
 | ((with_reducible refine' Kn ?h ?_);(case h=>rfl)))
local macro_rules | `(tactic| walk_at "none") => `(tactic| first | (with_reducible assumption) | ((with_reducible refine' aG ?x ?y); (case y => with_reducible assumption); (case x => walk_at "same")))
local macro_rules | `(tactic| walk_at "same") => `(tactic| first | (with_reducible assumption) | (with_reducible exact ao.refl _) | ((with_reducible refine' same_none ?x ?y); (case y => with_reducible assumption); (case x => walk_at "same")) | ((fail_if_success (((with_reducible refine' same_none ?x ?y); (case y => with_reducible assumption)))); (with_reducible refine' bC ?x ?y); (case y => walk_at "none"); (case x => walk_at "same")) | ((with_reducible refine' ao.trans ?x ?y); (case y => with_reducible assumption); (case x => walk_at "same")))
local macro_rules | `(tactic| walk_at "tt") => `(tactic| first | assumption | omega | with_unfolding_all rfl | decide | (simp only [aac, aaH, acI, aab, aaB, aa0, dw]; omega))
local macro_rules | `(tactic| walk_at "nn") => `(tactic| first | assumption | omega | decide | (simp only [aac, aaH, acI, aab, aaB, aa0, dw]; omega))
local macro_rules | `(tactic| walk_at "at") => `(tactic| first | assumption | ((with_reducible refine' PN ?x ?y); (case x => walk_at "tt"); (case y => walk_at "tt")) | rfl)
local macro_rules | `(tactic| walk_at "ty") => `(tactic| first | fail)
local macro_rules | `(tactic| walk_at "dp") => `(tactic| first | (with_reducible exact cH _) | (with_reducible exact dp_str _) | (with_reducible exact CL) | ((with_reducible refine' jJ ?x ?y); (case x => walk_at "sql"); (case y => walk_at "dps")) | ((with_reducible refine' gv ?x ?y); (case x => walk_at "sqt"); (case y => walk_at "dps")))
local macro_rules | `(tactic| walk_at "dps") => `(tactic| first | (with_reducible exact cK) | ((with_reducible refine' aT ?x ?y); (case x => walk_at "dp"); (case y => walk_at "dps")))
local macro_rules | `(tactic| walk_at "rd") => `(tactic| (walk_at "rk"; repeat (walk_at "r2"; walk_at "rk")))
local macro_rules | `(tactic| walk_at "rds") => `(tactic| (walk_at "rd"; repeat' (walk_at "cs" <;> walk_at "rd")))
local macro_rules | `(tactic| walk_at "cmul") => `(tactic| first | exact Or.inl ⟨by decide, by decide⟩ | exact Or.inr ⟨by decide, by decide⟩ | exact Or.inl ⟨by omega, by omega⟩ | exact Or.inr ⟨by omega, by omega⟩)
set_option hygiene false
local macro_rules | `(tactic| walk_at "cs") => `(tactic| with_reducible first | refine eW (λhh => ?_) (λhh => ?_) | refine gL (λhh => ?_) (λhh => ?_) | refine cW (λhh => ?_) (λhh => ?_) | refine uP (λhh => ?_) (λhh => ?_) )
local macro_rules | `(tactic| walk_at "tf") => `(tactic| (show Q _ _; refine' q _ _ _ _ ?zs ?SJ ?SK ?SE ?Si ?SV ?Sr ?zt ?zb ?zp; (case zt => walk_at "hlk"); (case zb => walk_at "hlk"); (case zp => walk_at "hlk"); (case zs => walk_at "same"); (case SJ => walk_at "none"); (case SK => walk_at "none"); (case SE => walk_at "none"); (case Si => walk_at "ne"); (case SV => walk_at "ne"); (case Sr => walk_at "ne")))
local macro_rules | `(tactic| walk_at "cls") => `(tactic| first | assumption | exact T.Jk | exact T.kg | exact T.fb | exact T.jP | exact T.gY | exact T.hZ | exact T.ie | exact T.kh | exact T.ka | exact T.ir | exact T.fh | exact T.iw | exact T.fX | exact T.cq)
local macro_rules | `(tactic| walk_at "noat") => `(tactic| first | assumption | exact T.uI | exact T.t8 | exact T.Fx | exact T.Fo | exact T.B4 | exact T.Ap | exact T.vg | exact T.GU | exact T.AL | exact T.Dw | exact T.Et | exact T.yq | exact T.yD | exact T.GW | exact T.EE | exact T.GA | exact T.DT | exact T.BU | exact T.yj | exact T.ER | exact T.Em | exact T.wa | exact T.ux | exact T.wI | exact T.sN | exact T.vZ | exact T.vj | exact T.uz | exact T.qX | exact T.uM)
local macro_rules | `(tactic| walk_at "kit") => `(tactic| first | assumption | exact T.kY | exact T.lC | exact T.rO | exact T.jM | exact T.jn | exact T.oG | exact T.lD | exact T.lB | exact T.rf | exact T.jW | exact T.jt | exact T.qk | exact T.g_ | exact T.g6 | exact T.mD | exact T.kU | exact T.kZ | exact T.rX | exact T.lF | exact T.k7 | exact T.r6 | exact T.j_ | exact T.jR | exact T.pA | exact T.iu | exact T.ic | exact T.mL | exact T.jl | exact T.jo | exact T.pE | exact T.jH | exact T.jy | exact T.qg | exact T.j8 | exact T.jL | exact T.jz)
set_option hygiene true
set_option maxHeartbeats 4000000
local macro_rules | `(tactic| walk_at "sc") => `(tactic| exact ⟨rfl, rfl, rfl, by nofun, rfl, by nofun, by nofun⟩)
def top (i:Nat):Stmt:=PySem.Challenge.pw_frameback_k91_whole_the_reader_tells_the.main.body.getD i (.Pass ⟨0,0,0,0⟩)
abbrev nF:Stmt:=inClass (top 5) 0
theorem lP:aq ["self","row"] ["self","row"] (ah nF):=by walk_at"sc"
abbrev yb:Stmt:=top 12
theorem uA:aq ["number","top"] ["number","top"] (ah yb):=by walk_at"sc"
abbrev vD:Stmt:=top 15
theorem rz:aq ["boxes","box","value","changed"] ["boxes","box","value"] (ah vD):=by walk_at"sc"
abbrev se:Stmt:=top 16
theorem oP:aq ["box"] ["box"] (ah se):=by walk_at"sc"
abbrev qf:Stmt:=top 17
theorem nE:aq ["cell","high"] ["cell","high"] (ah qf):=by walk_at"sc"
abbrev xM:Stmt:=top 18
theorem vH:aq ["places","place"] ["places","place"] (ah xM):=by walk_at"sc"
abbrev Ac:Stmt:=top 19
theorem xD:aq ["places","place","source"] ["places","place","source"] (ah Ac):=by walk_at"sc"
abbrev dA:Stmt:=inClass (top 20) 0
theorem bE:aq ["self","at"] ["self","at"] (ah dA):=by walk_at"sc"
abbrev cV:Stmt:=inClass (top 20) 1
theorem bj:aq ["self","high"] ["self","high"] (ah cV):=by walk_at"sc"
abbrev eS:Stmt:=inClass (top 20) 2
theorem cF:aq ["self","places","high"] ["self","places","high"] (ah eS):=by walk_at"sc"
abbrev uQ:Stmt:=inClass (top 21) 0
theorem si:aq ["self","box","number"] ["self","box","number"] (ah uQ):=by walk_at"sc"
abbrev uD:Stmt:=inClass (top 21) 1
theorem rp:aq ["self","at","boxes","pile"] ["self","at","boxes","pile"] (ah uD):=by walk_at"sc"
abbrev rq:Stmt:=inClass (top 21) 2
theorem pK:aq ["self","places","high"] ["self","places","high"] (ah rq):=by walk_at"sc"
abbrev rR:Stmt:=inClass (top 22) 0
theorem qd:aq ["self","box","one"] ["self","box","one"] (ah rR):=by walk_at"sc"
abbrev rJ:Stmt:=inClass (top 22) 1
theorem p_:aq ["self","at","boxes","pile"] ["self","at","boxes","pile"] (ah rJ):=by walk_at"sc"
abbrev pY:Stmt:=inClass (top 22) 2
theorem nA:aq ["self","places","high"] ["self","places","high"] (ah pY):=by walk_at"sc"
abbrev jQ:Stmt:=inClass (top 23) 0
theorem i6:aq ["self","box","one","other"] ["self","box","one","other"] (ah jQ):=by walk_at"sc"
abbrev iY:Stmt:=inClass (top 23) 1
theorem iF:aq ["self","places","high"] ["self","places","high"] (ah iY):=by walk_at"sc"
abbrev uX:Stmt:=inClass (top 24) 0
theorem su:aq ["self","at","boxes","pile","value"] ["self","at","boxes","pile"] (ah uX):=by walk_at"sc"
abbrev rY:Stmt:=inClass (top 25) 0
theorem pC:aq ["self","many"] ["self","many"] (ah rY):=by walk_at"sc"
abbrev rG:Stmt:=inClass (top 25) 1
theorem pH:aq ["self","at","boxes","pile"] ["self","at","boxes","pile"] (ah rG):=by walk_at"sc"
abbrev nP:Stmt:=inClass (top 25) 2
theorem lO:aq ["self","high"] ["self","high"] (ah nP):=by walk_at"sc"
abbrev nY:Stmt:=inClass (top 26) 0
theorem lY:aq ["self","many"] ["self","many"] (ah nY):=by walk_at"sc"
abbrev oj:Stmt:=inClass (top 26) 1
theorem mC:aq ["self","at","boxes","pile","left"] ["self","at","boxes","pile"] (ah oj):=by walk_at"sc"
abbrev kI:Stmt:=inClass (top 26) 2
theorem jE:aq ["self","high"] ["self","high"] (ah kI):=by walk_at"sc"
abbrev me:Stmt:=inClass (top 26) 3
theorem kM:aq ["self","places","high","gone"] ["self","places","high"] (ah me):=by walk_at"sc"
abbrev gu:Stmt:=inClass (top 27) 0
theorem eF:aq ["self","box","cell"] ["self","box","cell"] (ah gu):=by walk_at"sc"
abbrev fC:Stmt:=inClass (top 27) 1
theorem dU:aq ["self","high"] ["self","high"] (ah fC):=by walk_at"sc"
abbrev vm:Stmt:=inClass (top 28) 0
theorem sr:aq ["self","at","boxes","pile","changed"] ["self","at","boxes","pile"] (ah vm):=by walk_at"sc"
abbrev rM:Stmt:=inClass (top 28) 1
theorem pG:aq ["self","places","high"] ["self","places","high"] (ah rM):=by walk_at"sc"
abbrev vG:Stmt:=inClass (top 29) 0
theorem rH:aq ["self","at","boxes","pile","value"] ["self","at","boxes","pile"] (ah vG):=by walk_at"sc"
abbrev rE:Stmt:=inClass (top 29) 1
theorem pD:aq ["self","places","high"] ["self","places","high"] (ah rE):=by walk_at"sc"
abbrev pT:Stmt:=inClass (top 33) 0
theorem nJ:aq ["self","entries","landings"] ["self","entries","landings"] (ah pT):=by walk_at"sc"
abbrev xo:Stmt:=top 34
theorem uW:aq ["entry","kept"] ["entry"] (ah xo):=by walk_at"sc"
abbrev lV:Stmt:=top 37
theorem km:aq ["places"] ["places"] (ah lV):=by walk_at"sc"
abbrev rS:Stmt:=top 38
theorem o9:aq ["places","known","piece","place","cell"] ["places","known","piece"] (ah rS):=by walk_at"sc"
abbrev kQ:Stmt:=top 39
theorem fP:aq ["entries","at","known","pile","entry","length","piece","found"] ["entries","at","known","pile"] (ah kQ):=by walk_at"sc"
abbrev x8:Stmt:=top 40
theorem nj:aq ["table","row","boxes","pile","home","told","at","known","left","caller"] ["table","row","boxes","pile"] (ah x8):=by walk_at"sc"
abbrev rZ:Stmt:=inClass (top 44) 0
theorem qi:aq ["self","target"] ["self","target"] (ah rZ):=by walk_at"sc"
abbrev rK:Stmt:=inClass (top 44) 1
theorem oC:aq ["self","at","boxes","pile"] ["self","at","boxes","pile"] (ah rK):=by walk_at"sc"
abbrev rj:Stmt:=inClass (top 44) 2
theorem o7:aq ["self","at"] ["self","at"] (ah rj):=by walk_at"sc"
abbrev oo:Stmt:=inClass (top 45) 0
theorem mH:aq ["self","box","target"] ["self","box","target"] (ah oo):=by walk_at"sc"
abbrev nQ:Stmt:=inClass (top 45) 1
theorem lS:aq ["self","at","boxes","pile","coming"] ["self","at","boxes","pile"] (ah nQ):=by walk_at"sc"
abbrev nz:Stmt:=inClass (top 45) 2
theorem mF:aq ["self","at"] ["self","at"] (ah nz):=by walk_at"sc"
abbrev rQ:Stmt:=inClass (top 46) 0
theorem pN:aq ["self","target"] ["self","target"] (ah rQ):=by walk_at"sc"
abbrev rD:Stmt:=inClass (top 46) 1
theorem pB:aq ["self","at","boxes","pile"] ["self","at","boxes","pile"] (ah rD):=by walk_at"sc"
abbrev pV:Stmt:=inClass (top 46) 2
theorem nH:aq ["self","places","high"] ["self","places","high"] (ah pV):=by walk_at"sc"
abbrev r_:Stmt:=inClass (top 47) 0
theorem oU:aq ["self","box"] ["self","box"] (ah r_):=by walk_at"sc"
abbrev rV:Stmt:=inClass (top 47) 1
theorem pf:aq ["self","at","boxes","pile"] ["self","at","boxes","pile"] (ah rV):=by walk_at"sc"
abbrev rA:Stmt:=inClass (top 47) 2
theorem oK:aq ["self","at"] ["self","at"] (ah rA):=by walk_at"sc"
abbrev so:Stmt:=inClass (top 48) 0
theorem oE:aq ["self","box"] ["self","box"] (ah so):=by walk_at"sc"
abbrev rF:Stmt:=inClass (top 48) 1
theorem pM:aq ["self","at","boxes","pile"] ["self","at","boxes","pile"] (ah rF):=by walk_at"sc"
abbrev rB:Stmt:=inClass (top 48) 2
theorem oM:aq ["self","at"] ["self","at"] (ah rB):=by walk_at"sc"
abbrev A8:Stmt:=top 51
theorem xG:aq ["number","entries"] ["number","entries"] (ah A8):=by walk_at"sc"
abbrev iX:Stmt:=top 52
theorem iC:aq ["entry","high","beyond"] ["entry"] (ah iX):=by walk_at"sc"
abbrev og:Stmt:=top 53
theorem lR:aq ["row","entry"] ["row","entry"] (ah og):=by walk_at"sc"
abbrev kN:Stmt:=top 54
theorem jK:aq ["row","entry"] ["row","entry"] (ah kN):=by walk_at"sc"
abbrev kO:Stmt:=top 55
theorem jC:aq ["row","entry","coming","entries","there","name","ours","theirs"] ["row","entry","coming","entries"] (ah kO):=by walk_at"sc"
abbrev iG:Stmt:=top 56
theorem gT:aq ["row","entries"] ["row","entries"] (ah iG):=by walk_at"sc"
abbrev q_:Stmt:=top 57
theorem oS:aq ["numbers","told","number"] ["numbers"] (ah q_):=by walk_at"sc"
abbrev jT:Stmt:=top 58
theorem fG:aq ["code","entries","at","row","entry","own","found"] ["code","entries","at"] (ah jT):=by walk_at"sc"
abbrev gS:Stmt:=top 59
theorem gM:aq ["code","entries","at","landing","entry"] ["code","entries","at","landing"] (ah gS):=by walk_at"sc"
abbrev xr:Stmt:=top 60
theorem mM:aq ["code","table","entries","complaints","at","landing","what"] ["code","table"] (ah xr):=by walk_at"sc"
abbrev xR:Stmt:=top 62
theorem vn:aq ["code","landings","at","ways"] ["code","landings","at"] (ah xR):=by walk_at"sc"
abbrev CY:Stmt:=top 63
theorem zz:aq ["heights","waiting","at","high"] ["heights","waiting","at","high"] (ah CY):=by walk_at"sc"
abbrev pj:Stmt:=top 64
theorem eR:aq ["code","ways","heights","waiting","at","behind","coming"] ["code","ways"] (ah pj):=by walk_at"sc"
abbrev Bx:Stmt:=top 65
theorem xN:aq ["sets","changed","at","places","left"] ["sets","changed","at","places"] (ah Bx):=by walk_at"sc"
abbrev sj:Stmt:=top 66
theorem gO:aq ["code","ways","heights","first","sets","changed","wave","at","kept","coming"] ["code","ways","heights","first"] (ah sj):=by walk_at"sc"
abbrev oN:Stmt:=top 67
theorem eO:aq ["code","landings","ways","heights","found","entries","high","back","four","five","six"] ["code","landings"] (ah oN):=by walk_at"sc"
abbrev C4:Stmt:=top 68
theorem tD:aq ["code","landings","known","table"] ["code","landings"] (ah C4):=by walk_at"sc"
abbrev xx:Stmt:=top 70
theorem ui:aq ["boxes"] ["boxes"] (ah xx):=by walk_at"sc"
abbrev lJ:Stmt:=inClass (top 71) 0
theorem kq:aq ["self","code","table","boxes","start"] ["self","code","table","boxes","start"] (ah lJ):=by walk_at"sc"
abbrev fA:Stmt:=inClass (top 71) 1
theorem fm:aq ["self","coming"] ["self","coming"] (ah fA):=by walk_at"sc"
abbrev oF:Stmt:=inClass (top 71) 2
theorem nK:aq ["self"] ["self"] (ah oF):=by walk_at"sc"
abbrev kr:Stmt:=inClass (top 71) 3
theorem kj:aq ["self"] ["self"] (ah kr):=by walk_at"sc"
abbrev l_:Stmt:=inClass (top 71) 4
theorem kH:aq ["self"] ["self"] (ah l_):=by walk_at"sc"
abbrev lM:Stmt:=inClass (top 71) 5
theorem kK:aq ["self"] ["self"] (ah lM):=by walk_at"sc"
abbrev mE:Stmt:=inClass (top 71) 6
theorem kG:aq ["self"] ["self"] (ah mE):=by walk_at"sc"
abbrev mJ:Stmt:=inClass (top 71) 8
theorem kA:aq ["self","row"] ["self"] (ah mJ):=by walk_at"sc"
abbrev oJ:Stmt:=inClass (top 71) 9
theorem ou:aq ["self","row","done"] ["self","row"] (ah oJ):=by walk_at"sc"
abbrev jD:Stmt:=inClass (top 71) 10
theorem fD:aq ["self","many","left"] ["self","many"] (ah jD):=by walk_at"sc"
abbrev kC:Stmt:=inClass (top 71) 11
theorem jY:aq ["self","coming","boxes","pile"] ["self","coming","boxes","pile"] (ah kC):=by walk_at"sc"
abbrev mK:Stmt:=inClass (top 71) 12
theorem gf:aq ["self","value","told","looked_at","caller"] ["self","value"] (ah mK):=by walk_at"sc"
abbrev mv:Stmt:=inClass (top 71) 13
theorem gw:aq ["self","value","caller","looked_at","coming","boxes"] ["self","value","caller","looked_at"] (ah mv):=by walk_at"sc"
abbrev nG:Stmt:=top 73
theorem my:aq ["_law_script","_law_k"] ["_law_script","_law_k"] (ah nG):=by walk_at"sc"
abbrev r0:Stmt:=top 74
theorem pW:aq ["_law_cell"] ["_law_cell"] (ah r0):=by walk_at"sc"
abbrev xl:Stmt:=top 75
theorem vq:aq ["_law_told","_law_word","_law_box","_law_part"] ["_law_told"] (ah xl):=by walk_at"sc"
abbrev vp:Stmt:=top 76
theorem lg:aq ["_law_cells","_law_saved","_law_spare","_law_at","_law_rows","_law_cell","_law_kind","_law_box","_law_kept"] ["_law_cells","_law_saved","_law_spare","_law_at"] (ah vp):=by walk_at"sc"
abbrev mw:Stmt:=top 77
theorem cS:aq ["_law_cell","_law_cells","_law_at","_law_saved","_law_height","_law_turn","_law_places","_law_spare","_law_rows","_law_cut","_law_end"] ["_law_cell","_law_cells","_law_at"] (ah mw):=by walk_at"sc"
abbrev vF:Stmt:=top 78
theorem rW:aq ["_law_script","_law_many","_law_rows","_law_starts","_law_landings","_law_k","_law_part","_law_end","_law_j","_law_way","_law_found","_law_told"] ["_law_script"] (ah vF):=by walk_at"sc"
abbrev om:Stmt:=top 79
theorem mr:aq ["_law_cell","_law_many","_law_kind","_law_box","_law_part"] ["_law_cell","_law_many"] (ah om):=by walk_at"sc"
abbrev l7:Stmt:=top 80
theorem gD:aq ["_law_script","_law_many","_law_rows","_law_landings","_law_cell"] ["_law_script"] (ah l7):=by walk_at"sc"
abbrev kz:Stmt:=top 81
theorem jw:aq ["_law_cell","_law_height","_law_many","_law_part","_law_kept"] ["_law_cell"] (ah kz):=by walk_at"sc"
abbrev kP:Stmt:=top 82
theorem ke:aq ["_law_cell","_law_many","_law_box","_law_some"] ["_law_cell","_law_many"] (ah kP):=by walk_at"sc"
abbrev o_:Stmt:=top 83
theorem oa:aq ["_law_entry","_law_cell","_law_height","_law_back","_law_kept"] ["_law_entry","_law_cell"] (ah o_):=by walk_at"sc"
abbrev rT:Stmt:=top 84
theorem gr:aq ["_law_script","_law_code_here","_law_landings","_law_table_here","_law_entries","_law_at"] ["_law_script","_law_code_here","_law_landings"] (ah rT):=by walk_at"sc"
abbrev nI:Stmt:=top 85
theorem mx:aq ["_law_book","_law_landings","_law_home","_law_k"] ["_law_book","_law_landings","_law_home"] (ah nI):=by walk_at"sc"
abbrev vL:Stmt:=top 86
theorem kW:aq ["_law_machine","_law_table_here","_law_book","_law_found"] ["_law_machine","_law_table_here","_law_book"] (ah vL):=by walk_at"sc"
abbrev kT:Stmt:=top 87
theorem jV:aq ["_law_script","_law_code_here","_law_landings","_law_entries","_law_k"] ["_law_script","_law_code_here","_law_landings"] (ah kT):=by walk_at"sc"
abbrev gy:Stmt:=top 88
theorem pL:aq ["_law_script","_law_anyhow","_law_rows","_law_landings","_law_other","_law_code_here","_law_table_here","_law_boxes","_law_machine","_law_book","_law_k","_law_at","_law_held_here","_law_length"] ["_law_script"] (ah gy):=by walk_at"sc"
abbrev cC (K:W.Frag)(mg:Str->Option Value)(x:Str)(st:Stmt)(ps:List Str):Prop:=∃ f fd,ee K x x st f fd/\mg x=some (.ref f)/\Binds K fd ps []
abbrev bF (K:W.Frag)(C:Addr)(x q:Str)(st:Stmt)(ps:List Str):Prop:=∃ f fd,ee K x q st f fd/\z_ K C x f/\Binds K fd ps []
abbrev nU (K:W.Frag)(C:Addr)(q:Str)(st:Stmt)(ps:List Str):Prop:=∃ f fd,ee K "__init__" q st f fd/\Mk K C f/\Binds K fd ps []
abbrev dh (K:W.Frag)(C D:Addr)(b:Bool):Prop:=aci K (.ref C) (.ref D)=some b
abbrev n_ (K:W.Frag)(C:Addr):Prop:=abh K (.ref C) "__class__" = some (some (.builtin "object.__class__"))/\W.mroIn K C (.type "object")=some true
local macro_rules | `(tactic| walk_at "L") => `(tactic| (repeat first | (with_reducible assumption) | (exact aa) | ((with_reducible refine' cu ?zx ?_);(case zx=>with_reducible assumption)) | ((with_reducible refine' ai ?_ ?zy);(case zy=>with_reducible assumption))))
set_option hygiene false
local macro_rules | `(tactic| walk_at "A") => `(tactic| exact ⟨⟨by simp only[Rw.ok,aH,isVal,aF,aN];lia,aan⟩,by simp only[bO];lia⟩)
set_option hygiene true
local macro_rules | `(tactic| symm) => `(tactic| walk_at "rd")
local macro_rules | `(tactic| ac_rfl) => `(tactic| walk_at "rk")
structure Txt (K:W.Frag)(mg:Str->Option Value)(a:bH):Prop where
 P7:mg "all" = none
 Py:mg "any" = none
 OT:mg "dict" = none
 B_:mg "enumerate" = none
 Qb:mg "int" = none
 pQ:mg "isinstance" = none
 jc:mg "len" = none
 zC:mg "list" = none
 JM:mg "max" = none
 f9:mg "range" = none
 DV:mg "reversed" = none
 JE:mg "sorted" = none
 yV:mg "zip" = none
 tY:∃ t,mg "FIRST_CELL_BIT" = some (abt 8 t)
 p9:mg "KEPT_BOXES" = some (.ref a.gk)
 jO:(∀ H,aI K H a.gk [.int 4,.int 5,.int 6])
 Nc:∃ t,mg "LINK" = some (abt 7 t)
 wA:∃ t,mg "LOST_BY_CALL" = some (abt 143 t)
 wJ:∃ t,mg "MOST_CALLERS" = some (abt 5000 t)
 rm:mg "SET_NAMES" = some (.ref a.iz)
 lu:(∀ H,aI K H a.iz [.str "back",.int 4,.int 5,.int 6])
 l0:mg "START" = some (.ref a.ji)
 mz:∃ U5:Addr,(∀ H,aI K H a.ji [.int 0,.int 128,.ref U5])/\(∀ H,aI K H U5 [.int 16,.int 32,.int 64])
 Hn:∃ t,mg "TOP_BOX" = some (abt 7 t)
 BL:∃ t,mg "TOP_CELLS" = some (abt 4000 t)
 Ai:∃ t,mg "TOP_TARGET" = some (abt 2000 t)
 Cj:∃ t,mg "TOP_VALUE" = some (abt 4294967295 t)
 Hr:∃ t,mg "VALUES" = some (abt 4294967296 t)
 P_:mg "Add" = some (.ref a.cI)
 RP:mg "Astray" = some (.ref a.dI)
 F7:mg "Back" = some (.ref a.ba)
 Jx:mg "Branch" = some (.ref a.bz)
 zr:mg "Call" = some (.ref a.aZ)
 Nf:mg "Copy" = some (.ref a.bX)
 F8:mg "Drop" = some (.ref a.be)
 OZ:mg "FrameError" = some (.ref a.ql)
 Qv:mg "Get" = some (.ref a.cM)
 NV:mg "Grow" = some (.ref a.ck)
 M0:mg "Jump" = some (.ref a.cp)
 Gj:mg "Machine" = some (.ref a.ax)
 R1:mg "NoRow" = some (.ref a.L9)
 Q1:mg "NoTable" = some (.ref a.fk)
 Qa:mg "Put" = some (.ref a.cN)
 PR:mg "Set" = some (.ref a.cO)
 Jw:mg "Shrink" = some (.ref a.bB)
 Lj:mg "Table" = some (.ref a.b3)
 Jk:dY K a.b3
 uI:a9 K a.b3 "entries"
 t8:a9 K a.b3 "landings"
 Ls:∃ f fd,fj K "__init__" "Table.__init__" pT f fd/\Mk K a.b3 f/\Binds K fd ["self","entries","landings"] []/\Binds K fd ["self","entries","landings"] [.none]
 kg:dY K a.cI
 Fx:a9 K a.cI "box"
 Fo:a9 K a.cI "one"
 B4:a9 K a.cI "other"
 P0:nU K a.cI "Reckoning.__init__" jQ ["self","box","one","other"]
 DW:bF K a.cI "goes" "Row.goes" dA ["self","at"]
 A6:bF K a.cI "height" "Row.height" cV ["self","high"]
 CD:bF K a.cI "keeps" "Reckoning.keeps" iY ["self","places","high"]
 DE:bF K a.cI "runs" "Add.runs" uX ["self","at","boxes","pile"]
 fb:dY K a.bz
 Ap:a9 K a.bz "box"
 vg:a9 K a.bz "target"
 IZ:nU K a.bz "Branch.__init__" oo ["self","box","target"]
 yS:bF K a.bz "goes" "Branch.goes" nz ["self","at"]
 vB:bF K a.bz "height" "Row.height" cV ["self","high"]
 wG:bF K a.bz "keeps" "Row.keeps" eS ["self","places","high"]
 yQ:bF K a.bz "runs" "Branch.runs" nQ ["self","at","boxes","pile"]
 jP:dY K a.cO
 GU:a9 K a.cO "box"
 AL:a9 K a.cO "number"
 PZ:nU K a.cO "Set.__init__" uQ ["self","box","number"]
 Eh:bF K a.cO "goes" "Row.goes" dA ["self","at"]
 zT:bF K a.cO "height" "Row.height" cV ["self","high"]
 BY:bF K a.cO "keeps" "Set.keeps" rq ["self","places","high"]
 DH:bF K a.cO "runs" "Set.runs" uD ["self","at","boxes","pile"]
 gY:dY K a.bX
 Dw:a9 K a.bX "box"
 Et:a9 K a.bX "one"
 OQ:nU K a.bX "Copy.__init__" rR ["self","box","one"]
 B7:bF K a.bX "goes" "Row.goes" dA ["self","at"]
 yB:bF K a.bX "height" "Row.height" cV ["self","high"]
 zA:bF K a.bX "keeps" "Copy.keeps" pY ["self","places","high"]
 BM:bF K a.bX "runs" "Copy.runs" rJ ["self","at","boxes","pile"]
 hZ:dY K a.cp
 yq:a9 K a.cp "target"
 Nu:nU K a.cp "Jump.__init__" rZ ["self","target"]
 Cq:bF K a.cp "goes" "Jump.goes" rj ["self","at"]
 yO:bF K a.cp "height" "Row.height" cV ["self","high"]
 zE:bF K a.cp "keeps" "Row.keeps" eS ["self","places","high"]
 B5:bF K a.cp "runs" "Jump.runs" rK ["self","at","boxes","pile"]
 ie:dY K a.aZ
 yD:a9 K a.aZ "target"
 OR:nU K a.aZ "Call.__init__" rQ ["self","target"]
 CF:bF K a.aZ "goes" "Row.goes" dA ["self","at"]
 ym:bF K a.aZ "height" "Row.height" cV ["self","high"]
 AG:bF K a.aZ "keeps" "Call.keeps" pV ["self","places","high"]
 Ce:bF K a.aZ "runs" "Call.runs" rD ["self","at","boxes","pile"]
 kh:dY K a.cN
 GW:a9 K a.cN "box"
 EE:a9 K a.cN "cell"
 PQ:nU K a.cN "Reaching.__init__" gu ["self","box","cell"]
 Eg:bF K a.cN "goes" "Row.goes" dA ["self","at"]
 zW:bF K a.cN "height" "Reaching.height" fC ["self","high"]
 CA:bF K a.cN "keeps" "Put.keeps" rM ["self","places","high"]
 EX:bF K a.cN "runs" "Put.runs" vm ["self","at","boxes","pile"]
 ka:dY K a.cM
 GA:a9 K a.cM "box"
 DT:a9 K a.cM "cell"
 Qw:nU K a.cM "Reaching.__init__" gu ["self","box","cell"]
 EH:bF K a.cM "goes" "Row.goes" dA ["self","at"]
 Ae:bF K a.cM "height" "Reaching.height" fC ["self","high"]
 BS:bF K a.cM "keeps" "Get.keeps" rE ["self","places","high"]
 D8:bF K a.cM "runs" "Get.runs" vG ["self","at","boxes","pile"]
 ir:dY K a.ck
 BU:a9 K a.ck "many"
 M4:nU K a.ck "Grow.__init__" rY ["self","many"]
 CB:bF K a.ck "goes" "Row.goes" dA ["self","at"]
 yz:bF K a.ck "height" "Grow.height" nP ["self","high"]
 zG:bF K a.ck "keeps" "Row.keeps" eS ["self","places","high"]
 B6:bF K a.ck "runs" "Grow.runs" rG ["self","at","boxes","pile"]
 fh:dY K a.bB
 yj:a9 K a.bB "many"
 Hu:nU K a.bB "Shrink.__init__" nY ["self","many"]
 yu:bF K a.bB "goes" "Row.goes" dA ["self","at"]
 uZ:bF K a.bB "height" "Shrink.height" kI ["self","high"]
 wx:bF K a.bB "keeps" "Shrink.keeps" me ["self","places","high"]
 yG:bF K a.bB "runs" "Shrink.runs" oj ["self","at","boxes","pile"]
 iw:dY K a.ba
 ER:a9 K a.ba "box"
 OI:nU K a.ba "Back.__init__" r_ ["self","box"]
 B1:bF K a.ba "goes" "Back.goes" rA ["self","at"]
 yk:bF K a.ba "height" "Row.height" cV ["self","high"]
 BD:bF K a.ba "keeps" "Row.keeps" eS ["self","places","high"]
 BX:bF K a.ba "runs" "Back.runs" rV ["self","at","boxes","pile"]
 fX:dY K a.be
 Em:a9 K a.be "box"
 NG:nU K a.be "Drop.__init__" so ["self","box"]
 B2:bF K a.be "goes" "Drop.goes" rB ["self","at"]
 yt:bF K a.be "height" "Row.height" cV ["self","high"]
 zN:bF K a.be "keeps" "Row.keeps" eS ["self","places","high"]
 Cf:bF K a.be "runs" "Drop.runs" rF ["self","at","boxes","pile"]
 cq:dY K a.ax
 wa:a9 K a.ax "code"
 ux:a9 K a.ax "table"
 wI:a9 K a.ax "home"
 sN:a9 K a.ax "coming"
 vZ:a9 K a.ax "held"
 vj:a9 K a.ax "cells"
 uz:a9 K a.ax "calls"
 qX:a9 K a.ax "dropped"
 uM:a9 K a.ax "state"
 GL:∃ f fd dv,lA K dv "__init__" "Machine.__init__" lJ f fd/\Mk K a.ax f/\Binds K fd ["self","code","table","boxes","start"] []/\Binds K fd ["self","code","table","boxes","start"] [dv]/\RelV (.int 0) dv
 zh:bF K a.ax "at" "Machine.at" oF ["self"]
 xc:bF K a.ax "book" "Machine.book" mE ["self"]
 vC:bF K a.ax "boxes" "Machine.boxes" kr ["self"]
 Bv:bF K a.ax "do" "Machine.do" oJ ["self","row"]
 wu:bF K a.ax "drop" "Machine.drop" mK ["self","value"]
 sM:bF K a.ax "forget" "Machine.forget" jD ["self","many"]
 vw:bF K a.ax "go_on" "Machine.go_on" kC ["self","coming","boxes","pile"]
 vQ:bF K a.ax "land" "Machine.land" mv ["self","value","caller","looked_at"]
 w_:bF K a.ax "pile" "Machine.pile" l_ ["self"]
 vR:bF K a.ax "step" "Machine.step" mJ ["self"]
 wX:bF K a.ax "word" "Machine.word" lM ["self"]
 kl:bF K a.ax "word_ahead_of" "Machine.word_ahead_of" fA ["self","coming"]
 ve:n_ K a.cO
 kY:dh K a.cO a.aZ false
 lC:dh K a.cO a.ba false
 rO:dh K a.cO a.be false
 qQ:n_ K a.bX
 jM:dh K a.bX a.aZ false
 jn:dh K a.bX a.ba false
 oG:dh K a.bX a.be false
 vN:n_ K a.cI
 lD:dh K a.cI a.aZ false
 lB:dh K a.cI a.ba false
 rf:dh K a.cI a.be false
 qF:n_ K a.ck
 jW:dh K a.ck a.aZ false
 jt:dh K a.ck a.ba false
 qk:dh K a.ck a.be false
 kF:n_ K a.bB
 g_:dh K a.bB a.aZ false
 g6:dh K a.bB a.ba false
 mD:dh K a.bB a.be false
 ud:n_ K a.cN
 kU:dh K a.cN a.aZ false
 kZ:dh K a.cN a.ba false
 rX:dh K a.cN a.be false
 uE:n_ K a.cM
 lF:dh K a.cM a.aZ false
 k7:dh K a.cM a.ba false
 r6:dh K a.cM a.be false
 qO:n_ K a.cp
 j_:dh K a.cp a.aZ false
 jR:dh K a.cp a.ba false
 pA:dh K a.cp a.be false
 kL:n_ K a.bz
 iu:dh K a.bz a.aZ false
 ic:dh K a.bz a.ba false
 mL:dh K a.bz a.be false
 qP:n_ K a.aZ
 jl:dh K a.aZ a.aZ true
 jo:dh K a.aZ a.ba false
 pE:dh K a.aZ a.be false
 qw:n_ K a.ba
 jH:dh K a.ba a.aZ false
 jy:dh K a.ba a.ba true
 qg:dh K a.ba a.be false
 jh:n_ K a.be
 j8:dh K a.be a.aZ false
 jL:dh K a.be a.ba false
 jz:dh K a.be a.be true
 eP:W.specialIn K (.builtin "object.__class__") "__get__" = some (some (.builtin "getset_descriptor.__get__"))
 eM:W.takesIn K (.builtin "object.__class__")=some true
 iH:Bi K mg "NoTable" a.fk
 PM:Nr K a.fk
 G1:∃ f fd,ee K "__init__" "Astray.__init__" nF f fd/\k9 K mg "Astray" a.dI f/\Binds K fd ["self","row"] []
 ya:∃ f,k9 K mg "Astray" a.dI f
 QS:Nr K a.dI
 FN:wq K a.dI "row"
 Q5:abh K (.ref a.dI) "row" = some none
 QN:((W.clsIn K a.dI).any (·.hasDict))=true
 yy:JG K mg "FrameError" a.ql
 Pt:aci K (.type "list") (.type "list")=some true
 Mm:aci K (.type "tuple") (.type "tuple")=some true
 Pz:aci K (.type "int") (.type "bool")=some false
 Dz:cC K mg "bounded" yb ["number","top"]
 Cc:cC K mg "with_box" vD ["boxes","box","value"]
 zF:cC K mg "box_place" se ["box"]
 yN:cC K mg "cell_place" qf ["cell","high"]
 Ey:cC K mg "without" xM ["places","place"]
 Fe:cC K mg "filled" Ac ["places","place","source"]
 D5:cC K mg "sets_of" xo ["entry"]
 uL:cC K mg "lowest_place" lV ["places"]
 Aq:cC K mg "looked_up" rS ["places","known","piece"]
 sR:cC K mg "newest_caller" kQ ["entries","at","known","pile"]
 DG:cC K mg "callers" x8 ["table","row","boxes","pile"]
 Ge:cC K mg "is_row" A8 ["number","entries"]
 qm:cC K mg "has_wrong_place" iX ["entry"]
 wW:cC K mg "may_go_back" og ["row","entry"]
 tJ:cC K mg "own_complaint" kN ["row","entry"]
 sQ:cC K mg "way_complaint" kO ["row","entry","coming","entries"]
 oy:cC K mg "target_complaint" iG ["row","entries"]
 Ak:cC K mg "each_once" q_ ["numbers"]
 qY:cC K mg "row_complaints" jT ["code","entries","at"]
 mQ:cC K mg "landing_complaint" gS ["code","entries","at","landing"]
 DK:cC K mg "checked" xr ["code","table"]
 Dr:cC K mg "ways_on" xR ["code","landings","at"]
 Ie:cC K mg "reach" CY ["heights","waiting","at","high"]
 yw:cC K mg "heights_of" pj ["code","ways"]
 FJ:cC K mg "narrow" Bx ["sets","changed","at","places"]
 zB:cC K mg "places_of" sj ["code","ways","heights","first"]
 yM:cC K mg "entries_of" oN ["code","landings"]
 Ii:∃ f fd,fj K "guess" "guess" C4 f fd/\mg "guess" = some (.ref f)/\Binds K fd ["code","landings"] []/\Binds K fd ["code","landings"] [.none]
 EC:cC K mg "kept_of" xx ["boxes"]
 wZ:cC K mg "_law_cell_at" nG ["_law_script","_law_k"]
 AJ:cC K mg "_law_value" r0 ["_law_cell"]
 D2:cC K mg "_law_row" xl ["_law_told"]
 Cs:cC K mg "_law_body" vp ["_law_cells","_law_saved","_law_spare","_law_at"]
 uJ:cC K mg "_law_function" mw ["_law_cell","_law_cells","_law_at"]
 Cw:cC K mg "_law_code" vF ["_law_script"]
 wt:cC K mg "_law_any_row" om ["_law_cell","_law_many"]
 uo:cC K mg "_law_any_code" l7 ["_law_script"]
 tP:cC K mg "_law_any_entry" kz ["_law_cell"]
 s_:cC K mg "_law_other_row" kP ["_law_cell","_law_many"]
 yE:cC K mg "_law_turned" o_ ["_law_entry","_law_cell"]
 AQ:cC K mg "_law_table" rT ["_law_script","_law_code_here","_law_landings"]
 w4:cC K mg "_law_landing" nI ["_law_book","_law_landings","_law_home"]
 BQ:cC K mg "_law_held" vL ["_law_machine","_law_table_here","_law_book"]
 ua:cC K mg "_law_any_table" kT ["_law_script","_law_code_here","_law_landings"]
 SU:cC K mg "law" gy ["_law_script"]
def lowP (p:Int):Int:=((abn (aaK p (-p)):Nat):Int) - 1
theorem Ho {n:Nat}(h : 0<n):aaK (n:Int) (-(n:Int))=((Bt.wo n (n - 1):Nat):Int):=by
 rw[show -(n:Int)=aav ((n - 1:Nat):Int) from by unfold aav;lia,fT]
theorem JC (i:Nat):abn ((2 ^ i:Nat):Int)=i+1:=by
 have h1:abn ((2 ^ i:Nat):Int)<=i+1:=PySem.intBits_le_iff.mpr (by rw[acS];exact adB (by decide) (by lia));have h2 : ¬ abn ((2 ^ i:Nat):Int)<=i:=λz=>by
   have:=PySem.intBits_le_iff.mp z
   rw[acS] at this;exact absurd this (abB _)
 lia
theorem ML {n i:Nat}(h : 0<n)(e:Bt.wo n (n - 1)=2 ^ i):lowP (n:Int)=i:=by
 unfold lowP;rw[Ho h,e,JC];lia
structure Ent where
 h:Int
 b:Int
 v4:Int
 v5:Int
 v6:Int
def Ent.dG (e:Ent):List Int:=[e.b,e.v4,e.v5,e.v6]
def iy (K:W.Frag)(H:Hp)(p:Addr)(e:Ent):Prop:=∃ q,aI K H p [.int e.h,.int e.b,.ref q]/\aI K H q [.int e.v4,.int e.v5,.int e.v6]
variable {e:Ent} {p:Addr} {H H':Hp}
theorem iy.same {K:W.Frag}(h:iy K H p e)(s:ao H H'):iy K H' p e:=let ⟨q,h1,h2⟩:=h;⟨q,cm s h1,cm s h2⟩
def iV (K:W.Frag)(H:Hp)(v:V):Option Ent->Prop
 | none=>v=.aC
 | some e=>∃ p,v=.ref p/\iy K H p e
variable {oe:Option Ent}
theorem iV.same {K:W.Frag}{v:V}(h:iV K H v oe)(s:ao H H'):iV K H' v oe:=by
 cases oe with
 | none=>exact h
 | some e=>obtain⟨p,e1,e2⟩:=h;exact⟨p,e1,e2.same s⟩
def bK (K:W.Frag)(H:Hp)(vs:List V)(es:List (Option Ent)):Prop:=vs.length=es.length/\∀ (i:Nat) (oe:Option Ent),es[i]? = some oe->∃ v,vs[i]? = some v/\iV K H v oe
variable {es:List (Option Ent)} {vs:List V}
theorem bK.same {K:W.Frag}(h:bK K H vs es)(s:ao H H'):bK K H' vs es :=
 ⟨h.1,λi oe e=>let ⟨v,e1,e2⟩:=h.2 i oe e;⟨v,e1,e2.same s⟩⟩
theorem bK.snoc {K:W.Frag}{v:V}(h:bK K H vs es)(hv:iV K H v oe):bK K H (vs++[v]) (es++[oe]):=by
 refine⟨by rw[aab,aab,h.1];rfl,λi o e=>?_⟩;by_cases hi:i<es.length
 . rw[aas hi] at e;obtain⟨u,e1,e2⟩:=h.2 i o e;exact⟨u,by rw[aas (by rw[h.1];exact hi)];exact e1,e2⟩
 . rw[aaq (by lia)] at e;have UH:i - es.length=0:=by
     rcases Nat.eq_zero_or_pos (i - es.length) with z | z
     . exact z
     . rw[abS (by simp;lia)] at e;cases e
   rw[UH] at e;cases e
   exact⟨v,by rw[aaq (by rw[h.1];lia),h.1,UH];rfl,hv⟩
theorem bK.nil {K:W.Frag}:bK K H [] []:=⟨rfl,λi oe e=>by simp at e⟩
def fH:Option Ent->PyData
 | none=>.none
 | some e=>.tuple [.int e.h,.int e.b,.tuple [.int e.v4,.int e.v5,.int e.v6]]
theorem iV.dp {K:W.Frag}{v:V}(h:iV K H v oe):Dp K H (fH oe) v:=by
 cases oe with
 | none=>cases h;exact CL
 | some e =>
   obtain⟨p,rfl,q,h1,h2⟩:=h;exact gv h1 (aT (cH _) (aT (cH _) (aT (gv h2 (aT (cH _) (aT (cH _) (aT (cH _) cK)))) cK)))
theorem ja (e:Option Ent):shaped (fH e)=true:=by cases e <;> rfl
structure bM where
 r:Int
 a:Int
 b:Int
 c:Int
 n:Int
def iO (H:Hp)(v:V)(c:bM):Prop:=∃ t q,v=.ref t/\H t=some (.tup [.int c.r,.ref q,.int c.n])/\H q=some (.tup [.int c.a,.int c.b,.int c.c])
variable {c:bM}
theorem iO.same {v:V}(h:iO H v c)(s:ao H H'):iO H' v c:=let ⟨t,q,e,h1,h2⟩:=h;⟨t,q,e,s _ _ h1,s _ _ h2⟩
def a8 (H:Hp):List V->List bM->Prop
 | [],[]=>True
 | v::vs,c::cs=>iO H v c/\a8 H vs cs
 | _,_=>False
theorem a8.same (s:ao H H'):∀ {vs:List V} {cs:List bM},a8 H vs cs->a8 H' vs cs
 | [],[],_=>aan
 | _::_,_::_,h=>⟨h.1.same s,a8.same s h.2⟩
 | [],_::_,h=>h.elim
 | _::_,[],h=>h.elim
theorem a8.snoc {v:V}(hv:iO H v c):∀ {vs:List V} {cs:List bM},a8 H vs cs->a8 H (vs++[v]) (cs++[c])
 | [],[],_=>⟨hv,aan⟩
 | _::_,_::_,h=>⟨h.1,a8.snoc hv h.2⟩
 | [],_::_,h=>h.elim
 | _::_,[],h=>h.elim
theorem a8.len:∀ {vs:List V} {cs:List bM},a8 H vs cs->vs.length=cs.length
 | [],[],_=>rfl
 | _::_,_::_,h=>by rw[aaH,aaH,a8.len h.2]
 | [],_::_,h=>h.elim
 | _::_,[],h=>h.elim
variable {o:HO} {ys:List V}
theorem iO.upd {v:V}(hp:H p=some (.lst ys))(h:iO H v c):iO (upd H p o) v c:=by
 obtain⟨t,q,e,h1,h2⟩:=h;refine⟨t,q,e,?_,?_⟩
 . rw[ak (λz=>by subst z;rw[hp] at h1;cases h1)];exact h1
 . rw[ak (λz=>by subst z;rw[hp] at h2;cases h2)];exact h2
theorem a8.upd (hp:H p=some (.lst ys)):∀ {vs:List V} {cs:List bM},a8 H vs cs->a8 (upd H p o) vs cs
 | [],[],_=>aan
 | _::_,_::_,h=>⟨h.1.upd hp,a8.upd hp h.2⟩
 | [],_::_,h=>h.elim
 | _::_,[],h=>h.elim
def ny (c:bM):PyData:=.tuple [.int c.r,.tuple [.int c.a,.int c.b,.int c.c],.int c.n]
theorem a8.dp {K:W.Frag}:∀ {vs:List V} {cs:List bM},a8 H vs cs->eI K H (cs.map ny) vs
 | [],[],_=>cK
 | v :: vs, c :: cs, h => by
   obtain⟨⟨t,q,rfl,h1,h2⟩,h3⟩:=h;exact aT (gv (aI.of h1) (aT (cH _) (aT (gv (aI.of h2) (aT (cH _) (aT (cH _) (aT (cH _) cK)))) (aT (cH _) cK)))) (a8.dp h3)
 | [],_::_,h=>h.elim
 | _::_,[],h=>h.elim
theorem Am:∀ es:List bM,PyData.canLayAll0 (es.map ny)=true
 | []=>rfl
 | e :: es => by
   rw[aaR,PyData.canLayAll0,Am es];rfl
theorem vJ:∀ es:List bM,PyData.depthAll (es.map ny)<=2
 | []=>by decide
 | e :: es => by
   have h1:(ny e).depth<=2:=by simp[ny,PyData.depth,PyData.depthAll]
   have h2:=vJ es;rw[aaR,PyData.depthAll]
   lia
theorem rP (es:List bM):shaped (.list (es.map ny))=true:=by
 have:=vJ es
 unfold shaped;rw[PyData.canLay0,Am,PyData.depth]
 simp;lia
variable {Z : L2.St} {xs:List V}
theorem GP {K:W.Frag}{n:Nat}{t:xO}{Q:L2.St->Hp->Prop}(h:aI K H p xs)(hl:xs.length=n)(q:t xs Z H Q):Ja K n t (.ref p) Z H Q:=⟨p,xs,rfl,h,hl,q⟩
theorem wQ {t:TG}{u:xO}{v:V}{r:List V}{Q:L2.St->Hp->Prop}(q:t v Z H λZ' H'=>u r Z' H' Q):JJ t u (v::r) Z H Q:=⟨v,r,rfl,q⟩
theorem AB {Q:L2.St->Hp->Prop}(q:Q Z H):OE [] Z H Q:=⟨rfl,q⟩
theorem OY:aaX "dict" = some (.type "dict"):=by nofun
def fR (l d:Addr):List (Str×V):=au "landings" (.ref d) (au "entries" (.ref l) [])
def yX (K:W.Frag)(C:Addr):Sp:=λvs H Q _=>∃ (x dx pe:Addr) (lv:V) (xs:List V) (kvs:List (Key×V)),vs=[.ref x,.ref pe,lv]/\H x=some (.ins C dx [])/\ar K H pe xs /\
 ((lv=.aC/\kvs=[])∨∃ pd,lv=.ref pd/\H pd=some (.dK kvs)) /\
 ∀ l d H',H l=none->H d=none->l≠d->(∀ b o,H b=some o->b≠x->H' b=some o)->H' x=some (.ins C dx (fR l d))->H' l=some (.lst xs)->H' d=some (.dK kvs)->Q .aC H'
def Pc (K:W.Frag):Sp:=λvs H Q _=>∃ (p:Addr) (e:Ent),vs=[.ref p]/\iy K H p e/\∀ t,H t=none->Q (.ref t) (upd H t (.tup (e.dG.map V.int)))
def Kh:Sp:=λvs H Q _=>∃ i:Int,vs=[.int i]/\Q (.int (lowP i)) H
variable {E:XK} {Q:VK} {i:Int}
theorem J6 (q:Q (.int (lowP i)) H):Kh [.int i] H Q E:=⟨i,rfl,q⟩
def bt (s:Int)(kn:List V)(pc:List Int):V:=if s<=0 then .aC else if lowP s<8 then kn.getD (lowP s).toNat .aC else if lowP s - 8<pc.length then .int (gI pc (lowP s - 8)) else .aC
def Ha (K:W.Frag):Sp:=λvs H Q _=>∃ (s:Int) (pk pp:Addr) (kn:List V) (pc:List Int),vs=[.int s,.ref pk,.ref pp]/\ar K H pk kn/\kn.length=8/\ar K H pp (pc.map V.int)/\(0<s->0<=lowP s)/\Q (bt s kn pc) H
variable {pc:List Int} {pk:Addr} {s:Int}
theorem MV {K:W.Frag}{pp:Addr}{kn:List V}(h1:ar K H pk kn)(h8:kn.length=8)(h2:ar K H pp (pc.map V.int))(h0 : 0<s->0<=lowP s)(q:Q (bt s kn pc) H):Ha K [.int s,.ref pk,.ref pp] H Q E:=⟨s,pk,pp,kn,pc,rfl,h1,h8,h2,h0,q⟩
def iq (c:bM):List V:=[.aC,.aC,.aC,.aC,.int c.a,.int c.b,.int c.c,.aC]
theorem GX (xs:List Int){k:Int}(h0 : 0<=k)(h1:k<=xs.length):cR xs (some k) none=xs.drop k.toNat:=by
 unfold cR;have e2:HT.bh xs.length 0 (some k)=k.toNat:=by
   show(if k<0 then _ else _)=_;rw[if_neg (by lia)];lia
 have e3:HT.bh xs.length xs.length none=xs.length:=rfl;rw[e2,e3,adf (by rw[abz];exact aag _)]
theorem Ir {kn:List V}(h : 0<s)(h0 : 0<=lowP s)(h1:lowP s<8)(h8:kn.length=8):cT kn (lowP s)=some (bt s kn pc):=by
 unfold bt;rw[if_neg (by lia),if_pos h1];have e:lowP s=(((lowP s).toNat:Nat):Int):=by lia
 rw[e];exact bG (by rw[aaD,aar,aaa (by lia)];rfl)
theorem Ip:aaX "sorted" = some (.builtin "sorted"):=by nofun
def ko (a b:Option Ent):Bool:=adN (fH a) (fH b)
theorem FW {a b:Option Ent}(h:ko a b=true):a=b:=by
 cases a with
 | none=>cases b with
   | none=>rfl
   | some e=>simp[ko,fH,adN] at h
 | some e=>cases b with
   | none=>simp[ko,fH,adN] at h
   | some f =>
     obtain⟨h1,h2,h3,h4,h5⟩:=e;obtain⟨g1,g2,g3,g4,g5⟩:=f;simp[ko,fH,adN,PyData.eqvAll] at h;obtain⟨rfl,rfl,rfl,rfl,rfl⟩:=h;rfl
def Rw.here:Rw->Prop
 | .set ..=>True
 | .copy ..=>True
 | .add ..=>True
 | .sub ..=>False
 | .mul ..=>False
 | .less ..=>False
 | .grow ..=>True
 | .shrink ..=>True
 | .put ..=>True
 | .get ..=>True
 | .dr ..=>True
 | .branch ..=>True
 | .call ..=>True
 | .back ..=>True
 | .drop ..=>True
def Rw.isCall:Rw->Bool
 | .call _=>true
 | _=>false
def Rw.d_:Rw->Bool
 | .back _=>true
 | _=>false
def Rw.dS:Rw->Bool
 | .drop _=>true
 | _=>false
def bL (a:bH)(H:Hp)(prs:List Addr)(rs:List Rw):Prop:=prs.length=rs.length/\∀ (i:Nat) (p:Addr) (r:Rw),prs[i]? = some p->rs[i]? = some r->bD a H p r
variable {rs:List Rw} {prs:List Addr}
theorem bL.to {a:bH}(h:bL a H prs rs)(k:∀ p∈prs,∀ o,H p=some o->H' p=some o):bL a H' prs rs :=
 ⟨h.1,λi p r e1 e2=>let ⟨dx,e⟩:=h.2 i p r e1 e2;⟨dx,k p (aak e1) _ e⟩⟩
theorem bL.same {a:bH}(h:bL a H prs rs)(s:ao H H'):bL a H' prs rs:=h.to λ_ _ _ e=>s _ _ e
theorem bL.nil {a:bH}:bL a H [] []:=⟨rfl,λi p r e=>by simp at e⟩
variable {r:Rw}
theorem bL.snoc {a:bH}(h:bL a H prs rs)(q:bD a H p r):bL a H (prs++[p]) (rs++[r]):=by
 refine⟨by rw[aab,aab,h.1];rfl,λi p' r' e1 e2=>?_⟩;by_cases hi:i<rs.length
 . rw[aas (by rw[h.1]; exact hi)] at e1;rw[aas hi] at e2;exact h.2 i p' r' e1 e2
 . have UH : i = rs.length := by
     have:=(List.getElem?_eq_some_iff.mp e2).1
     rw[aab] at this;simp at this;lia
   subst UH;rw[aaq (by lia)] at e2;rw[aaq (by rw[h.1];lia),h.1] at e1;simp at e1 e2;subst e1 e2;exact q
theorem bL.mem {a:bH}(h:bL a H prs rs)(hp:p∈prs):∃ r,r∈rs/\bD a H p r:=by
 obtain⟨i,hi,e⟩:=List.mem_iff_getElem.mp hp;have e1:prs[i]? = some p:=by rw[aaa hi,e]
 have hi2:i<rs.length:=by rw[<- h.1];exact hi
 exact⟨rs[i],aaY hi2,h.2 i p _ e1 (aaa hi2)⟩
def aw (l:List (Int×Int)):List (Key×V):=l.map λp=>((Sum.inl p.1:Key),V.int p.2)
theorem zS {l:List (Int×Int)}{c r:Int}(h:cP (aw l) (.inl c)=none):putK (aw l) (.inl c) (.int r)=aw (l++[(c,r)]):=by
 rw[Hv _ h];unfold aw;rw[aaE];rfl
def lv (ls:List (Int×Int))(k:Int):Int:=((ls.find? λp=>decide (p.1=k)).map (·.2)).getD 0
theorem hG:∀ {ls:List (Int×Int)},(ls.map (·.1)).Nodup->∀ p∈ls,cP (aw ls) (.inl p.1)=some (.int p.2)/\lv ls p.1=p.2
 | [],_,_,h=>nomatch h
 | (c, r) :: ls, hn, p, hp => by
   rw[aaR,List.nodup_cons] at hn;rcases List.mem_cons.mp hp with rfl | hp
   . refine⟨?_,?_⟩
     . show cP ((Sum.inl c, V.int r) :: aw ls) (.inl c) = _;rw[mP rfl]
     . unfold lv;rw[abE,decide_eq_true rfl];rfl
   . have ne : ¬ c = p.1 := λz => hn.1 (List.mem_map.mpr ⟨p, hp, z.symm⟩);obtain ⟨i1,i2⟩:=hG hn.2 p hp;refine ⟨?_,?_⟩
     . show cP ((Sum.inl c, V.int r) :: aw ls) (.inl p.1) = _;rw[jF (λz=>ne (acZ z))];exact i1
     . unfold lv at i2 ⊢;rw[abE,decide_eq_false ne];exact i2
theorem iI:∀ {ls:List (Int×Int)} {c:Int},c ∉ ls.map (·.1)->cP (aw ls) (.inl c)=none
 | [],_,_=>rfl
 | (d, r) :: ls, c, h => by
   rw[aaR,aaQ,not_or] at h;show cP ((Sum.inl d,V.int r)::aw ls) (.inl c)=_;rw[jF (λz=>h.1 (acZ z).symm)];exact iI h.2
theorem G3 (ls:List (Int×Int)):(aw ls).map (·.1)=(ls.map (·.1)).map Sum.inl:=by
 unfold aw;rw[abe,abe];rfl
theorem QL:aaX "any" = some (.builtin "any"):=by nofun
inductive Wt where
 | place | aE | back | row | aC | start | call | length | b4 | b5 | b6
def Wt.v:Wt->V
 | .place=>.str "place" | .aE=>.str "height" | .back=>.str "back" | .row=>.str "row" | .aC=>.str "none" | .start=>.str "start" | .call=>.str "call" | .length=>.str "length"
 | .b4=>.int 4 | .b5=>.int 5 | .b6=>.int 6
def oV:Option Wt->V
 | none=>.aC
 | some w=>w.v
def lL:Option Ent:=some ⟨0,128,16,32,64⟩
def jZ (h s:Int):Bool:=decide (s<=0) || !decide (s/2 ^ (8+h).toNat=0)
def du (e:Ent):Bool:=decide (e.h<0) || (decide (4000<e.h) || e.dG.any (jZ e.h))
def jA (b:Int)(e:Ent):Bool:=decide (e.h=0) && ((aaK e.b ((2 ^ b.toNat:Nat):Int) != 0) && ((aaK e.v4 16 != 0) && ((aaK e.v5 32 != 0) && (aaK e.v6 64 != 0))))
def d9 (r:Rw)(e:Ent):Option Wt:=if du e=true then some .place else if r.aE e.h=none then some .aE else match r with | .back b=>if jA b e=true then none else some .back | _=>none
def nv (r:Rw)(e t:Ent):Option Wt:=if Bt.wo t.b.toNat (r.keep e.b.toNat e.h)≠0 then some .back else if Bt.wo t.v4.toNat (r.keep e.v4.toNat e.h)≠0 then some .b4 else if Bt.wo t.v5.toNat (r.keep e.v5.toNat e.h)≠0 then some .b5 else if Bt.wo t.v6.toNat (r.keep e.v6.toNat e.h)≠0 then some .b6 else none
def fE (r:Rw)(e:Ent)(c:Int)(es:List (Option Ent)):Option Wt:=if 0<=c/\c<es.length then (match es[c.toNat]?.join with | none=>some .aC | some t=>if r.aE e.h=some t.h then nv r e t else some .aE) else some .row
def eJ (t:Int)(es:List (Option Ent)):Option Wt:=if 0<=t/\t<es.length then (if ko (es[t.toNat]?.join) lL=true then none else some .start) else some .row
def Ent.nn (e:Ent):Prop:=0<=e.b/\0<=e.v4/\0<=e.v5/\0<=e.v6
def K6 (K:W.Frag):Sp:=λvs H Q _=>∃ (n:Int) (p:Addr) (us:List V),vs=[.int n,.ref p]/\ar K H p us/\Q (.bl (decide (0<=n/\n<us.length))) H
def LN (K:W.Frag):Sp:=λvs H Q _=>∃ (p:Addr) (e:Ent),vs=[.ref p]/\iy K H p e/\∀ H',ao H H'->Q (.bl (du e)) H'
def NJ (K:W.Frag)(a:bH):Sp:=λvs H Q _=>∃ (x p:Addr) (b:Int) (e:Ent),vs=[.ref x,.ref p]/\bD a H x (.back b)/\0<=b/\b<=7/\iy K H p e/\∀ H',ao H H'->Q (.bl (jA b e)) H'
def O_ (K:W.Frag)(a:bH):Sp:=λvs H Q _=>∃ (x p:Addr) (r:Rw) (e:Ent),vs=[.ref x,.ref p]/\bD a H x r/\r.ok/\r.here/\iy K H p e/\∀ H',ao H H'->Q (oV (d9 r e)) H'
def Mr (K:W.Frag)(a:bH):Sp:=λvs H Q _=>∃ (x p l:Addr) (c:Int) (r:Rw) (e:Ent) (ev:List V) (es:List (Option Ent)),vs=[.ref x,.ref p,.int c,.ref l]/\bD a H x r/\r.ok/\r.here/\iy K H p e/\e.nn/\0<=e.h/\e.h<=4000/\(r.aE e.h).isSome=true/\H l=some (.lst ev)/\bK K H ev es/\(∀ t,some t∈es->t.nn)/\∀ H',ao H H'->Q (oV (fE r e c es)) H'
def Na (K:W.Frag)(a:bH):Sp:=λvs H Q _=>∃ (x l:Addr) (t:Int) (ev:List V) (es:List (Option Ent)),vs=[.ref x,.ref l]/\bD a H x (.call t)/\H l=some (.lst ev)/\bK K H ev es/\∀ H',ao H H'->Q (oV (eJ t es)) H'
def once (ns:List Int):List Int:=ns.foldl (λt n=>if n∈t then t else t++[n]) []
def MZ (K:W.Frag):Sp:=λvs H Q _=>∃ (p:Addr) (ns:List Int),vs=[.ref p]/\ar K H p (ns.map V.int)/\ns.length<=4000/\∀ q H',ao H H'->H' q=some (.lst ((once ns).map V.int))->Q (.ref q) H'
theorem FQ (ns:List Int):(ns.map V.int).all dR=true:=by rw[List.all_map];exact List.all_eq_true.mpr λ_ _=>rfl
theorem Iz (n:Int)(ns:List Int):eY (.int n) (ns.map V.int)=decide (n∈ns):=by
 unfold eY;rw[List.any_map]
 induction ns with
 | nil=>rfl
 | cons p ps ih =>
   rw[abA,ih];show(pS (.int p) (.int n) || _)=_;by_cases e:n=p
   . subst e;simp[pS]
   . have : ¬ p = n := λz => e z.symm;simp[pS,e,this]
theorem bK.at {K:W.Frag}{c:Int}(h:bK K H vs es)(h0 : 0<=c)(h1:c<es.length):∃ v oe,cT vs c=some v/\es[c.toNat]? = some oe/\oe∈es/\iV K H v oe:=by
 have hi:c.toNat<es.length:=by omega
 obtain⟨v,e1,e2⟩:=h.2 c.toNat _ (aaa hi);exact⟨v,_,by rw[show c=((c.toNat:Nat):Int) from by omega];exact bG e1,aaa hi,aaY hi,e2⟩
theorem BG {K:W.Frag}{s q:Addr}(h1:aI K H s [.int 0,.int 128,.ref q])(h2:aI K H q [.int 16,.int 32,.int 64]):Dp K H (fH lL) (.ref s):=gv h1 (aT (cH _) (aT (cH _) (aT (gv h2 (aT (cH _) (aT (cH _) (aT (cH _) cK)))) cK)))
theorem Qq {K:W.Frag}{x y:V}(a b:Option Ent)(hx:Dp K H (fH a) x)(hy:Dp K H (fH b) y)(q:Q (.bl (ko a b)) H):gJ K x y H Q:=.inr ⟨fH a,fH b,hx,hy,ja a,ja b,q⟩
theorem Qh {K:W.Frag}{x y:V}(a b:Option Ent)(hx:Dp K H (fH a) x)(hy:Dp K H (fH b) y)(q:Q (.bl (!ko a b)) H):gm K x y H Q:=.inr ⟨fH a,fH b,hx,hy,ja a,ja b,q⟩
theorem Ol {w:Wt}(q:Q (.bl true) H):kS w.v .aC H Q:=⟨rfl,by rw[decide_eq_false (λz=>by cases w <;> cases z)];exact q⟩
structure Cm where
 i:Int
 at_:Int
 w:Wt
def Gw (H:Hp)(v:V)(c:Cm):Prop:=∃ q,v=.ref q/\H q=some (.tup [.int c.i,.int c.at_,c.w.v])
def cA (H:Hp)(vs:List V)(cs:List Cm):Prop:=vs.length=cs.length/\∀ (i:Nat) (c:Cm),cs[i]? = some c->∃ v,vs[i]? = some v/\Gw H v c
theorem Gw.same {v:V}{c:Cm}(h:Gw H v c)(s:ao H H'):Gw H' v c:=let ⟨q,e,k⟩:=h;⟨q,e,s _ _ k⟩
theorem cA.same {cs:List Cm}(h:cA H vs cs)(s:ao H H'):cA H' vs cs:=⟨h.1,λi c e=>let ⟨v,e1,e2⟩:=h.2 i c e;⟨v,e1,e2.same s⟩⟩
theorem cA.nil:cA H [] []:=⟨rfl,λi c e=>by simp at e⟩
variable {us:List V}
theorem cA.app {cs ds:List Cm}(h:cA H vs cs)(k:cA H us ds):cA H (vs++us) (cs++ds):=by
 refine⟨by rw[aab,aab,h.1,k.1],λi o e=>?_⟩;by_cases hi:i<cs.length
 . rw[aas hi] at e;obtain⟨u,e1,e2⟩:=h.2 i o e;exact⟨u,by rw[aas (by rw[h.1];exact hi)];exact e1,e2⟩
 . rw[aaq (by lia)] at e;obtain⟨u,e1,e2⟩:=k.2 _ o e;exact⟨u,by rw[aaq (by rw[h.1];lia),h.1];exact e1,e2⟩
theorem cA.one {v:V}{c:Cm}(h:Gw H v c):cA H [v] [c]:=⟨rfl,λi c' e=>by
 cases i with
 | zero=>simp at e;subst e;exact⟨v,rfl,h⟩
 | succ i=>simp at e⟩
def tK (r:Rw)(i:Int)(es:List (Option Ent)):List Cm:=match r with | .call t=>((eJ t es).map λw=>Cm.mk i t w).toList | _=>[]
def pU (r:Rw)(e:Ent)(i:Int)(es:List (Option Ent)):List Cm:=match d9 r e with
 | some w=>[⟨i,i,w⟩]
 | none=>((once (r.dz i)).filterMap λc=>(fE r e c es).map λw=>Cm.mk i c w)++tK r i es
def nq (rs:List Rw)(es:List (Option Ent))(i:Nat):List Cm:=match rs[i]?,es[i]?.join with
 | some r,some e=>pU r e i es
 | _,_=>[]
def za (r:Rw)(oe:Option Ent)(at_:Int)(es:List (Option Ent)):Option Wt:=if r.isCall=true then (match oe with | none=>none | some e=>if (d9 r e).isSome=true then none else fE r e at_ es) else some .call
def mO (rs:List Rw)(es:List (Option Ent))(i at_:Int):Option Wt :=
 if 0<=i/\i<es.length then (match rs[i.toNat]?,es[i.toNat]?.join with
   | some r,oe=>za r oe at_ es
   | none,_=>some .call) else some .call
structure Ju (rs:List Rw)(es:List (Option Ent)):Prop where
 ok:∀ r∈rs,r.ok/\r.here
 nn:∀ t,some t∈es->t.nn
 nr:rs.length<=2000
 ne:es.length<=2000
def N6 (K:W.Frag)(a:bH):Sp:=λvs H Q _=>∃ (c l:Addr) (i:Nat) (prs:List Addr) (rs:List Rw) (ev:List V) (es:List (Option Ent)),vs=[.ref c,.ref l,.int (i:Int)]/\H c=some (.lst (prs.map V.ref))/\bL a H prs rs/\H l=some (.lst ev)/\bK K H ev es/\Ju rs es/\i<rs.length/\rs.length=es.length /\
 ∀ p us H',ao H H'->H' p=some (.lst us)->cA H' us (nq rs es i)->H p=none->Q (.ref p) H'
def Mb (K:W.Frag)(a:bH):Sp:=λvs H Q _=>∃ (c l:Addr) (i z:Int) (prs:List Addr) (rs:List Rw) (ev:List V) (es:List (Option Ent)),vs=[.ref c,.ref l,.int i,.int z]/\H c=some (.lst (prs.map V.ref))/\bL a H prs rs/\H l=some (.lst ev)/\bK K H ev es/\Ju rs es/\rs.length=es.length /\
 ∀ H',ao H H'->Q (oV (mO rs es i z)) H'
def dF (rs:List Rw)(es:List (Option Ent)):List Cm:=if 0<rs.length then (if ko (es[0]?.join) lL=true then [] else [⟨-1,0,.start⟩]) else []
def jU (rs:List Rw)(es:List (Option Ent))(ls:List (Int×Int))(ks:List Int):List Cm:=ks.flatMap λk=>((mO rs es k (lv ls k)).map λw=>Cm.mk k (lv ls k) w).toList
def gK (rs:List Rw)(es:List (Option Ent))(n:Nat):List Cm:=(ab9 n).flatMap λi=>nq rs es i
def dH (rs:List Rw)(es:List (Option Ent))(ls:List (Int×Int))(ks:List Int):List Cm :=
 if es.length=rs.length then dF rs es++gK rs es rs.length++jU rs es ls ks else [⟨-1,-1,.length⟩]
theorem r9 (rs:List Rw)(es:List (Option Ent))(n:Nat):gK rs es (n+1)=gK rs es n++nq rs es n:=by
 unfold gK;rw[List.range_succ,List.flatMap_append];simp
theorem Jn (r:Rw)(e:Ent)(i:Int)(es:List (Option Ent)):(pU r e i es).length<=10:=by
 unfold pU;split
 . exact aa3 rfl
 . rw[aab];have h1:=List.length_filterMap_le (λc=>(fE r e c es).map λw=>Cm.mk i c w) (once (r.dz i));have h2:(once (r.dz i)).length<=9:=by
     cases r <;> simp[Rw.dz,once]
     split <;> simp
   have h3:(tK r i es).length<=1:=by
     unfold tK;split
     . cases eJ _ es <;> exact aa3 rfl
     . exact aaU _
   lia
theorem xJ (rs:List Rw)(es:List (Option Ent))(i:Nat):(nq rs es i).length<=10:=by
 unfold nq;split
 . exact Jn _ _ _ _
 . exact aaU _
theorem ni (rs:List Rw)(es:List (Option Ent)):∀ n,(gK rs es n).length<=10*n
 | 0=>aag _
 | n + 1 => by
   rw[r9,aab]
   have:=ni rs es n
   have:=xJ rs es n
   lia
theorem EO (rs:List Rw)(es:List (Option Ent)):(dF rs es).length<=1:=by
 unfold dF;split
 . split <;> exact aa3 rfl
 . exact aaU _
def TabOf (K:W.Frag)(a:bH)(H:Hp)(t:Addr)(ev:List V)(ls:List (Int×Int)):Prop:=∃ dt l d,H t=some (.ins a.b3 dt (fR l d))/\H l=some (.lst ev)/\H d=some (.dK (aw ls))
def wm (K:W.Frag)(a:bH):Sp:=λvs H Q _=>∃ (c t:Addr) (prs:List Addr) (rs:List Rw) (ev:List V) (es:List (Option Ent)) (ls:List (Int×Int)),vs=[.ref c,.ref t]/\H c=some (.lst (prs.map V.ref))/\bL a H prs rs/\TabOf K a H t ev ls/\bK K H ev es/\Ju rs es/\(ls.map (·.1)).Nodup/\ls.length<64 /\
 ∀ p us ks H',ao H H'->H' p=some (.lst us)->(es.length=rs.length->ks.Perm (ls.map (·.1))/\ks.Pairwise (· <= ·))->cA H' us (dH rs es ls ks)->Q (.ref p) H'
theorem xh {r r':R2}{ta tb tc:TE}(h:ta Z H λx H1=>tb Z H1 λy H2=>r x y H2 λz H3=>∃ k,z=.bl k/\(if k then tc Z H3 λu H4=>r' y u H4 Q else Q (.bl false) H3)):Ar r r' ta tb tc Z H Q:=h
theorem Gk (h : 0<s) : 0<=lowP s:=by
 obtain⟨n,rfl⟩:∃ n:Nat,s=(n:Int):=⟨s.toNat,by omega⟩
 have hn : 0<n:=by omega
 unfold lowP;rw[Ho hn];have hw : 0<Bt.wo n (n - 1):=by
   unfold Bt.wo
   have:=ade (n:=n) (m:=n - 1)
   omega
 have : ¬ abn ((Bt.wo n (n - 1):Nat):Int)<=0:=λz=>by
   have:=PySem.intBits_le_iff.mp z
   rw[acS] at this;omega
 omega
def near (i:Int):Prop:=-(2 ^ 61)<=i/\i<2 ^ 61
def o8 (v:V):Prop:=v=.aC∨∃ i,v=.int i/\near i
def tO (kn:List V):Prop:=kn.length=8/\∀ v∈kn,o8 v
def fN (pl:List Int):Prop:=∀ i∈pl,near i
theorem fN.take {pl:List Int}(h:fN pl)(n:Nat):fN (pl.take n):=λi hi=>h i (abY hi)
theorem fN.drop {pl:List Int}(h:fN pl)(n:Nat):fN (pl.drop n):=λi hi=>h i (List.mem_of_mem_drop hi)
theorem f_ {kn:List V}(hk:tO kn)(hp:fN pc):o8 (bt s kn pc):=by
 unfold bt;split
 . exact .inl rfl
 . rename_i hs;split
   . rename_i hl;have h0:=Gk (s:=s) (by omega);rw[aar,aaa (by rw[hk.1];omega)];exact hk.2 _ (aaY _)
   . rename_i hl;split
     . rename_i hc;refine .inr ⟨_,rfl,?_⟩;unfold gI;rw[aar,aaa (by omega)];exact hp _ (aaY _)
     . exact .inl rfl
def vi:V->Option Int
 | .int i=>some i
 | _=>none
def gF (e:Ent)(kn:List V)(pl:List Int):Option bM :=
 match vi (bt e.b kn (pl.drop ((pl.length:Int) - e.h).toNat)),vi (bt e.v4 kn (pl.drop ((pl.length:Int) - e.h).toNat)),vi (bt e.v5 kn (pl.drop ((pl.length:Int) - e.h).toNat)),vi (bt e.v6 kn (pl.drop ((pl.length:Int) - e.h).toNat)) with
 | some r,some a,some b,some c=>some ⟨r,a,b,c,(pl.length:Int) - e.h⟩
 | _,_,_,_=>none
def Fq (oe:Option Ent)(kn:List V)(pl:List Int):Option bM:=match oe with
 | none=>none
 | some e=>if 0<=e.h/\e.h<=pl.length then gF e kn pl else none
def dX (es:List (Option Ent))(at':Int)(kn:List V)(pl:List Int):Option bM :=
 if 0<=at'/\at'<es.length then Fq (es.getD at'.toNat none) kn pl else none
def bq (es:List (Option Ent)):Nat->Int->List V->List Int->List bM×Option Int
 | 0,at',_,_=>([],if at'=es.length then none else some at')
 | f + 1, at', kn, pl => if at' = es.length then ([], none) else match dX es at' kn pl with
   | none=>([],some at')
   | some c=>(c::(bq es f c.r (iq c) (pl.take c.n.toNat)).1,(bq es f c.r (iq c) (pl.take c.n.toNat)).2)
variable {at':Int} {f:Nat}
theorem xK {kn:List V}{pl:List Int}(h:at'=es.length):bq es f at' kn pl=([],none):=by
 cases f with
 | zero=>unfold bq;rw[if_pos h]
 | succ f=>unfold bq;rw[if_pos h]
theorem yf {kn:List V}{pl:List Int}(h:at'≠es.length)(hs:f=0∨dX es at' kn pl=none):bq es f at' kn pl=([],some at'):=by
 cases f with
 | zero=>unfold bq;rw[if_neg h]
 | succ f =>
   unfold bq;rw[if_neg h];rcases hs with hs | hs
   . cases hs
   . rw[hs]
theorem xP {f:Nat}{kn:List V}{pl:List Int}(h:at'≠es.length)(hs:dX es at' kn pl=some c) :
   bq es (f+1) at' kn pl=(c::(bq es f c.r (iq c) (pl.take c.n.toNat)).1,(bq es f c.r (iq c) (pl.take c.n.toNat)).2):=by
 rw[bq,if_neg h,hs]
theorem CK {v1 v2 v3 v4:V}(h1:o8 v1)(h2:o8 v2)(h3:o8 v3)(h4:o8 v4):(eY .aC [v1,v2,v3,v4]=true/\(vi v1=none∨vi v2=none∨vi v3=none∨vi v4=none)) ∨
   (eY .aC [v1,v2,v3,v4]=false/\∃ r a b c,v1=.int r/\v2=.int a/\v3=.int b/\v4=.int c/\near r/\near a/\near b/\near c):=by
 rcases h1 with rfl | ⟨r,rfl,n1⟩
 . exact .inl ⟨rfl,.inl rfl⟩
 rcases h2 with rfl | ⟨a,rfl,n2⟩
 . exact .inl ⟨rfl,.inr (.inl rfl)⟩
 rcases h3 with rfl | ⟨b,rfl,n3⟩
 . exact .inl ⟨rfl,.inr (.inr (.inl rfl))⟩
 rcases h4 with rfl | ⟨c,rfl,n4⟩
 . exact .inl ⟨rfl,.inr (.inr (.inr rfl))⟩
 exact .inr ⟨rfl,r,a,b,c,rfl,rfl,rfl,rfl,n1,n2,n3,n4⟩
theorem G4 {v1 v2 v3 v4:V}(h1:o8 v1)(h2:o8 v2)(h3:o8 v3)(h4:o8 v4) : [v1,v2,v3,v4].all dR=true:=by
 have f:∀ {v:V},o8 v->dR v=true:=λh=>by rcases h with rfl | ⟨i,rfl,_⟩ <;> rfl
 simp[f h1,f h2,f h3,f h4]
theorem A7 {kn:List V}{pl:List Int}(h:vi (bt e.b kn (pl.drop ((pl.length:Int) - e.h).toNat))=none∨vi (bt e.v4 kn (pl.drop ((pl.length:Int) - e.h).toNat))=none∨vi (bt e.v5 kn (pl.drop ((pl.length:Int) - e.h).toNat))=none∨vi (bt e.v6 kn (pl.drop ((pl.length:Int) - e.h).toNat))=none):gF e kn pl=none:=by
 unfold gF;rcases h with h | h | h | h <;> rw[h]
 . cases vi (bt e.b kn (pl.drop ((pl.length:Int) - e.h).toNat)) <;> rfl
 . cases vi (bt e.b kn (pl.drop ((pl.length:Int) - e.h).toNat)) <;> cases vi (bt e.v4 kn (pl.drop ((pl.length:Int) - e.h).toNat)) <;> rfl
 . cases vi (bt e.b kn (pl.drop ((pl.length:Int) - e.h).toNat)) <;> cases vi (bt e.v4 kn (pl.drop ((pl.length:Int) - e.h).toNat)) <;> cases vi (bt e.v5 kn (pl.drop ((pl.length:Int) - e.h).toNat)) <;> rfl
variable {b:Int}
theorem Bs {kn:List V}{pl:List Int}{r a c:Int}(h1:bt e.b kn (pl.drop ((pl.length:Int) - e.h).toNat)=.int r)(h2:bt e.v4 kn (pl.drop ((pl.length:Int) - e.h).toNat)=.int a)(h3:bt e.v5 kn (pl.drop ((pl.length:Int) - e.h).toNat)=.int b)(h4:bt e.v6 kn (pl.drop ((pl.length:Int) - e.h).toNat)=.int c) :
   gF e kn pl=some ⟨r,a,b,c,(pl.length:Int) - e.h⟩:=by
 unfold gF;rw[h1,h2,h3,h4];rfl
theorem K8 {kn:List V}{pl:List Int}(hk:tO kn)(hp:fN pl)(h:dX es at' kn pl=some c):near c.r/\tO (iq c)/\0<=c.n/\c.n<=pl.length:=by
 unfold dX at h;split at h
 . unfold Fq at h;split at h
   . cases h
   . rename_i e _;split at h
     . rename_i hh;rcases CK (f_ (s:=e.b) hk (hp.drop ((pl.length:Int) - e.h).toNat)) (f_ (s:=e.v4) hk (hp.drop ((pl.length:Int) - e.h).toNat)) (f_ (s:=e.v5) hk (hp.drop ((pl.length:Int) - e.h).toNat)) (f_ (s:=e.v6) hk (hp.drop ((pl.length:Int) - e.h).toNat)) with ⟨_,z⟩ | ⟨_,r,a,b,c',h1,h2,h3,h4,n1,n2,n3,n4⟩
       . rw[A7 z] at h;cases h
       . rw[Bs h1 h2 h3 h4] at h;cases h
         refine⟨n1,⟨rfl,λv hv=>?_⟩,(show 0<=(pl.length:Int) - e.h by lia),(show(pl.length:Int) - e.h<=pl.length by lia)⟩;simp only[iq,aaQ,aaS,or_false] at hv;rcases hv with rfl | rfl | rfl | rfl | rfl | rfl | rfl | rfl
         . exact .inl rfl
         . exact .inl rfl
         . exact .inl rfl
         . exact .inl rfl
         . exact .inr ⟨_,rfl,n2⟩
         . exact .inr ⟨_,rfl,n3⟩
         . exact .inr ⟨_,rfl,n4⟩
         . exact .inl rfl
     . cases h
 . cases h
theorem K5 (r:List bM×Option Int):r=([]++r.1,r.2):=by cases r;rfl
theorem Fp {kn:List V}{pl:List Int}{ds:List bM}{r:List bM×Option Int}(h:at'≠es.length)(hs:dX es at' kn pl=some c)(hw:r=(ds++(bq es (f+1) at' kn pl).1,(bq es (f+1) at' kn pl).2)) :
   r=((ds++[c])++(bq es f c.r (iq c) (pl.take c.n.toNat)).1,(bq es f c.r (iq c) (pl.take c.n.toNat)).2):=by
 rw[hw,xP h hs,acn];rfl
def Nd (K:W.Frag)(C:Addr):Sp:=λvs H Q E=>∃ (pe pk pp:Addr) (at':Int) (ev:List V) (es:List (Option Ent)) (kn:List V) (pl:List Int),vs=[.ref pe,.int at',.ref pk,.ref pp]/\ar K H pe ev/\bK K H ev es/\ar K H pk kn/\tO kn/\ar K H pp (pl.map V.int)/\fN pl/\near at' /\
 (∀ c v H',dX es at' kn pl=some c->ao H H'->iO H' v c->Q v H')/\(dX es at' kn pl=none->∀ d H',ao H H'->H' d=some (.xd [("row",.int at')])->E (.ref C) (some d) H')
def Lo (K:W.Frag)(a:bH):Sp:=λvs H Q E=>∃ (x dx l d pk pp:Addr) (at':Int) (ev:List V) (es:List (Option Ent)) (kn:List V) (pl:List Int),vs=[.ref x,.int at',.ref pk,.ref pp]/\H x=some (.ins a.b3 dx (fR l d))/\H l=some (.lst ev)/\bK K H ev es/\ar K H pk kn/\tO kn/\ar K H pp (pl.map V.int)/\fN pl/\near at' /\
 ((bq es 5000 at' kn pl).2=none->∀ p vs H',ao H H'->H p=none->H' p=some (.lst vs)->a8 H' vs (bq es 5000 at' kn pl).1->Q (.ref p) H') /\
 (∀ r,(bq es 5000 at' kn pl).2=some r->∀ d H',ao H H'->H' d=some (.xd [("row",.int r)])->E (.ref a.dI) (some d) H')
theorem OD {xs:List Int}{v x:Int}(h:x∈sI xs i v):x∈xs∨x=v:=by
 unfold sI at h;exact acT h
theorem fK {xs:List Int}(hv:∀ x∈xs,isVal x)(i:Int):isVal (gI xs i):=by
 unfold gI;rw[aar];cases e:xs[i.toNat]? with
 | none=>exact⟨by decide,by decide⟩
 | some y=>exact hv y (aak e)
theorem fw {xs:List Int}{v:Int}(hv:∀ x∈xs,isVal x)(h:isVal v):∀ x∈sI xs i v,isVal x:=λx hx=>by
 rcases OD hx with z | z
 . exact hv x z
 . rw[z];exact h
variable {Ut Tu:List Int} {n:Int}
theorem Pm {n':Int}{bs pl:List Int}(ok:r.ok)(h0 : 0<=n)(h1:n<=2000)(h8:bs.length=8)(hv:∀ x∈bs,isVal x)(hp:∀ x∈pl,isVal x)(hl:pl.length<=4000)(hr:r.run n bs pl=some (n',Ut,Tu)) :
   Ut.length=8/\(∀ x∈Ut,isVal x)/\(∀ x∈Tu,isVal x)/\Tu.length<=4000/\0<=n':=by
 have g0:∀ {m:Int},aF m->0<=m:=λh=>h.1;have t0:∀ {m:Int},aN m->0<=m:=λh=>h.1;have md:∀ x:Int,isVal (x%4294967296):=λx=>⟨by omega,by omega⟩;cases r with
 | set b m=>cases hr;exact⟨by rw[dw];exact h8,fw hv ok.2,hp,hl,by omega⟩
 | copy b o=>cases hr;exact⟨by rw[dw];exact h8,fw hv (fK hv _),hp,hl,by omega⟩
 | add b o t=>cases hr;exact⟨by rw[dw];exact h8,fw hv (md _),hp,hl,by omega⟩
 | sub b o t=>cases hr;exact⟨by rw[dw];exact h8,fw hv (md _),hp,hl,by omega⟩
 | mul b o t=>cases hr;exact⟨by rw[dw];exact h8,fw hv (md _),hp,hl,by omega⟩
 | less b o t=>cases hr;exact⟨by rw[dw];exact h8,fw hv (by split <;> exact⟨by decide,by decide⟩),hp,hl,by omega⟩
 | grow m =>
   simp only[Rw.run] at hr;split at hr
   . cases hr
   cases hr
   have:=g0 ok
   refine⟨h8,hv,λx hx=>?_,by rw[aab,aaB];omega,by omega⟩;rcases List.mem_append.mp hx with z | z
   . exact hp x z
   . rw[List.eq_of_mem_replicate z];exact⟨by decide,by decide⟩
 | shrink m =>
   simp only[Rw.run] at hr;split at hr
   . cases hr
   cases hr
   exact⟨h8,hv,λx hx=>hp x (abY hx),by rw[aaz];exact aaL (Nat.min_le_right _ _) hl,by omega⟩
 | put b c =>
   simp only[Rw.run] at hr;split at hr
   . cases hr
   cases hr
   exact⟨h8,hv,fw hp (fK hv _),by rw[dw];exact hl,by omega⟩
 | get b c =>
   simp only[Rw.run] at hr;split at hr
   . cases hr
   cases hr
   exact⟨by rw[dw];exact h8,fw hv (fK hp _),hp,hl,by omega⟩
 | dr t=>cases hr;exact⟨h8,hv,hp,hl,t0 ok⟩
 | branch b t=>cases hr;exact⟨h8,hv,hp,hl,by split;omega;exact t0 ok.2⟩
 | call t=>cases hr;exact⟨by rw[dw];exact h8,fw hv ⟨by omega,by omega⟩,hp,hl,t0 ok⟩
 | back b=>cases hr;exact⟨h8,hv,hp,hl,(fK hv _).1⟩
 | drop b=>cases hr
def aK (aU n:Int):Str:=if n=aU then "ended" else if 0<=n/\n<aU then "runs" else "fault"
abbrev Cl:=Int×Int×Int×Int×Int
structure MS where
 rows:List Rw
 av:Int
 held:List Int
 cells:List Int
 calls:List Cl
 di:V
 state:Str
def MS.mh (S:MS)(r:Rw):List Cl:=if r.isCall then S.calls++[(S.av+1,gI S.held 4,gI S.held 5,gI S.held 6,(S.cells.length:Int))] else if r.d_ then S.calls.take (S.calls.length - 1) else S.calls
def MS.bU (S:MS)(r:Rw):MS:=match r.run S.av S.held S.cells with
 | none=>{ S with state:="fault" }
 | some (n,bs,pl)=>if aK S.rows.length n = "fault" then { S with state:="fault" } else { S with av:=n,held:=bs,cells:=pl,calls:=S.mh r,state:=aK S.rows.length n }
abbrev vv:List Str:=["word_ahead_of","at","boxes","pile","word","book","fault","step","do","forget","go_on","drop","land"]
structure MF (fs:List (Str×V))(pc pt ph pl pk:Addr)(aU av:Int)(di:V)(state:Str):Prop where
 code:fs.lookup ("code" : Str)=some (.ref pc)
 table:fs.lookup ("table" : Str)=some (.ref pt)
 aU:fs.lookup ("home" : Str)=some (.int aU)
 av:fs.lookup ("coming" : Str)=some (.int av)
 held:fs.lookup ("held" : Str)=some (.ref ph)
 cells:fs.lookup ("cells" : Str)=some (.ref pl)
 calls:fs.lookup ("calls" : Str)=some (.ref pk)
 di:fs.lookup ("dropped" : Str)=some di
 state:fs.lookup ("state" : Str)=some (.str state)
 len:fs.length<=9
 no:∀ x:Str,x∈vv->fs.lookup x=none
theorem hV {f:Str}{v w:V}:∀ {fs:List (Str×V)},fs.lookup f=some w->(au f v fs).length=fs.length
 | [],h=>by cases h
 | (g, x) :: r, h => by
   by_cases e:g=f
   . show(if g = f then (g, v) :: r else (g, x) :: au f v r).length = _;rw[if_pos e];rfl
   . have hb : (f == g) = false := beq_eq_false_iff_ne.mpr (λz => e z.symm);rw[abf,hb] at h;show(if g=f then (g,v)::r else (g,x)::au f v r).length=_;rw[if_neg e,aaH,hV h];rfl
theorem MF.qu {fs:List (Str×V)}{f:Str}{v:V}(h:∀ x:Str,x∈vv->fs.lookup x=none)(hf:f ∉ vv):∀ x:Str,x∈vv->(au f v fs).lookup x=none:=λx hx=>g9 (λe=>hf (e ▸ hx)) (h x hx)
section
variable {fs:List (Str×V)} {pc pt ph pl pk:Addr} {aU av:Int} {di:V} {state:Str}
theorem MF.E_ (F:MF fs pc pt ph pl pk aU av di state)(n:Int):MF (au "coming" (.int n) fs) pc pt ph pl pk aU n di state :=
 ⟨aJ (by nofun) F.code,aJ (by nofun) F.table,aJ (by nofun) F.aU,cz,aJ (by nofun) F.held,aJ (by nofun) F.cells,aJ (by nofun) F.calls,aJ (by nofun) F.di,aJ (by nofun) F.state,by rw[hV F.av];exact F.len,MF.qu F.no (by nofun)⟩
theorem MF.L5 (F:MF fs pc pt ph pl pk aU av di state)(q:Addr):MF (au "held" (.ref q) fs) pc pt q pl pk aU av di state :=
 ⟨aJ (by nofun) F.code,aJ (by nofun) F.table,aJ (by nofun) F.aU,aJ (by nofun) F.av,cz,aJ (by nofun) F.cells,aJ (by nofun) F.calls,aJ (by nofun) F.di,aJ (by nofun) F.state,by rw[hV F.held];exact F.len,MF.qu F.no (by nofun)⟩
theorem MF.IK (F:MF fs pc pt ph pl pk aU av di state)(q:Addr):MF (au "cells" (.ref q) fs) pc pt ph q pk aU av di state :=
 ⟨aJ (by nofun) F.code,aJ (by nofun) F.table,aJ (by nofun) F.aU,aJ (by nofun) F.av,aJ (by nofun) F.held,cz,aJ (by nofun) F.calls,aJ (by nofun) F.di,aJ (by nofun) F.state,by rw[hV F.cells];exact F.len,MF.qu F.no (by nofun)⟩
theorem MF.setState (F:MF fs pc pt ph pl pk aU av di state)(t:Str):MF (au "state" (.str t) fs) pc pt ph pl pk aU av di t :=
 ⟨aJ (by nofun) F.code,aJ (by nofun) F.table,aJ (by nofun) F.aU,aJ (by nofun) F.av,aJ (by nofun) F.held,aJ (by nofun) F.cells,aJ (by nofun) F.calls,aJ (by nofun) F.di,cz,by rw[hV F.state];exact F.len,MF.qu F.no (by nofun)⟩
theorem MF.Oi (F:MF fs pc pt ph pl pk aU av di state)(v:V):MF (au "dropped" v fs) pc pt ph pl pk aU av v state :=
 ⟨aJ (by nofun) F.code,aJ (by nofun) F.table,aJ (by nofun) F.aU,aJ (by nofun) F.av,aJ (by nofun) F.held,aJ (by nofun) F.cells,aJ (by nofun) F.calls,cz,aJ (by nofun) F.state,by rw[hV F.di];exact F.len,MF.qu F.no (by nofun)⟩
end
theorem MF.start (pc pt ph pl pk:Addr)(aU av:Int)(st:Str):MF (au "state" (.str st) (au "dropped" .aC (au "calls" (.ref pk) (au "cells" (.ref pl) (au "held" (.ref ph) (au "coming" (.int av) (au "home" (.int aU) (au "table" (.ref pt) (au "code" (.ref pc) []))))))))) pc pt ph pl pk aU av .aC st:=by
 refine⟨?_,?_,?_,?_,?_,?_,?_,?_,?_,aL (aL (aL (aL (aL (aL (aL (aL (aL (aag 0))))))))),?_⟩
 . repeat first | exact cz | refine aJ (by nofun) ?_
 . repeat first | exact cz | refine aJ (by nofun) ?_
 . repeat first | exact cz | refine aJ (by nofun) ?_
 . repeat first | exact cz | refine aJ (by nofun) ?_
 . repeat first | exact cz | refine aJ (by nofun) ?_
 . repeat first | exact cz | refine aJ (by nofun) ?_
 . repeat first | exact cz | refine aJ (by nofun) ?_
 . repeat first | exact cz | refine aJ (by nofun) ?_
 . exact cz
 . repeat refine MF.qu ?_ (by nofun)
   exact λx _=>rfl
def sO (H:Hp)(v:V)(c:Cl):Prop:=∃ t k,v=.ref t/\H t=some (.tup [.int c.1,.ref k,.int c.2.2.2.2])/\H k=some (.tup [.int c.2.1,.int c.2.2.1,.int c.2.2.2.1])
def ClsAt (H:Hp)(vs:List V)(cs:List Cl):Prop:=vs.length=cs.length/\∀ (i:Nat) (v:V) (c:Cl),vs[i]? = some v->cs[i]? = some c->sO H v c
theorem sO.to {v:V}{c:Cl}(h:sO H v c)(k:∀ b xs,H b=some (.tup xs)->H' b=some (.tup xs)):sO H' v c:=let ⟨t,q,e,e1,e2⟩:=h;⟨t,q,e,k _ _ e1,k _ _ e2⟩
theorem ClsAt.to {cs:List Cl}(h:ClsAt H vs cs)(k:∀ b xs,H b=some (.tup xs)->H' b=some (.tup xs)):ClsAt H' vs cs:=⟨h.1,λi v c e1 e2=>(h.2 i v c e1 e2).to k⟩
theorem ClsAt.snoc {cs:List Cl}{v:V}{c:Cl}(h:ClsAt H vs cs)(q:sO H v c):ClsAt H (vs++[v]) (cs++[c]):=by
 refine⟨by rw[aab,aab,h.1];rfl,λi p' r' e1 e2=>?_⟩;by_cases hi:i<cs.length
 . rw[aas (by rw[h.1]; exact hi)] at e1;rw[aas hi] at e2;exact h.2 i p' r' e1 e2
 . have UH : i = cs.length := by
     have:=(List.getElem?_eq_some_iff.mp e2).1
     rw[aab] at this;simp at this;lia
   subst UH;rw[aaq (by lia)] at e2;rw[aaq (by rw[h.1];lia),h.1] at e1;simp at e1 e2;subst e1 e2;exact q
theorem ClsAt.take {cs:List Cl}(h:ClsAt H vs cs)(n:Nat):ClsAt H (vs.take n) (cs.take n):=by
 refine⟨by rw[aaz,aaz,h.1],λi v c e1 e2=>?_⟩;rw[List.getElem?_take] at e1 e2;split at e1
 . rename_i hi;rw[if_pos hi] at e2;exact h.2 i v c e1 e2
 . cases e1
def aQ (m k:Addr)(H H':Hp):Prop:=∀ b o,H b=some o->b≠m->b≠k->H' b=some o
variable {m:Addr}
theorem aQ.refl {k:Addr}:aQ m k H H:=λ_ _ e _ _=>e
theorem aQ.trans {k:Addr}{H1 H2:Hp}(h:aQ m k H H1)(g:aQ m k H1 H2):aQ m k H H2:=λb o e n1 n2=>g b o (h b o e n1 n2) n1 n2
theorem aQ.of_same {k:Addr}(h:ao H H'):aQ m k H H':=λb o e _ _=>h b o e
theorem aQ.m_ {k:Addr}(h:aQ m k H H'):aQ m k H (upd H' m o):=λb u e n1 n2=>by rw[ak n1];exact h b u e n1 n2
theorem aQ.Hw {k:Addr}(h:aQ m k H H'):aQ m k H (upd H' k o):=λb u e n1 n2=>by rw[ak n2];exact h b u e n1 n2
structure gc (a:bH)(H:Hp)(m pk dx pc pt ph pl:Addr)(fs:List (Str×V))(prs:List Addr)(cs:List V)(S:MS):Prop where
 hm:H m=some (.ins a.ax dx fs)
 f:MF fs pc pt ph pl pk S.rows.length S.av S.di S.state
 hc:H pc=some (.lst (prs.map V.ref))
 rows:bL a H prs S.rows
 hh:H ph=some (.lst (S.held.map V.int))
 hl:H pl=some (.lst (S.cells.map V.int))
 hk:H pk=some (.lst cs)
 calls:ClsAt H cs S.calls
 n1:pk≠pc
 n2:pk≠ph
 n3:pk≠pl
 n4:∀ p∈prs,p≠m
def cY (a:bH)(H:Hp)(m pk pt:Addr)(S:MS):Prop:=∃ dx pc ph pl fs prs cs,gc a H m pk dx pc pt ph pl fs prs cs S
structure c5 (S:MS):Prop where
 ok:∀ r∈S.rows,r.ok/\(r.dS=false->r.here)
 many:S.rows.length<=2000
 fM : 0<=S.av
 rC:S.state = "runs"->S.av<S.rows.length
 h8:S.held.length=8
 hv:∀ x∈S.held,isVal x
 cv:∀ x∈S.cells,isVal x
 cl:S.cells.length<=4000
 sk:PyData.strOk S.state=true
theorem DB (h n:Int):PyData.strOk (aK h n)=true:=by
 unfold aK
 repeat' split
 all_goals nofun
theorem zc:PyData.strOk "fault" = true:=by nofun
variable {aU:Int}
theorem QK (h : ¬ aK aU n = "fault"):n=aU∨(0<=n/\n<aU):=by
 unfold aK at h;split at h
 . rename_i e;exact .inl e
 . split at h
   . rename_i e;exact .inr e
   . exact absurd rfl h
theorem Pq:("ended" : Str) ≠ "runs":=by nofun
theorem oA:("fault" : Str) ≠ "runs":=by nofun
theorem Es (h:aK aU n = "runs") : 0<=n/\n<aU:=by
 unfold aK at h;split at h
 . exact absurd h Pq
 . split at h
   . assumption
   . exact absurd h oA
variable {S:MS}
theorem c5.bU (o:c5 S)(hr:r∈S.rows)(hn:S.av<S.rows.length):c5 (S.bU r):=by
 unfold MS.bU;split
 . exact⟨o.ok,o.many,o.fM,λz=>absurd z oA,o.h8,o.hv,o.cv,o.cl,zc⟩
 . rename_i n bs pl e;split
   . exact⟨o.ok,o.many,o.fM,λz=>absurd z oA,o.h8,o.hv,o.cv,o.cl,zc⟩
   . have hm := o.many;obtain⟨k1,k2,k3,k4,k5⟩:=Pm (o.ok r hr).1 o.fM (by lia) o.h8 o.hv o.cv o.cl e;exact⟨o.ok,o.many,k5,λz=>(Es z).2,k1,k2,k3,k4,DB _ _⟩
theorem c5.row (o:c5 S)(h:S.state = "runs"):∃ r,S.rows[S.av.toNat]? = some r/\r∈S.rows:=by
 have h1:=o.rC h;have h0:=o.fM;have hl:S.av.toNat<S.rows.length:=by omega
 exact⟨S.rows[S.av.toNat],aaa hl,aaY hl⟩
theorem En (S:MS)(r:Rw):(S.bU r).rows=S.rows:=by
 unfold MS.bU;split
 . rfl
 . split <;> rfl
theorem B0 (S:MS)(r:Rw):(S.bU r).calls.length<=S.calls.length+1:=by
 unfold MS.bU;split
 . exact abm _
 . split
   . exact abm _
   . show(S.mh r).length <= _;unfold MS.mh;split
     . rw[aab];exact aag _
     . split
       . rw[aaz];omega
       . exact abm _
def zf (K:W.Frag):Sp:=λvs H Q _=>∃ (p:Addr) (bs:List Int),vs=[.ref p]/\ar K H p (bs.map V.int)/\bs.length=8/\∀ t,H t=none->Q (.ref t) (upd H t (.tup [.int (gI bs 4),.int (gI bs 5),.int (gI bs 6)]))
theorem IE {K:W.Frag}{bs:List Int}(h:ar K H p (bs.map V.int))(h8:bs.length=8)(q:∀ t,H t=none->Q (.ref t) (upd H t (.tup [.int (gI bs 4),.int (gI bs 5),.int (gI bs 6)]))):zf K [.ref p] H Q E:=⟨p,bs,rfl,h,h8,q⟩
def RI (a:bH):Sp:=λvs H Q _=>∃ (m dx:Addr) (fs:List (Str×V)) (aU n:Int),vs=[.ref m,.int n]/\H m=some (.ins a.ax dx fs)/\fs.lookup ("home" : Str)=some (.int aU)/\Q (.str (aK aU n)) H
def Kv (a:bH)(f:Str):Sp:=λvs H Q _=>∃ (m dx:Addr) (fs:List (Str×V)) (v:V),vs=[.ref m]/\H m=some (.ins a.ax dx fs)/\fs.lookup f=some v/\Q v H
def FV (a:bH)(f:Str):Sp:=λvs H Q _=>∃ (m dx p:Addr) (fs:List (Str×V)) (xs:List V),vs=[.ref m]/\H m=some (.ins a.ax dx fs)/\fs.lookup f=some (.ref p)/\H p=some (.lst xs)/\∀ l,H l=none->Q (.ref l) (upd H l (.lst xs))
def OB (a:bH):Sp:=λvs H Q _=>∃ (m dx pc pt ph pl pk pb pp:Addr) (fs:List (Str×V)) (aU c n:Int) (d:V) (st:Str),vs=[.ref m,.int n,.ref pb,.ref pp]/\H m=some (.ins a.ax dx fs)/\MF fs pc pt ph pl pk aU c d st /\
 ∀ U7,MF U7 pc pt pb pp pk aU n d (aK aU n)->Q .aC (upd H m (.ins a.ax dx U7))
def IM (a:bH):Sp:=λvs H Q _=>∃ (m dx pk:Addr) (fs:List (Str×V)) (k:Int) (xs:List V),vs=[.ref m,.int k]/\H m=some (.ins a.ax dx fs)/\fs.lookup ("calls" : Str)=some (.ref pk)/\H pk=some (.lst xs)/\0<=k/\xs.length<=100000 /\
 ∀ H',H' pk=some (.lst (xs.take (xs.length - k.toNat)))->(∀ b,b≠pk->H' b=H b)->Q .aC H'
def RS (a:bH):Sp:=λvs H Q _=>∃ (m p pk pt:Addr) (r:Rw) (S:MS),vs=[.ref m,.ref p]/\cY a H m pk pt S/\c5 S/\bD a H p r/\r∈S.rows/\r.dS=false/\p≠m/\S.av<S.rows.length/\S.calls.length<=50000/\∀ H',aQ m pk H H'->cY a H' m pk pt (S.bU r)->Q .aC H'
def hJ (rs:List Rw)(bs:List Int)(start:Int):MS:=⟨rs,start,bs++[(rs.length:Int)],[],[((rs.length:Int),gI (bs++[(rs.length:Int)]) 4,gI (bs++[(rs.length:Int)]) 5,gI (bs++[(rs.length:Int)]) 6,0)],.aC,aK rs.length start⟩
def Ee (a:bH)(H:Hp)(t pk:Addr)(ev:List V)(kvs:List (Key×V)):Prop:=∃ dt l d,H t=some (.ins a.b3 dt (fR l d))/\H l=some (.lst ev)/\H d=some (.dK kvs)/\l≠pk
def Bc (a:bH)(H H':Hp)(t pk:Addr)(ev:List V)(kvs:List (Key×V)):Prop:=∃ dt l d,H' t=some (.ins a.b3 dt (fR l d))/\H' l=some (.lst ev)/\H' d=some (.dK kvs)/\l≠pk/\H l=none/\H d=none
def lU (a:bH):Sp:=λvs H Q _=>∃ (x dx c t b dt l d:Addr) (start:Int) (prs:List Addr) (rs:List Rw) (bs:List Int) (es:List V) (kvs:List (Key×V)),vs=[.ref x,.ref c,.ref t,.ref b,.int start]/\H x=some (.ins a.ax dx [])/\H c=some (.lst (prs.map V.ref))/\bL a H prs rs/\(∀ p∈prs,p≠x) /\
 H t=some (.ins a.b3 dt (fR l d))/\t≠x/\H l=some (.lst es)/\H d=some (.dK kvs)/\H b=some (.lst (bs.map V.int))/\bs.length=7/\rs.length<=2000 /\
 ∀ pk pc pt ph pl fs cs H',H pk=none->H pc=none->H ph=none->H pl=none->(∀ b o,H b=some o->b≠x->H' b=some o)->gc a H' x pk dx pc pt ph pl fs prs cs (hJ rs bs start)->Bc a H H' pt pk es kvs->Q .aC H'
variable {dx:Addr}
theorem NW {a:bH}{x c t b dt l d:Addr}{start:Int}{bs:List Int}{es:List V}{kvs:List (Key×V)}{R:VK}{E:XK}(hx:H x=none)(UW:H dx=none)(hc:H c=some (.lst (prs.map V.ref)))(hr:bL a H prs rs)
   (ht:H t=some (.ins a.b3 dt (fR l d))) (hl:H l=some (.lst es)) (hd:H d=some (.dK kvs)) (hb:H b=some (.lst (bs.map V.int))) (h7:bs.length=7) (hm:rs.length<=2000)
   (q:∀ pk pc pt ph pl fs cs H',H pk=none->H pc=none->H ph=none->H pl=none->ao H H'->gc a H' x pk dx pc pt ph pl fs prs cs (hJ rs bs start)->Bc a H H' pt pk es kvs->R .aC H'):lU a [.ref x,.ref c,.ref t,.ref b,.int start] (upd (upd H dx (.own x)) x (.ins a.ax dx [])) R E:=by
 have up:∀ {b:Addr} {o:HO},H b=some o->upd (upd H dx (.own x)) x (.ins a.ax dx []) b=some o:=λ{b o} e=>by rw[ak (ag e hx),ak (ag e UW)];exact e
 refine⟨x,dx,c,t,b,dt,l,d,start,prs,rs,bs,es,kvs,rfl,aa,up hc,hr.to (λp _ o e=>up e),λp hp=>?_,up ht,ag ht hx,up hl,up hd,up hb,h7,hm,λpk pc pt ph pl fs cs H' n1 n2 n3 n4 kp M TT=>?_⟩
 . obtain⟨r, _, dxr, e⟩ := hr.mem hp;exact ag e hx
 . have dn : ∀ {b : Addr}, upd (upd H dx (.own x)) x (.ins a.ax dx []) b = none -> H b = none := λe => (bw (bw e).1).1;exact q pk pc pt ph pl fs cs H' (dn n1) (dn n2) (dn n3) (dn n4) (λb o e=>kp b o (up e) (ag e hx)) M (by obtain⟨dt',l',d',t1,t2,t3,t4,t5,t6⟩:=TT;exact⟨dt',l',d',t1,t2,t3,t4,dn t5,dn t6⟩)
section
variable {a:bH} {H H1:Hp} {m pk dx pc pt ph pl:Addr} {fs:List (Str×V)} {prs:List Addr} {cs:List V} {S:MS}
theorem gc.we (M:gc a H m pk dx pc pt ph pl fs prs cs S)(kp:aQ m pk H H1){o1:List (Str×V)}{b' p':Addr}{U7:List (Str×V)}{cs':List V}{calls':List Cl}{n:Int}{bs pp:List Int}{st:Str}{d':V}(hmm:H1 m=some (.ins a.ax dx o1))
   (hb:H1 b'=some (.lst (bs.map V.int))) (hp:H1 p'=some (.lst (pp.map V.int))) (hk:H1 pk=some (.lst cs')) (T_:ClsAt H1 cs' calls') (nb:pk≠b') (np:pk≠p') (F':MF U7 pc pt b' p' pk S.rows.length n d' st) :
   gc a (upd H1 m (.ins a.ax dx U7)) m pk dx pc pt b' p' U7 prs cs' ⟨S.rows,n,bs,pp,calls',d',st⟩:=by
 have kn:∀ {b:Addr} {xs:List V},H1 b=some (.lst xs)->b≠m:=λ{b xs} e z=>by subst z;rw[hmm] at e;cases e
 have kt:∀ {b:Addr} {xs:List V},H1 b=some (.tup xs)->b≠m:=λ{b xs} e z=>by subst z;rw[hmm] at e;cases e
 have c1:pc≠m:=λz=>by have e:=M.hc;rw[z,M.hm] at e;cases e
 refine⟨aa,F',?_,?_,?_,?_,?_,?_,M.n1,nb,np,M.n4⟩
 . rw[ak c1];exact kp _ _ M.hc c1 M.n1.symm
 . refine M.rows.to λp h o e=>?_;have q1:=M.n4 p h;rw[ak q1];refine kp _ _ e q1 λz=>?_;obtain⟨r,_,dxr,e2⟩:=M.rows.mem h;have e3:=M.hk;rw[<- z,e2] at e3;cases e3
 . rw[ak (kn hb)];exact hb
 . rw[ak (kn hp)];exact hp
 . rw[ak (kn hk)];exact hk
 . exact T_.to λb xs e=>by rw[ak (kt e)];exact e
theorem gc.clsAt (M:gc a H m pk dx pc pt ph pl fs prs cs S)(kp:aQ m pk H H1):ClsAt H1 cs S.calls:=M.calls.to λb xs e=>kp b _ e (λz=>by have q:=M.hm;rw[<- z,e] at q;cases q) (λz=>by have q:=M.hk;rw[<- z,e] at q;cases q)
theorem gc.Q4 (M:gc a H m pk dx pc pt ph pl fs prs cs S):ph≠m:=λz=>by have e:=M.hh;rw[z,M.hm] at e;cases e
theorem gc.QV (M:gc a H m pk dx pc pt ph pl fs prs cs S):pl≠m:=λz=>by have e:=M.hl;rw[z,M.hm] at e;cases e
theorem gc.QO (M:gc a H m pk dx pc pt ph pl fs prs cs S):pk≠m:=λz=>by have e:=M.hk;rw[z,M.hm] at e;cases e
theorem gc.qT (M:gc a H m pk dx pc pt ph pl fs prs cs S)(s:ao H H1)(t:Str):cY a (upd H1 m (.ins a.ax dx (au "state" (.str t) fs))) m pk pt { S with state:=t } :=
 ⟨dx,pc,ph,pl,_,prs,cs,M.we (aQ.of_same s) (s _ _ M.hm) (s _ _ M.hh) (s _ _ M.hl) (s _ _ M.hk) (M.clsAt (aQ.of_same s)) M.n2 M.n3 (M.f.setState t)⟩
theorem gc.to (M:gc a H m pk dx pc pt ph pl fs prs cs S)(s:ao H H1):gc a H1 m pk dx pc pt ph pl fs prs cs S :=
 ⟨s _ _ M.hm,M.f,s _ _ M.hc,M.rows.same s,s _ _ M.hh,s _ _ M.hl,s _ _ M.hk,M.clsAt (aQ.of_same s),M.n1,M.n2,M.n3,M.n4⟩
theorem cY.to (M:cY a H m pk pt S)(s:ao H H1):cY a H1 m pk pt S:=by
 obtain⟨dx,pc,ph,pl,fs,prs,cs,M⟩:=M;exact⟨dx,pc,ph,pl,fs,prs,cs,s _ _ M.hm,M.f,s _ _ M.hc,M.rows.same s,s _ _ M.hh,s _ _ M.hl,s _ _ M.hk,M.clsAt (aQ.of_same s),M.n1,M.n2,M.n3,M.n4⟩
end
def Pn (c:Cl):PyData:=.tuple [.int c.1,.tuple [.int c.2.1,.int c.2.2.1,.int c.2.2.2.1],.int c.2.2.2.2]
theorem sO.dp {K:W.Frag}{v:V}{c:Cl}(h:sO H v c):Dp K H (Pn c) v:=by
 obtain⟨t,k,rfl,h1,h2⟩:=h;exact gv (aI.of h1) (aT (cH _) (aT (gv (aI.of h2) (aT (cH _) (aT (cH _) (aT (cH _) cK)))) (aT (cH _) cK)))
theorem ClsAt.dp {K:W.Frag}:∀ {vs:List V} {cs:List Cl},ClsAt H vs cs->eI K H (cs.map Pn) vs
 | [],[],_=>cK
 | [],_::_,h=>by have:=h.1;simp at this
 | _::_,[],h=>by have:=h.1;simp at this
 | v :: vs, c :: cs, h => by
   refine aT (h.2 0 v c rfl rfl).dp (ClsAt.dp (vs:=vs) (cs:=cs) ⟨by simpa using h.1,λi u d e1 e2=>?_⟩);exact h.2 (i+1) u d (by simpa using e1) (by simpa using e2)
theorem ClsAt.rev {cs:List Cl}(h:ClsAt H vs cs):ClsAt H vs.reverse cs.reverse:=by
 refine⟨by rw[aa8,aa8,h.1],λi v c e1 e2=>?_⟩;have hi:i<vs.length:=by
   have:=(List.getElem?_eq_some_iff.mp e1).1
   rwa [aa8] at this
 rw[adl hi] at e1;rw[adl (by rw[<- h.1];exact hi),<- h.1] at e2;exact h.2 _ v c e1 e2
def Ou (a:bH):Sp:=λvs H Q _=>∃ (m dx pk:Addr) (fs:List (Str×V)) (cs:List V),vs=[.ref m]/\H m=some (.ins a.ax dx fs)/\fs.lookup ("calls" : Str)=some (.ref pk)/\H pk=some (.lst cs)/\∀ l,H l=none->Q (.ref l) (upd H l (.lst cs.reverse))
def TabAt (K:W.Frag)(a:bH)(H:Hp)(t pk:Addr)(es:List (Option Ent))(kvs:List (Key×V)):Prop:=∃ ev,Ee a H t pk ev kvs/\bK K H ev es
variable {C:Addr}
theorem aI.kept {K:W.Frag}{k:Addr}{fs:List (Str×V)}(h:aQ m k H H')(hm:H m=some (.ins C dx fs))(hk:H k=some (.lst xs))(q:aI K H p ys):aI K H' p ys:=by
 rcases q with (q | ⟨o,q⟩) | q
 . exact .inl (.inl (h _ _ q (λz=>by rw[z,hm] at q;cases q) (λz=>by rw[z,hk] at q;cases q)))
 . exact .inl (.inr ⟨o,h _ _ q (λz=>by rw[z,hm] at q;cases q) (λz=>by rw[z,hk] at q;cases q)⟩)
 . exact .inr q
theorem bK.kept {K:W.Frag}{k:Addr}{fs:List (Str×V)}(h:aQ m k H H')(hm:H m=some (.ins C dx fs))(hk:H k=some (.lst xs))(q:bK K H vs es):bK K H' vs es:=by
 refine⟨q.1,λi oe e=>?_⟩;obtain⟨v,e1,e2⟩:=q.2 i oe e;refine⟨v,e1,?_⟩;cases oe with
 | none=>exact e2
 | some en =>
   obtain⟨p,rfl,qq,h1,h2⟩:=e2;exact⟨p,rfl,qq,aI.kept h hm hk h1,aI.kept h hm hk h2⟩
variable {kvs:List (Key×V)} {t:Addr}
theorem Ee.ne {a:bH}{fs:List (Str×V)}{ev:List V}{v:V}(T:Ee a H t pk ev kvs)(hm:H m=some (.ins a.ax dx fs))(hf:fs.lookup ("code" : Str)=some v):t≠m:=λz=>by
 obtain⟨dt,l,d,h1,_⟩:=T;rw[z,hm] at h1;injection h1 with h1;injection h1 with _ _ h1;subst h1;rw[show(fR l d).lookup ("code" : Str)=none from g9 (by nofun) (g9 (by nofun) rfl)] at hf;cases hf
theorem TabAt.kept {K:W.Frag}{a:bH}{pq:Addr}(T:TabAt K a H t pk es kvs)(M:cY a H m pk pq S)(k:aQ m pk H H'):TabAt K a H' t pk es kvs:=by
 obtain⟨ev,TI,E⟩:=T;obtain⟨dx,pc,ph,pl,fs,prs,cs,M⟩:=M;have tm:=TI.ne M.hm M.f.code;obtain⟨dt,l,d,h1,h2,h3,h4⟩:=TI;refine⟨ev,⟨dt,l,d,k _ _ h1 tm (λz=>by rw[z,M.hk] at h1;cases h1),k _ _ h2 (λz=>by rw[z,M.hm] at h2;cases h2) h4,k _ _ h3 (λz=>by rw[z,M.hm] at h3;cases h3) (λz=>by rw[z,M.hk] at h3;cases h3),h4⟩,E.kept k M.hm M.hk⟩
theorem TabAt.same {K:W.Frag}{a:bH}(T:TabAt K a H t pk es kvs)(s:ao H H'):TabAt K a H' t pk es kvs:=by
 obtain⟨ev,⟨dt,l,d,h1,h2,h3,h4⟩,E⟩:=T;exact⟨ev,⟨dt,l,d,s _ _ h1,s _ _ h2,s _ _ h3,h4⟩,E.same s⟩
def Af (kvs:List (Key×V)):Prop:=∀ k v,cP kvs k=some v->∃ i:Int,v=.int i
def vA (kvs:List (Key×V))(c:bM):Option Int:=match cP kvs (.inl (c.r - 1)) with | some (.int n)=>some n | _=>none
def landAt (aU:Int)(kvs:List (Key×V))(c:bM):Bool:=decide (c.r≠aU) && (cP kvs (.inl (c.r - 1))).isSome
def MS.landed (S : MS)(v : Int)(c : bM)(k : Nat)(n : Int) : MS := if aK S.rows.length n = "fault" then { S with state := "fault" } else
 ⟨S.rows,n,[v,gI S.held 1,gI S.held 2,gI S.held 3,c.a,c.b,c.c,gI S.held 7],S.cells.take c.n.toNat,S.calls.take (S.calls.length - k),S.di,aK S.rows.length n⟩
def MS.dropped (S:MS)(es:List (Option Ent))(kvs:List (Key×V))(v:Int):MS :=
 match (bq es 5000 S.av (S.held.map V.int) S.cells).2 with
 | some _=>{ S with state:="fault" }
 | none => match (bq es 5000 S.av (S.held.map V.int) S.cells).1.findIdx? (landAt S.rows.length kvs) with
   | none=>{ S with state:="dropped",di:=.int v }
   | some i => match (bq es 5000 S.av (S.held.map V.int) S.cells).1[i]? with
     | none=>S
     | some c => match vA kvs c with
       | none=>S
       | some n=>S.landed v c (i+1) n
def MS.ek (S:MS)(es:List (Option Ent))(kvs:List (Key×V)):Rw->MS
 | .drop b=>S.dropped es kvs (gI S.held b)
 | r=>S.bU r
theorem Dd (h:r.dS=false):S.ek es kvs r=S.bU r:=by cases r <;> first | rfl | cases h
def MS.bV (S:MS)(es:List (Option Ent))(kvs:List (Key×V)):MS:=if S.state = "runs" then (match S.rows[S.av.toNat]? with | none=>S | some r=>S.ek es kvs r) else S
theorem xq (h:S.state ≠ "runs"):S.bV es kvs=S:=by unfold MS.bV;rw[if_neg h]
theorem sS (h:S.state = "runs")(hr:S.rows[S.av.toNat]? = some r):S.bV es kvs=S.ek es kvs r:=by unfold MS.bV;rw[if_pos h,hr]
theorem zV {v:Int}(h:(bq es 5000 S.av (S.held.map V.int) S.cells).2=none)(hf:(bq es 5000 S.av (S.held.map V.int) S.cells).1.findIdx? (landAt S.rows.length kvs)=none):S.dropped es kvs v={ S with state:="dropped",di:=.int v }:=by unfold MS.dropped;rw[h];dsimp only;rw[hf]
theorem BE {v n:Int}{i:Nat}(h:(bq es 5000 S.av (S.held.map V.int) S.cells).2=none)(hf:(bq es 5000 S.av (S.held.map V.int) S.cells).1.findIdx? (landAt S.rows.length kvs)=some i)(hc:(bq es 5000 S.av (S.held.map V.int) S.cells).1[i]? = some c)
   (hv:cP kvs (.inl (c.r - 1))=some (.int n)):S.dropped es kvs v=S.landed v c (i+1) n:=by
 unfold MS.dropped;rw[h];dsimp only;rw[hf];dsimp only;rw[hc];dsimp only;rw[show vA kvs c=some n from by unfold vA;rw[hv]]
def Mx (K:W.Frag)(a:bH):Sp:=λvs H Q _=>∃ (m pk pt t:Addr) (v n:Int) (k:Nat) (c:bM) (S:MS) (es:List (Option Ent)) (kvs:List (Key×V)),vs=[.ref m,.int v,.ref t,.int (k:Int)]/\cY a H m pk pt S/\c5 S/\TabAt K a H pt pk es kvs/\iO H (.ref t) c/\0<=c.n /\
 S.calls.length<=50000/\cP kvs (.inl (c.r - 1))=some (.int n)/\∀ H',aQ m pk H H'->cY a H' m pk pt (S.landed v c k n)->Q .aC H'
def MJ (K:W.Frag)(a:bH):Sp:=λvs H Q _=>∃ (m pk pt:Addr) (v:Int) (S:MS) (es:List (Option Ent)) (kvs:List (Key×V)),vs=[.ref m,.int v]/\cY a H m pk pt S/\c5 S/\TabAt K a H pt pk es kvs/\Af kvs/\S.av<S.rows.length /\
 S.calls.length<=50000/\∀ H',aQ m pk H H'->cY a H' m pk pt (S.dropped es kvs v)->Q .aC H'
def KU (K:W.Frag)(a:bH):Sp:=λvs H Q _=>∃ (m pk pt:Addr) (S:MS) (es:List (Option Ent)) (kvs:List (Key×V)),vs=[.ref m]/\cY a H m pk pt S/\c5 S/\TabAt K a H pt pk es kvs/\Af kvs /\
 S.calls.length<=50000/\∀ H',aQ m pk H H'->cY a H' m pk pt (S.bV es kvs)->Q .aC H'
theorem a8.kept {fs:List (Str×V)}(kp:aQ m pk H H')(hm:H m=some (.ins C dx fs))(hk:H pk=some (.lst xs)):∀ {vs:List V} {cs:List bM},a8 H vs cs->a8 H' vs cs
 | [],[],_=>aan
 | [],_::_,h=>h.elim
 | _::_,[],h=>h.elim
 | v :: vs, c :: cs, h => by
   have kt:∀ b xs,H b=some (.tup xs)->H' b=some (.tup xs):=λb xs e=>kp b _ e (λz=>by rw[z,hm] at e;cases e) (λz=>by rw[z,hk] at e;cases e);obtain⟨⟨t,q,e,h1,h2⟩,h3⟩:=h;exact⟨⟨t,q,e,kt _ _ h1,kt _ _ h2⟩,a8.kept kp hm hk h3⟩
def MS.walk (S:MS)(es:List (Option Ent)):List bM×Option Int:=bq es 5000 S.av (S.held.map V.int) S.cells
def zO (v:V):Prop:=∀ i,v=.int i->isVal i
theorem tE {kn:List V}(hk:∀ v∈kn,zO v)(hp:∀ x∈pc,isVal x):zO (bt s kn pc):=by
 unfold bt;split
 . intro i e;cases e
 . split
   . intro i e;rw[aar] at e;cases h:kn[(lowP s).toNat]? with
     | none=>rw[h] at e;cases e
     | some v=>rw[h] at e;exact hk v (aak h) i e
   . split
     . intro i e;injection e with e;subst e;exact fK hp _
     . intro i e;cases e
theorem N8 (h1:isVal c.a)(h2:isVal c.b)(h3:isVal c.c):∀ v∈iq c,zO v:=λv hv i e=>by
 simp only[iq,aaQ,aaS,or_false] at hv;rcases hv with rfl | rfl | rfl | rfl | rfl | rfl | rfl | rfl
 all_goals first | cases e | skip
 all_goals assumption
theorem Ax {v:V}(h:vi v=some i):v=.int i:=by
 cases v with
 | int j=>injection h with h;rw[h]
 | _=>cases h
theorem Lw {kn:List V}{pl:List Int}(hk:∀ v∈kn,zO v)(hp:∀ x∈pl,isVal x)(h:gF e kn pl=some c):isVal c.a/\isVal c.b/\isVal c.c:=by
 have hd:∀ x∈pl.drop ((pl.length:Int) - e.h).toNat,isVal x:=λx hx=>hp x (List.mem_of_mem_drop hx);unfold gF at h;split at h
 . rename_i r x y z h1 h2 h3 h4;cases h
   exact⟨tE hk hd _ (Ax h2),tE hk hd _ (Ax h3),tE hk hd _ (Ax h4)⟩
 . cases h
theorem Jh {kn:List V}{pl:List Int}(hk:∀ v∈kn,zO v)(hp:∀ x∈pl,isVal x)(h:dX es at' kn pl=some c):isVal c.a/\isVal c.b/\isVal c.c/\0<=c.n:=by
 unfold dX at h;split at h
 . unfold Fq at h;split at h
   . cases h
   . rename_i e _;split at h
     . rename_i hh;obtain⟨h1,h2,h3⟩:=Lw hk hp h;refine⟨h1,h2,h3,?_⟩;unfold gF at h;split at h
       . cases h
         show 0<=(pl.length:Int) - e.h
         lia
       . cases h
     . cases h
 . cases h
theorem AM:∀ (f:Nat) (at':Int) (kn:List V) (pl:List Int),(∀ v∈kn,zO v)->(∀ x∈pl,isVal x)->∀ c∈(bq es f at' kn pl).1,isVal c.a/\isVal c.b/\isVal c.c/\0<=c.n
 | 0,at',kn,pl,_,_,c,hc=>by rw[bq] at hc;cases hc
 | f + 1, at', kn, pl, hk, hp, c, hc => by
   rw[bq] at hc;split at hc
   . cases hc
   . split at hc
     . cases hc
     . rename_i d hd;obtain⟨h1,h2,h3,h4⟩:=Jh hk hp hd;rcases List.mem_cons.mp hc with rfl | hc
       . exact⟨h1,h2,h3,h4⟩
       . exact AM f d.r (iq d) (pl.take d.n.toNat) (N8 h1 h2 h3) (λx hx=>hp x (abY hx)) c hc
theorem BH:∀ (f:Nat) (at':Int) (kn:List V) (pl:List Int),(bq es f at' kn pl).1.length<=f
 | 0,at',kn,pl=>by rw[bq];exact aag 0
 | f + 1, at', kn, pl => by
   rw[bq];split
   . exact aaU _
   . split
     . exact aaU _
     . exact adb (BH f _ _ _)
theorem K_ {bs:List Int}(h:∀ x∈bs,isVal x):∀ v∈bs.map V.int,zO v:=λv hv i e=>by
 obtain⟨x,hx,rfl⟩:=List.mem_map.mp hv;injection e with e;subst e;exact h x hx
theorem c5.walk (o:c5 S)(es:List (Option Ent)):∀ c∈(S.walk es).1,isVal c.a/\isVal c.b/\isVal c.c/\0<=c.n:=AM 5000 _ _ _ (K_ o.hv) o.cv
theorem c5.kn (o : c5 S) : tO (S.held.map V.int) := ⟨by rw[aac]; exact o.h8, λv hv => by
 obtain⟨x,hx,rfl⟩:=List.mem_map.mp hv
 have:=o.hv x hx
 exact .inr ⟨x,rfl,by have:=this.1;lia,by have:=this.2;lia⟩⟩
theorem c5.pl (o:c5 S):fN S.cells:=λx hx=>by
 have:=o.cv x hx
 exact⟨by have:=this.1;lia,by have:=this.2;lia⟩
structure Cn where
 P:Program
 w:World
 K:W.Frag
 mg:Str->Option Value
 base:Heap
 a:bH
def Cn.Good (c:Cn):Prop:=∀ (fa:Addr) (fd:aa4),Txt c.K c.mg c.a->ee c.K "law" "law" gy fa fd->c7 c.P c.w c.K c.mg c.base cb 10 fa fd ["_law_script"] (qD c.K)
theorem Cn.some:Nonempty Cn:=⟨⟨PySem.Challenge.pw_frameback_k91_whole_the_reader_tells_the,⟨λ_ _=>0,{ strHash:=λ_=>0,shareClass:=λ_=>0,mergeTok:=id,idOf:=λ_=>0,idOfShared:=λ_ _=>0,followText:=λ_=>true,idOfImm:=λ_=>0 }⟩,[],λ_=>none,Classical.choice inferInstance,by constructor <;> exact(0:Nat)⟩⟩
noncomputable def cn:Cn:=@Classical.epsilon Cn Cn.some λc=>¬ c.Good
@[irreducible] noncomputable def P:Program:=cn.P
@[irreducible] noncomputable def w:World:=cn.w
@[irreducible] noncomputable def K:W.Frag:=cn.K
@[irreducible] noncomputable def mg:Str->Option Value:=cn.mg
@[irreducible] noncomputable def base:Heap:=cn.base
@[irreducible] noncomputable def a:bH:=cn.a
theorem NR (h:∀ (fa:Addr) (fd:aa4),Txt K mg a->ee K "law" "law" gy fa fd->c7 P w K mg base cb 10 fa fd ["_law_script"] (qD K))(c:Cn):c.Good:=by
 delta P w K mg base a at h
 exact Classical.byContradiction λhn=>(@Classical.epsilon_spec Cn (λc=>¬ c.Good) ⟨c,hn⟩) h
abbrev FE:=iJ P w K mg base cb
abbrev ME:=mV P w K mg base cb
abbrev KE:=CS P w K mg base cb
abbrev TX:=Txt K mg a
local macro_rules | `(tactic| walk_at "lk") => `(tactic| with_reducible assumption)
local macro_rules | `(tactic| walk_at "nolk") => `(tactic| with_reducible assumption)
local macro_rules | `(tactic| walk_at "fewf") => `(tactic| first | exact aaG (by assumption) (by decide : 9 < 1000) | exact aaG (aL (by assumption)) (by decide : 9 + 1 < 1000) | exact aaG (aL (aL (by assumption))) (by decide : 9 + 1 + 1 < 1000) | exact aaG (aL (aL (aL (by assumption)))) (by decide : 9 + 1 + 1 + 1 < 1000) | exact aaG (aL (aL (aL (aL ((aag 0)))))) (by decide) | exact aaG (aL (aL (aL (aL (aL ((aag 0))))))) (by decide) | exact aaG (aL (aL (aL (aL (aL (aL ((aag 0)))))))) (by decide) | exact aaG (aL (aL (aL (aL (aL (aL (aL ((aag 0))))))))) (by decide) | exact aaG (aL (aL (aL (aL (aL (aL (aL (aL ((aag 0)))))))))) (by decide) | exact aaG (aL (aL (aL (aL (aL (aL (aL (aL (aL ((aag 0))))))))))) (by decide))
set_option hygiene false
local macro_rules | `(tactic| walk_at "in") => `(tactic| ((focus (intro vs H Q E h; (repeat (first | (refine exE8 h ?_; clear h; intro _ _ _ _ _ _ _ _ h) | (refine exE4 h ?_; clear h; intro _ _ _ _ h) | (refine exE2 h ?_; clear h; intro _ _ h) | (refine Exists.elim h ?_; clear h; intro _ h))); first | exact congrArg List.length h.1 | exact congrArg List.length h | ((repeat (obtain ⟨_, h⟩ := h)); subst_vars; rfl))); intro f S0 A outer s H vs Q E hr h))
set_option hygiene true
set_option hygiene false
local macro_rules | `(tactic| walk_at "t0") => `(tactic| first | (refine' fq ?_;walk_at "tS") | (refine' aW ?_ ?_;walk_at "tS";walk_at "tB"))
local macro_rules | `(tactic| walk_at "tB") => `(tactic| first | ((with_reducible refine' fq ?_);walk_at "tS") | ((with_reducible refine' aW ?_ ?_);walk_at "tS";walk_at "tB") | exact cL)
local macro_rules | `(tactic| walk_at "tS") => `(tactic| first
 | ((with_reducible refine' iE ?_);walk_at"tE")
 | ((with_reducible refine' J9 ?_ ?_ ?_);walk_at"tT";walk_at"tB";walk_at"tB")
 | ((with_reducible refine' c8 ?_ ?_ ?_ ?_ ?_ ?_);walk_at"tn";walk_at"ti";walk_at"tl";walk_at"tE";exact rfl;walk_at"tl")
 | ((with_reducible refine' vY ?_ ?_ ?_ ?_);walk_at"tk";walk_at"tE";walk_at"tE";exact rfl)
 | ((with_reducible refine' fZ ?_ ?_);walk_at"tE";exact rfl)
 | ((with_reducible refine' MY ?_ ?_ ?_ ?_ ?_);walk_at"tE";walk_at"tG";exact rfl;exact rfl;exact rfl)
 | ((with_reducible refine' Bj ?_ ?_ ?_ ?_ ?_ ?_);exact acx;exact rfl;walk_at"tI";walk_at"tG";walk_at"tB";exact λ_=>rfl)
 | ((with_reducible refine' jX ?_ ?_ ?_);exact acx;walk_at"tT";walk_at"tB")
 | (with_reducible exact CJ)
 )
local macro_rules | `(tactic| walk_at "tI") => `(tactic| first
 | ((with_reducible refine' Ow (mg:=mg) ?_ ?_ ?_ ?_ ?_);exact rfl;walk_at"t3";exact rfl;walk_at"tA";exact rfl)
 | ((with_reducible refine' O2 (mg:=mg) ?_ ?_ ?_ ?_ ?_ ?_);exact rfl;walk_at"t3";exact rfl;walk_at"tA";exact rfl;exact rfl)
 | ((with_reducible refine' dP ?_ ?_);walk_at"tk";walk_at"tE"))
local macro_rules | `(tactic| walk_at "tG") => `(tactic| first
 | ((with_reducible refine' bS ?_ ?_ ?_ ?_);walk_at"tn";walk_at"ti";walk_at"tl";walk_at"tl")
 | ((with_reducible refine' wO ?_ ?_ ?_ ?_ ?_);walk_at"tk";exact rfl;walk_at"tH";exact rfl;exact rfl)
 | ((with_reducible refine' NB ?_ ?_ ?_ ?_);walk_at"tE";walk_at"tE";exact set_list;exact λ_=>rfl))
local macro_rules | `(tactic| walk_at "tH") => `(tactic| first
 | (with_reducible exact vU)
 | ((with_reducible refine' jG ?_ ?_ ?_);walk_at"tG";walk_at"tH";exact rfl))
local macro_rules | `(tactic| walk_at "tA") => `(tactic| first
 | ((with_reducible refine' aj ?_ ?_ ?_);walk_at"tE";walk_at"tA";exact rfl)
 | (with_reducible exact aD))
local macro_rules | `(tactic| walk_at "tT") => `(tactic| first
 | ((with_reducible refine' dO ?_ ?_ ?_ ?_);walk_at"tc";walk_at"tE";walk_at"tE";exact rfl)
 | ((with_reducible refine' NL ?_ ?_);walk_at"tT";walk_at"tW")
 | ((with_reducible refine' Ql ?_ ?_);walk_at"tT";walk_at"tW")
 | ((with_reducible refine' Np ?_);walk_at"tT")
 | ((with_reducible refine' De ?_ ?_ ?_);walk_at"tk";walk_at"tE";exact λ_=>rfl))
local macro_rules | `(tactic| walk_at "tW") => `(tactic| first
 | ((with_reducible refine' l6 ?_);walk_at"tT")
 | ((with_reducible refine' Gm ?_);walk_at"tT")
 | ((with_reducible refine' lX ?_ ?_);walk_at"tT";walk_at"tW")
 | ((with_reducible refine' EU ?_ ?_);walk_at"tT";walk_at"tW"))
local macro_rules | `(tactic| walk_at "tP") => `(tactic| first
 | (with_reducible exact LS)
 | ((with_reducible refine' LM ?_);walk_at"tE"))
local macro_rules | `(tactic| walk_at "tE") => `(tactic| first
 | ((with_reducible refine' FY ?_ ?_ ?_ ?_);walk_at"ti";walk_at"tl";exact Eq.refl false;exact Eq.refl false)
 | (with_reducible exact aX)
 | ((with_reducible refine' cQ ?_ ?_ ?_);walk_at"tc";walk_at"tE";walk_at"tE")
 | ((with_reducible refine' cB ?_ ?_ ?_ ?_);walk_at"tc";walk_at"tE";walk_at"tE";exact λ_ _=>rfl)
 | ((with_reducible refine' PY (P:=P) (w:=w) (K:=K) (mg:=mg) (base:=base) ?_ ?_ ?_ ?_ ?_ ?_ ?_ ?_);rotate_left 1;exact⟨rfl,rfl,rfl,rfl,rfl⟩;walk_at"t3";walk_at"th";exact rfl;walk_at"tA";exact Eq.refl false;exact rfl;exact rfl)
 | ((with_reducible refine' cD ?_ ?_ ?_);walk_at"tk";walk_at"tE";exact rfl)
 | (with_reducible exact gP)
 | ((with_reducible refine' pO ?_);walk_at"tA")
 | ((with_reducible refine' lI ?_);walk_at"tA")
 | ((with_reducible refine' OV (mg:=mg) ?_ ?_ ?_ ?_ ?_ ?_ ?_ ?_ ?_ ?_);rotate_left 1;exact rfl;walk_at"t3";walk_at"t3";walk_at"tc";exact rfl;walk_at"tA";exact Eq.refl false;decide;exact rfl;exact rfl)
 | (with_reducible exact j7)
 | (with_reducible exact J3)
 | ((with_reducible refine' NI (mg:=mg) ?_ ?_ ?_ ?_ ?_ ?_ ?_ ?_ ?_ ?_);rotate_left 1;exact rfl;walk_at"t3";walk_at"t3";walk_at"tc";exact rfl;walk_at"tA";exact Eq.refl false;decide;exact rfl;exact rfl)
 | ((with_reducible refine' NY (P:=P) (w:=w) (K:=K) (mg:=mg) (base:=base) ?_ ?_ ?_ ?_ ?_ ?_ ?_ ?_);rotate_left 1;exact⟨rfl,rfl,rfl,rfl,rfl⟩;walk_at"t3";walk_at"th";exact rfl;walk_at"tA";exact Eq.refl false;exact rfl;exact rfl)
 | ((with_reducible refine' K1 ?_ ?_ ?_ ?_ ?_ ?_ ?_ ?_);walk_at"tk";walk_at"tE";walk_at"tA";exact rfl;exact rfl;exact rfl;exact rfl;exact rfl)
 | ((with_reducible refine' MX (P:=P) (w:=w) (K:=K) (mg:=mg) (base:=base) ?_ ?_ ?_ ?_ ?_ ?_ ?_ ?_);rotate_left 1;walk_at"t3";exact⟨rfl,rfl,rfl,rfl,rfl⟩;walk_at"tE";walk_at"th";walk_at"tA";exact rfl;exact rfl;exact rfl)
 | ((with_reducible refine' K0 (P:=P) (w:=w) (K:=K) (mg:=mg) (base:=base) ?_ ?_ ?_ ?_ ?_);rotate_left 1;walk_at"t3";exact⟨rfl,rfl,rfl,rfl,rfl⟩;walk_at"tE";walk_at"th";exact rfl)
 | ((with_reducible refine' IF ?_ ?_ ?_ ?_);walk_at"tc";walk_at"tE";walk_at"tP";walk_at"tP")
 | ((with_reducible refine' wL ?_ ?_ ?_ ?_);walk_at"tc";walk_at"tE";walk_at"tE";exact rfl)
 | ((with_reducible refine' M3 (mg:=mg) ?_ ?_ ?_ ?_);exact rfl;walk_at"t3";exact rfl;exact Eq.refl false)
 | ((with_reducible refine' Ni (mg:=mg) ?_ ?_ ?_ ?_);exact rfl;walk_at"t3";exact rfl;exact Eq.refl false)
 | ((with_reducible refine' Kx ?_ ?_);walk_at"tc";walk_at"tE")
 | ((with_reducible refine' tN ?_ ?_ ?_);walk_at"tT";walk_at"tE";walk_at"tE")
 | ((with_reducible refine' Gi ?_);walk_at"tE")
 | ((with_reducible refine' Nt ?_ ?_);walk_at"tE";walk_at"tE")
 | ((with_reducible refine' Kz ?_ ?_);walk_at"tE";walk_at"tE")
 | (with_reducible exact zR))
local macro_rules | `(tactic| walk_at "tl") => `(tactic| first | exact .inl rfl | exact .inr rfl | exact .inr (.inl rfl) | exact .inr (.inr rfl))
local macro_rules | `(tactic| walk_at "tn") => `(tactic| exact nd)
local macro_rules | `(tactic| walk_at "tk") => `(tactic| exact (rfl : _ = K))
local macro_rules | `(tactic| walk_at "th") => `(tactic| exact hr.mono (by decide))
local macro_rules | `(tactic| walk_at "ti") => `(tactic| ((with_reducible first | refine SW nd ?_ | refine R4 nd ?_ | refine SM nd ?_ | refine Sf nd ?_ | refine SG nd ?_ | refine R6 nd ?_ | refine Sn nd ?_ | refine R_ nd ?_ | refine SO nd ?_ | refine SS nd ?_ | refine RE nd ?_ | refine Rz nd ?_ | refine RO nd ?_ | refine Ro nd ?_ ); rfl))
local macro_rules | `(tactic| walk_at "tc") => `(tactic| ((with_reducible first | exact vd | exact CT | exact lZ | exact EL | exact IC | exact KA | exact y_ | exact QC | exact uY | exact Qx | exact MO | exact Li | exact GD | exact vV | exact Aj | exact Hl | exact NH | exact F3 | refine' dW ?_ | refine' E8 ?_ ?_ | refine' lW ?_ ?_ | refine' NX ?_ | refine' Fu ?_ | refine' dj ?_ | refine' Rv ?_ | refine' ez ?_ | refine' ET ?_ | refine' yd ?_) <;> first | exact (rfl : _ = K) | exact hr.units))
local macro_rules | `(tactic| walk_at "t3") => `(tactic| with_reducible first | exact T.jc | exact jf | exact T.zC | exact Ba | exact D7 T | exact hU T | exact T.Hn | exact T.pQ | exact oB | exact pI T | exact iZ "height" 1 | exact T.BL | exact T.f9 | exact T.tY | exact Ei T | exact Cr T | exact T.zr | exact iZ "word_ahead_of" 1 | exact T.Qb | exact Qz | exact G0 T | exact T.Ai | exact FZ T | exact Hk T | exact A3 T | exact yr T | exact T.F7 | exact iZ "keeps" 3 | exact T.l0 | exact sW T | exact EG T | exact iZ "forget" 1 | exact iZ "go_on" 2 | exact Ck T | exact By T | exact B9 T | exact T.Cj | exact T.Hr | exact uS T | exact T.wJ | exact T.Nc | exact T.wA | exact oY T | exact wb T | exact oz T | exact jv T | exact mZ T | exact iZ "goes" 1 | exact ug T | exact T.F8 | exact iZ "drop" 5 | exact iZ "do" 3 | exact iZ "runs" 2 | exact iZ "land" 3 | exact N4 T | exact Ma T | exact M_ T | exact Ms T | exact N0 T | exact GQ T | exact Lg T | exact FH T | exact LZ T | exact KY T | exact LY T | exact Md T | exact uK T | exact yp T | exact iZ "book" 1 | exact tH T | exact uu T | exact Ct T | exact sV T | exact tQ T | exact wj T | exact iZ "at" 1 | exact iZ "boxes" 1 | exact iZ "step" 6 | exact iZ "word" 1 | exact iZ "pile" 1)
local macro_rules | `(tactic| walk_at "s") => `(tactic| (refine Qf rfl (by dsimp only [L3.oX]) ?_))
local macro_rules | `(tactic| walk_at "h") => `(tactic| (refine' ⟨_, ?_, ?_⟩; rotate_left))
local macro_rules | `(tactic| walk_at "v") => `(tactic| (walk_at "t0"; walk_at "s"))
local macro_rules | `(tactic| walk_at "n") => `(tactic| (with_reducible refine' aW ?_ ?_))
local macro_rules | `(tactic| walk_at "m") => `(tactic| (with_reducible refine' fq ?_))
local macro_rules | `(tactic| walk_at "c") => `(tactic| (walk_at "n"; walk_at "tS"))
local macro_rules | `(tactic| walk_at "x") => `(tactic| (with_reducible refine' PS.eV ?_))
local macro_rules | `(tactic| walk_at "y") => `(tactic| (with_reducible refine' PT.eV ?_))
local macro_rules | `(tactic| walk_at "f") => `(tactic| (with_reducible refine' J9 ?_ ?_ ?_))
local macro_rules | `(tactic| walk_at "g") => `(tactic| ((with_reducible refine' Bj ?_ ?_ ?_ ?_ ?_ ?_); exact acx; exact rfl))
set_option hygiene true
local macro_rules | `(tactic| walk_at "rk") => `(tactic| repeat (first | (with_reducible first | refine KN ?_ | refine NS ?_ | refine Nz ?_ | refine QA ?_ | (refine' Iy ?x ?_; (case x => with_unfolding_all rfl)) | (refine' Jm ?x ?_; (case x => with_unfolding_all rfl)) | refine Ot ?_ | refine Oe ?_ | refine M9 ?_ | refine KZ ?_ | refine Q7 ?_ | refine Rk ?_ | refine P1 ?_ | refine QH ?_ | refine Ox ?_ | refine NA ?_ | refine ⟨_, rfl, ?_⟩) | (first | ((fail_if_success (fail_if_success (with_reducible refine L1 ?_))); (with_reducible refine λ_ _ => ?_)) | ((with_reducible refine' RW ?x ?y ?_); (case x => walk_at "tt"); (case y => walk_at "tt")) | ((with_reducible refine' QB ?x ?_); (case x => walk_at "sql")) | ((with_reducible refine' QF ?x ?_); (case x => walk_at "sqt")) | ((with_reducible refine' Qj ?x ?_); (case x => walk_at "sql")) | ((with_reducible refine' JZ ?x ?_); (case x => walk_at "sql")) | ((with_reducible refine' Ia ?x ?y ?z ?_); (case x => walk_at "hlk"); (case y => walk_at "tt"); (case z => walk_at "tt")) | ((with_reducible refine' IQ ?x ?y ?z ?_); (case x => walk_at "hlk"); (case y => walk_at "hlk"); (case z => walk_at "small")) | ((with_reducible refine' Qd ?x ?_); (case x => walk_at "hlk")) | ((with_reducible refine' Ik ?h ?_); (case h => walk_at "cmul")) | ((with_reducible refine' t_ ?x ?y ?_); (case x => walk_at "hlk"); (case y => walk_at "small")) | ((with_reducible refine' eX ?c ?t ?e ?_); (case c => exact λz => nomatch z); (case t => walk_at "ty"); (case e => walk_at "kit"))) | (first | ((with_reducible refine' E6 ?h ?_); (case h => first | exact ⟨by decide, by decide⟩ | (show (0 : Int) < _; first | decide | omega) | (show (0 : Int) <= _; first | decide | omega))) | ((with_reducible refine' Kj ?x ?_); (case x => intro hh; exact absurd hh (by decide)); intro _) | ((with_reducible refine' Kj ?_ ?x); (case x => intro hh; exact absurd hh (by decide)); intro _) | ((with_reducible refine' eW ?x ?_); (case x => intro hh; exact absurd hh (by walk_at "nn")); intro _) | ((with_reducible refine' eW ?_ ?x); (case x => intro hh; exact absurd (by walk_at "tt") hh); intro _) | ((with_reducible refine' gL ?x ?_); (case x => intro hh; exact absurd (by walk_at "tt") hh); intro _) | ((with_reducible refine' gL ?_ ?x); (case x => intro hh; exact absurd hh (by walk_at "nn")); intro _) | ((with_reducible refine' cW ?x ?_); (case x => intro hh; exact absurd hh (by walk_at "nn")); intro _) | ((with_reducible refine' cW ?_ ?x); (case x => intro hh; exact absurd (by walk_at "tt") hh); intro _) | ((with_reducible refine' uP ?x ?_); (case x => intro hh; exact absurd (by walk_at "tt") hh); intro _) | ((with_reducible refine' uP ?_ ?x); (case x => intro hh; exact absurd hh (by walk_at "nn")); intro _)) | (first | ((with_reducible refine' FO ?a ?b ?_); (case a => omega); (case b => omega)) | ((with_reducible refine' Ff ?h ?a ?b ?_); (case h => walk_at "sql"); (case a => omega); (case b => omega)) | ((with_reducible refine' HR ?h ?a ?_); (case h => walk_at "sql"); (case a => omega)) | (with_reducible refine xC ?_) | (with_reducible refine Hy ?_) | ((with_reducible refine' Ln ?a ?b ?_); (case a => omega); (case b => omega)) | ((with_reducible refine' Jv ?a ?b ?c ?_); (case a => omega); (case b => omega); (case c => omega)) | ((with_reducible refine' MG ?x ?y ?z ?_); (case x => walk_at "hlk"); (case y => walk_at "tt"); (case z => walk_at "tt")) | ((with_reducible refine' vy ?h ?e ?_); (case h => walk_at "sqt"); (case e => walk_at "at")) | ((with_reducible refine' b8 ?h ?e ?_); (case h => walk_at "sql"); (case e => walk_at "at")) | (with_reducible refine MW ?_)) | (first | (with_reducible refine LC ?_) | (with_reducible refine NZ ?_) | (with_reducible refine NF ?_) | ((with_reducible refine' Pd ?x ?_); (case x => walk_at "sql")) | (with_reducible refine xh ?_) | (with_reducible refine Ld ?_) | ((with_reducible refine' IE ?x ?y ?_); (case x => walk_at "sql"); (case y => first | assumption | apply_assumption)) | (with_reducible refine An ?_) | ((with_reducible refine' Bg ?x ?_); (case x => walk_at "hlk")) | ((with_reducible refine' qA ?x ?y ?z ?_); (case x => walk_at "hlk"); (case y => walk_at "hlk"); (case z => walk_at "small"))) | (first | (with_reducible refine xh ?_) | (with_reducible refine IX ?_) | (with_reducible refine Nl ?_) | (with_reducible refine qh ?_) | (with_reducible refine Rj ?_) | (with_reducible refine NM ?_) | (with_reducible refine Mf ?_) | (with_reducible refine An ?_) | (with_reducible refine Gc ?_) | (with_reducible refine AX ?_) | (with_reducible refine Ke ?_) | (with_reducible refine J6 ?_) | (with_reducible refine wQ ?_) | (with_reducible refine AB ?_) | ((with_reducible refine' GP ?x ?y ?_); (case x => walk_at "sqt"); (case y => with_unfolding_all rfl)) | ((with_reducible refine' Bg ?x ?_); (case x => walk_at "hlk")) | ((with_reducible refine' jj ?x ?y ?_); (case x => walk_at "hlk"); (case y => walk_at "small")) | ((with_reducible refine' qA ?x ?y ?z ?_); (case x => walk_at "hlk"); (case y => walk_at "hlk"); (case z => walk_at "small"))) | (first | (with_reducible refine Ol ?_) | (with_reducible refine xh ?_) | (with_reducible refine Qo ?_) | (with_reducible refine NQ ?_) | (with_reducible refine An ?_) | (with_reducible refine Gc ?_) | (with_reducible refine AX ?_) | (with_reducible refine Ke ?_) | (with_reducible refine J6 ?_) | (with_reducible refine wQ ?_) | (with_reducible refine AB ?_) | ((with_reducible refine' GP ?x ?y ?_); (case x => walk_at "sqt"); (case y => with_unfolding_all rfl)) | ((with_reducible refine' Bg ?x ?_); (case x => walk_at "hlk")) | ((with_reducible refine' jj ?x ?y ?_); (case x => walk_at "hlk"); (case y => walk_at "small")) | ((with_reducible refine' qA ?x ?y ?z ?_); (case x => walk_at "hlk"); (case y => walk_at "hlk"); (case z => walk_at "small"))) | ((with_reducible refine' JY ?h ?_); (case h => rfl)) | ((with_reducible refine' Kn ?h ?_); (case h => rfl)) | ((with_reducible refine' Gf ?h ?c ?n ?l ?_); (case h => walk_at "hlk"); (case c => walk_at "cls"); (case n => walk_at "noat"); (case l => walk_at "lk"))))
section
variable {l:Addr}
theorem h_ {A:Hp}{b:Addr}{x:HO}(h:(upd A l x) b=none):A b=none/\b≠l:=by
 by_cases e:b=l
 . rw[e,aa] at h;cases h
 . rw[ak e] at h;exact⟨h,e⟩
def dB (rs:List Rw)(ls:List (Int×Int))(i:Nat):List Int:=match rs[i]? with
 | some r=>r.dz i++(if r.isCall=true/\(i:Int)∈ls.map (·.1) then [lv ls i] else [])
 | none=>[]
inductive RH (rs:List Rw) (ls:List (Int×Int)):Int->Int->Prop
 | start:RH rs ls 0 0
 | way {i:Nat} {h h' w:Int} {r:Rw}:RH rs ls (i:Int) h->rs[i]? = some r->r.aE h=some h'->w∈dB rs ls i->RH rs ls w h'
 | call {i:Nat} {h t:Int}:RH rs ls (i:Int) h->rs[i]? = some (.call t)->RH rs ls t 0
def yZ (rs:List Rw)(ls:List (Int×Int)):Prop:=∃ (i h:Int),RH rs ls i h/\(i<0∨(rs.length:Int)<=i∨(∃ r,rs[i.toNat]? = some r/\r.aE h=none)∨∃ h2,RH rs ls i h2/\h2≠h)
structure D0 (rs:List Rw)(ls:List (Int×Int))(hs:List (Option Int)):Prop where
 len:hs.length=rs.length
 rh:∀ (i:Nat) (h:Int),hs[i]? = some (some h)->RH rs ls (i:Int) h
 start:hs[0]? = some (some 0)
 cl:∀ (i:Nat) (h:Int) (r:Rw),hs[i]? = some (some h)->rs[i]? = some r->∃ h',r.aE h=some h'/\∀ w∈dB rs ls i,0<=w/\hs[w.toNat]? = some (some h')
 tg:∀ (i:Nat) (h t:Int),hs[i]? = some (some h)->rs[i]? = some (.call t)->0<=t/\hs[t.toNat]? = some (some 0)
def nV (k:Nat):V:=.int (k:Int)
def qK (H:Hp)(ly:Addr)(rs:List Rw)(ls:List (Int×Int)):Prop:=∃ T5:List Addr,H ly=some (.lst (T5.map V.ref))/\T5.length=rs.length/\∀ (i:Nat) (p:Addr),T5[i]? = some p->H p=some (.lst ((dB rs ls i).map V.int))
variable {ls:List (Int×Int)}
theorem qK.same {ly:Addr}(h:qK H ly rs ls)(s:ao H H'):qK H' ly rs ls:=let ⟨T5,h1,h2,h3⟩:=h;⟨T5,s _ _ h1,h2,λi p e=>s _ _ (h3 i p e)⟩
def Jg (K:W.Frag)(a:bH):Sp:=λvs H Q _=>∃ (c d:Addr) (i:Nat) (prs:List Addr) (rs:List Rw) (ls:List (Int×Int)),vs=[.ref c,.ref d,.int (i:Int)]/\H c=some (.lst (prs.map V.ref))/\bL a H prs rs/\(∀ r∈rs,r.ok/\r.here)/\H d=some (.dK (aw ls))/\(ls.map (·.1)).Nodup/\i<rs.length /\
 ∀ p H',ao H H'->H p=none->H' p=some (.lst ((dB rs ls i).map V.int))->Q (.ref p) H'
def CP (a:bH):Sp:=λvs H Q E=>∃ (lh lw:Addr) (n UL:Int) (hs:List (Option Int)) (ws:List Nat),vs=[.ref lh,.ref lw,.int n,.int UL]/\H lh=some (.lst (hs.map bN))/\H lw=some (.lst (ws.map nV))/\hs.length<=2000/\ws.length<=2000/\-10000<=n/\n<=10000/\lh≠lw /\
 ((n<0∨(hs.length:Int)<=n∨∃ h2,hs[n.toNat]? = some (some h2)/\h2≠UL)->E (.ref a.fk) none H)/\(0<=n->hs[n.toNat]? = some (some UL)->Q .aC H) /\
 (0<=n->hs[n.toNat]? = some none->Q .aC (upd (upd H lh (.lst ((hs.set n.toNat (some UL)).map bN))) lw (.lst ((ws++[n.toNat]).map nV))))
def bP (ks:List Nat):List (Key×V):=ks.map λk:Nat=>((Sum.inl (k:Int):Key),V.bl true)
def cy:Option Nat->V
 | none=>.aC
 | some s=>.int (s:Int)
def ki (ks:List Nat)(k:Nat):List Nat:=if k∈ks then ks else ks++[k]
def je (o:Option Nat)(p:Nat):Nat:=match o with
 | none=>p
 | some s=>s &&& p
def zg:Sp:=λvs H Q _=>∃ (lsx dc:Addr) (n p:Nat) (ss:List (Option Nat)) (ks:List Nat) (o:Option Nat),vs=[.ref lsx,.ref dc,.int (n:Int),.int (p:Int)]/\H lsx=some (.lst (ss.map cy))/\H dc=some (.dK (bP ks))/\ss.length<=2000/\ks.length<=2000/\ks.Nodup/\ss[n]? = some o /\
 (o=some (je o p)->Q .aC H)/\(o≠some (je o p)->Q .aC (upd (upd H lsx (.lst ((ss.set n (some (je o p))).map cy))) dc (.dK (bP (ki ks n)))))
theorem EA {n k:Nat}(h:k<n):oq n (k:Int)=some k:=by
 unfold oq;rw[if_pos (by lia),if_pos (by lia)];rfl
theorem Je {ks:List Nat}(n:Nat):putK (bP ks) (.inl (n:Int)) (.bl true)=bP (ki ks n):=by
 unfold putK ki;have e:((bP ks).any λkv=>decide (kv.1=(Sum.inl (n:Int):Key)))=decide (n∈ks):=by
   unfold bP;rw[List.any_map]
   induction ks with
   | nil=>rfl
   | cons k r ih =>
     rw[abA,ih];by_cases h:k=n
     . subst h;simp
     . have h2 : ¬ n = k := λz => h z.symm;have h3 : ¬ ((Sum.inl (k:Int):Key)=Sum.inl (n:Int)):=λz=>h (by have:=acZ z;lia);simp only[Function.comp_apply,aaQ,h2,false_or];rw[decide_eq_false h3,ac4]
 rw[e];by_cases h:n∈ks
 . rw[if_pos (decide_eq_true h),if_pos h];unfold bP;rw[abe];refine congrArg (λf=>ks.map f) (funext λk=>?_);show(if _ then _ else _)=_;split <;> rfl
 . rw[if_neg (by rw[decide_eq_false h]; exact aap), if_neg h];unfold bP;rw[aaE];rfl
theorem Lq {ks:List Nat}(h:ks.Nodup)(n:Nat):(ki ks n).Nodup:=by
 unfold ki;split
 . exact h
 . rename_i hn;exact List.nodup_append.mpr ⟨h,(by simp),λa ha b hb=>by rw[List.mem_singleton.mp hb];exact λz=>hn (z ▸ ha)⟩
theorem Gy (ks:List Nat):(bP ks).map (·.1)=(ks.map λk:Nat=>(k:Int)).map Sum.inl:=by
 unfold bP;rw[abe,abe];rfl
variable {α : Type}
theorem qN (f : α->V)(xs:List α)(n:Nat)(x : α):(xs.map f).set n (f x)=(xs.set n x).map f:=by rw[List.map_set]
theorem nh (h1 : -10000<=n)(h2:n<=10000):n.natAbs.log2<1900:=by
 by_cases h:n.natAbs=0
 . rw[h];decide
 . exact(Nat.log2_lt h).mpr (aaC (show n.natAbs<2 ^ 14 by omega) (acG (by decide) (by decide)))
def dN (ls:List (Int×Int)):Prop:=(ls.map (·.1)).Nodup/\ls.length<64/\∀ p∈ls,-10000<=p.2/\p.2<=10000
theorem Pr {k:Int}(h:k∈ls.map (·.1)):∃ p∈ls,lv ls k=p.2:=by
 unfold lv;obtain⟨p,hp,e⟩:=List.mem_map.mp h;cases hf:ls.find? λp=>decide (p.1=k) with
 | none =>
   have:=List.find?_eq_none.mp hf p hp
   rw[decide_eq_true e] at this;exact absurd rfl this
 | some q=>exact⟨q,List.mem_of_find?_eq_some hf,rfl⟩
theorem Eb (az:∀ r∈rs,r.ok/\r.here)(hl:dN ls)(hn:rs.length<=2000){i:Nat}:∀ w∈dB rs ls i,-10000<=w/\w<=10000:=by
 intro w hw;unfold dB at hw;cases h:rs[i]? with
 | none=>rw[h] at hw;cases hw
 | some r =>
   rw[h] at hw;have hi:=(List.getElem?_eq_some_iff.mp h).1;have ho:=(az r (aak h)).1;rcases List.mem_append.mp hw with hw | hw
   . cases r <;> simp only[Rw.dz,aaQ,aaS,or_false] at hw <;> simp only[Rw.ok,aH,isVal,aF,aN] at ho <;> lia
   . split at hw
     . rename_i hc;rw[List.mem_singleton.mp hw];obtain⟨p,hp,e⟩:=Pr hc.2;rw[e];exact hl.2.2 p hp
     . cases hw
def nN (hs:List (Option Int)):Nat:=(hs.filter λo=>o.isNone).length
theorem AW:∀ {hs:List (Option Int)} {n:Nat} {x:Int},hs[n]? = some none->nN (hs.set n (some x))+1=nN hs
 | [],n,x,h=>by simp at h
 | o :: r, 0, x, h => by
   have e:o=none:=by simpa using h
   subst e;rfl
 | o :: r, n + 1, x, h => by
   have ih:=@AW r n x (by simpa using h);unfold nN at ih ⊢;rw[List.set_cons_succ,List.filter_cons,List.filter_cons];split
   . rw[aaH,aaH];lia
   . exact ih
theorem Mq (n:Nat):nN (aau n none)=n:=by
 unfold nN;rw[List.filter_eq_self.mpr (λa ha=>by rw[List.eq_of_mem_replicate ha];rfl),aaB]
def Oq (rs:List Rw)(ls:List (Int×Int))(hs:List (Option Int))(i:Nat):Prop:=∀ (h:Int) (r:Rw),hs[i]? = some (some h)->rs[i]? = some r ->
 (∃ h',r.aE h=some h'/\∀ w∈dB rs ls i,0<=w/\hs[w.toNat]? = some (some h'))/\∀ t,r=.call t->0<=t/\hs[t.toNat]? = some (some 0)
structure HI (rs:List Rw)(ls:List (Int×Int))(hs:List (Option Int))(ws:List Nat)(ex:Option Nat):Prop where
 len:hs.length=rs.length
 rh:∀ (i:Nat) (h:Int),hs[i]? = some (some h)->RH rs ls (i:Int) h
 JF:∀ k∈ws,∃ h,hs[k]? = some (some h)
 cl:∀ i,i ∉ ws->some i≠ex->Oq rs ls hs i
 J_:ws.length+nN hs<=hs.length
variable {h:Int} {hs:List (Option Int)}
theorem gh {n i:Nat}{x:Int}(e:hs[n]? = some none)(hi:hs[i]? = some (some h)):(hs.set n (some x))[i]? = some (some h):=by
 have ne:n≠i:=λz=>by rw[z,hi] at e;cases e
 rw[aaP ne];exact hi
theorem HI.new {ws:List Nat}{ex:Option Nat}{n:Nat}{x:Int}(I:HI rs ls hs ws ex)(e:hs[n]? = some none)(r:RH rs ls (n:Int) x):HI rs ls (hs.set n (some x)) (ws++[n]) ex:=by
 have hn:=(List.getElem?_eq_some_iff.mp e).1;refine⟨by rw[aa0];exact I.len,λi h hi=>?_,λk hk=>?_,λi hi hx h r' hh hr'=>?_,?_⟩
 . by_cases z:n=i
   . subst z;rw[aaO hn] at hi;cases hi;exact r
   . rw[aaP z] at hi;exact I.rh i h hi
 . rcases List.mem_append.mp hk with hk | hk
   . obtain⟨h, hh⟩ := I.JF k hk;exact⟨h,gh e hh⟩
   . rw[List.mem_singleton.mp hk];exact⟨x,aaO hn⟩
 . have z : n ≠ i := λz => hi (aay _ (List.mem_singleton.mpr z.symm));rw[aaP z] at hh;obtain⟨⟨h',a1,a2⟩,a3⟩:=I.cl i (λhm=>hi (aa6 _ hm)) hx h r' hh hr';exact⟨⟨h',a1,λw hw=>⟨(a2 w hw).1,gh e (a2 w hw).2⟩⟩,λt ht=>⟨(a3 t ht).1,gh e (a3 t ht).2⟩⟩
 . have h1 := AW (x := x) e;have h2:=I.J_;rw[aab,aa0];show _+1+_<=_;lia
def PL (K:W.Frag)(a:bH):Sp:=λvs H Q E=>∃ (c ly:Addr) (prs:List Addr) (rs:List Rw) (ls:List (Int×Int)),vs=[.ref c,.ref ly]/\H c=some (.lst (prs.map V.ref))/\bL a H prs rs/\(∀ r∈rs,r.ok/\r.here)/\0<rs.length/\rs.length<=2000/\dN ls/\qK H ly rs ls /\
 (yZ rs ls->∀ H',ao H H'->E (.ref a.fk) none H')/\∀ l hs H',ao H H'->H l=none->H' l=some (.lst (hs.map bN))->D0 rs ls hs->Q (.ref l) H'
theorem HI.reach {ws:List Nat}{ex:Option Nat}{x:Int}(I:HI rs ls hs ws ex)(r:RH rs ls n x):(n<0∨(hs.length:Int)<=n∨∃ h2,hs[n.toNat]? = some (some h2)/\h2≠x)->yZ rs ls:=by
 intro hb;by_cases h0:n<0
 . exact⟨n,x,r,.inl h0⟩
 . rcases hb with hb | hb | ⟨h2,e2,n2⟩
   . exact absurd hb h0
   . exact⟨n,x,r,.inr (.inl (by rw[<- I.len];exact hb))⟩
   . have e3 := I.rh _ _ e2;rw[show((n.toNat:Nat):Int)=n by lia] at e3;exact⟨n,x,r,.inr (.inr (.inr ⟨h2,e3,n2⟩))⟩
theorem HI.close {ws:List Nat}{k:Nat}(I:HI rs ls hs ws (some k))(c:Oq rs ls hs k):HI rs ls hs ws none:=⟨I.len,I.rh,I.JF,λi hi _=>by
 by_cases z:i=k
 . rw[z];exact c
 . exact I.cl i hi (λe=>z (aax e)),I.J_⟩
theorem vM:∀ (n:Nat) (ks:List Nat),ks.Nodup->(∀ k∈ks,k<n)->ks.length<=n
 | 0, ks, _, h => by
   cases ks with
   | nil=>exact aag _
   | cons k r=>exact absurd (h k (acb ..)) (acf k)
 | n + 1, ks, UE, h => by
   by_cases hm:n∈ks
   . have := vM n (ks.erase n) (UE.erase n) λk hk => by
       have h1:=UE.mem_erase_iff.mp hk
       have:=h k h1.2
       have:=h1.1
       lia
     rw[List.length_erase_of_mem hm] at this;lia
   . have := vM n ks UE λk hk => by
       have h1:=h k hk;have h2:k≠n:=λz=>hm (z ▸ hk)
       lia
     lia
def Sub (x y:Nat):Prop:=x &&& y=x
variable {x y:Nat}
theorem Sub.iff:Sub x y ↔ ∀ i,x.testBit i=true->y.testBit i=true:=by
 unfold Sub
 constructor
 . intro h i hi
   have:=congrArg (λz=>z.testBit i) h
   simp only[aaT,hi,Bool.true_and] at this;exact this
 . intro h;apply abp;intro i;rw[aaT];cases hx:x.testBit i with
   | false=>rfl
   | true=>rw[h i hx];rfl
theorem Sub.refl (x:Nat):Sub x x:=Nat.and_self x
theorem Sub.trans {z:Nat}(h:Sub x y)(k:Sub y z):Sub x z:=Sub.iff.mpr λi hi=>Sub.iff.mp k i (Sub.iff.mp h i hi)
theorem Sub.left (x y:Nat):Sub (x &&& y) x:=Sub.iff.mpr λi hi=>by rw[aaT,aaN] at hi;exact hi.1
theorem Sub.right (x y:Nat):Sub (x &&& y) y:=Sub.iff.mpr λi hi=>by rw[aaT,aaN] at hi;exact hi.2
theorem Sub.both {g:Nat}(h:Sub g x)(k:Sub g y):Sub g (x &&& y):=Sub.iff.mpr λi hi=>by rw[aaT,Sub.iff.mp h i hi,Sub.iff.mp k i hi];rfl
theorem F9 {p:Nat}(h:Sub x y):Sub (Bt.wo x p) (Bt.wo y p):=Sub.iff.mpr λi hi=>by
 rw[Bt.jI,aaN] at hi ⊢;exact⟨Sub.iff.mp h i hi.1,hi.2⟩
theorem EY {p q:Nat}(h:Sub x y):Sub (fo x p q) (fo y p q):=by
 unfold fo;by_cases hx:x &&& q=0
 . rw[if_pos hx];by_cases hy:y &&& q=0
   . rw[if_pos hy];exact F9 h
   . rw[if_neg hy];refine Sub.iff.mpr λi hi=>?_;rw[Bt.jI,aaN] at hi;rw[adD,Sub.iff.mp h i hi.1];rfl
 . have hy : ¬ y &&& q = 0 := λz => hx (by
     apply abp;intro i
     have:=congrArg (λz=>z.testBit i) z
     simp only[aaT,acC] at this ⊢;cases hxi:x.testBit i with
     | false=>rfl
     | true=>rw[Sub.iff.mp h i hxi] at this;exact this)
   rw[if_neg hx,if_neg hy];refine Sub.iff.mpr λi hi=>?_;rw[adD,Bool.or_eq_true] at hi ⊢;rcases hi with hi | hi
   . exact .inl (Sub.iff.mp h i hi)
   . exact .inr hi
theorem IT (r:Rw)(h:Int)(k:Sub x y):Sub (r.keep x h) (r.keep y h):=by
 cases r
 all_goals first | exact k | exact F9 k | exact EY k
theorem J2 (x p:Nat):Bt.wo x p<=x:=by
 have:Sub (Bt.wo x p) x:=Sub.iff.mpr λi hi=>by rw[Bt.jI,aaN] at hi;exact hi.1
 rw[<- this];exact ade
theorem tu {p q n:Nat}(h:x<2 ^ n)(k:p<2 ^ n):fo x p q<2 ^ n:=by
 unfold fo;split
 . exact aaG (J2 _ _) h
 . exact Nat.or_lt_two_pow h k
theorem Lf (ho:r.ok)(h0 : 0<=h)(h1:h<=4000)(hx:x<2 ^ 4100):r.keep x h<2 ^ 4100:=by
 have zD:∀ m:Nat,m<4100->2 ^ m<2 ^ 4100:=λm hm=>adB (by decide) hm;cases r
 case copy=>exact tu hx (zD _ (by simp only[Rw.ok,aH] at ho;omega))
 case put=>exact tu hx (zD _ (by simp only[Rw.ok,aH,aF] at ho;omega))
 case get=>exact tu hx (zD _ (by simp only[Rw.ok,aH,aF] at ho;omega))
 all_goals first | exact hx | exact aaG (J2 _ _) hx
theorem Fg {h':Int}(ho:r.ok)(hb : 0<=h/\h<=4000)(hh:r.aE h=some h') : 0<=h'/\h'<=4000:=by
 cases r
 case grow m =>
   simp only[Rw.aE] at hh;simp only[Rw.ok,aF] at ho;split at hh
   . cases hh
   . have:=aax hh;lia
 case shrink m =>
   simp only[Rw.aE] at hh;simp only[Rw.ok,aF] at ho;split at hh
   . cases hh
   . have:=aax hh;lia
 case put b c =>
   simp only[Rw.aE] at hh;split at hh
   . cases hh
   . have:=aax hh;lia
 case get b c =>
   simp only[Rw.aE] at hh;split at hh
   . cases hh
   . have:=aax hh;lia
 all_goals (have:=aax (show some h=some h' from hh);lia)
theorem PF (az:∀ r∈rs,r.ok/\r.here)(r:RH rs ls i h) : 0<=h/\h<=4000:=by
 induction r with
 | start=>exact⟨by decide,by decide⟩
 | way _ hr hh _ ih=>exact Fg (az _ (aak hr)).1 ih hh
 | call=>exact⟨by decide,by decide⟩
def Cons (rs:List Rw)(ls:List (Int×Int))(hs:List (Option Int))(first:Nat)(g:Nat->Nat):Prop:=Sub (g 0) first/\∀ (i:Nat) (h:Int) (r:Rw),hs[i]? = some (some h)->rs[i]? = some r->(∀ w∈dB rs ls i,Sub (g w.toNat) (r.keep (g i) h))/\∀ t,r=.call t->Sub (g t.toNat) first
def MK (rs:List Rw)(ls:List (Int×Int))(hs:List (Option Int))(first:Nat)(ss:List (Option Nat))(i:Nat):Prop:=∀ (s:Nat) (h:Int) (r:Rw),ss[i]? = some (some s)->hs[i]? = some (some h)->rs[i]? = some r ->
 (∀ w∈dB rs ls i,∃ s',ss[w.toNat]? = some (some s')/\Sub s' (r.keep s h))/\∀ t,r=.call t->∃ s',ss[t.toNat]? = some (some s')/\Sub s' first
structure PI (rs:List Rw)(ls:List (Int×Int))(hs:List (Option Int))(first:Nat)(ss:List (Option Nat))(Ub:Nat->Prop):Prop where
 len:ss.length=rs.length
 rd:∀ (i s:Nat),ss[i]? = some (some s)->∃ h,hs[i]? = some (some h)
 bd:∀ (i s:Nat),ss[i]? = some (some s)->s<2 ^ 4100
 cl:∀ i,¬ Ub i->MK rs ls hs first ss i
 up:∀ g,Cons rs ls hs first g->∀ (i s:Nat),ss[i]? = some (some s)->Sub (g i) s
def fB (ss ss':List (Option Nat)):Prop:=∀ (i s:Nat),ss[i]? = some (some s)->∃ s',ss'[i]? = some (some s')/\Sub s' s
theorem fB.refl (ss:List (Option Nat)):fB ss ss:=λi s h=>⟨s,h,Sub.refl s⟩
theorem fB.trans {a b c:List (Option Nat)}(h:fB a b)(k:fB b c):fB a c:=λi s e=>by
 obtain⟨s1,e1,q1⟩:=h i s e;obtain⟨s2,e2,q2⟩:=k i s1 e1;exact⟨s2,e2,q2.trans q1⟩
def bZ:List (Option Nat)->Nat
 | []=>0
 | none::r=>2 ^ 4200+bZ r
 | some s::r=>s+bZ r
theorem tU:∀ {ss:List (Option Nat)} {n:Nat} {o:Option Nat} {x:Nat},ss[n]? = some o->(∀ s,o=some s->x<s)->x<2 ^ 4200->bZ (ss.set n (some x))<bZ ss
 | [],n,o,x,h,_,_=>by simp at h
 | none::r,0,o,x,h,_,hx=>by show x+bZ r<2 ^ 4200+bZ r;lia
 | some s :: r, 0, o, x, h, k, _ => by
   have:=k s (by simpa using h.symm)
   show x+bZ r<s+bZ r;lia
 | none :: r, n + 1, o, x, h, k, hx => by
   have:=tU (ss:=r) (n:=n) (o:=o) (x:=x) (by simpa using h) k hx
   show 2 ^ 4200+bZ (r.set n (some x))<2 ^ 4200+bZ r;lia
 | some s :: r, n + 1, o, x, h, k, hx => by
   have:=tU (ss:=r) (n:=n) (o:=o) (x:=x) (by simpa using h) k hx
   show s+bZ (r.set n (some x))<s+bZ r;lia
section
variable {rs:List Rw} {ls:List (Int×Int)} {hs:List (Option Int)} {first:Nat} {ss:List (Option Nat)} {Ub:Nat->Prop} {n p:Nat} {o:Option Nat}
theorem Az (ho:ss[n]? = some o):fB ss (ss.set n (some (je o p))):=λi s e=>by
 have hn:=(List.getElem?_eq_some_iff.mp ho).1;by_cases z:n=i
 . subst z;rw[ho] at e;cases e
   exact⟨_,aaO hn,Sub.left s p⟩
 . exact⟨s,by rw[aaP z];exact e,Sub.refl s⟩
theorem Dc (ho:ss[n]? = some o)(T6:o≠some (je o p))(hb:p<2 ^ 4100):bZ (ss.set n (some (je o p)))<bZ ss:=by
 have zD:(2:Nat) ^ 4100<2 ^ 4200:=adB (by decide) (by decide);refine tU ho (λs e=>?_) ?_
 . subst e;have h1:s &&& p<=s:=acL;have h2:s &&& p≠s:=λz=>T6 (by show some s=some (s &&& p);rw[z]);show s &&& p<s;lia
 . cases o with
   | none=>show p<_;lia
   | some s=>exact aaG (show s &&& p<=p from ade) (by lia)
theorem PI.narrow (I:PI rs ls hs first ss Ub)(ho:ss[n]? = some o)(hh:∃ h,hs[n]? = some (some h))(hb:p<2 ^ 4100)(hg:∀ g,Cons rs ls hs first g->Sub (g n) p):PI rs ls hs first (ss.set n (some (je o p))) (λi=>Ub i∨i=n):=by
 have hn:=(List.getElem?_eq_some_iff.mp ho).1;have hl:=Az (p:=p) ho;have hleft:Sub (je o p) p:=by cases o with | none=>exact Sub.refl p | some s=>exact Sub.right s p
 refine⟨by rw[aa0];exact I.len,λi s e=>?_,λi s e=>?_,λi hi s h r e1 e2 e3=>?_,λg cg i s e=>?_⟩
 . by_cases z:n=i
   . subst z;exact hh
   . rw[aaP z] at e;exact I.rd i s e
 . by_cases z:n=i
   . subst z;rw[aaO hn] at e;cases e
     cases o with
     | none=>exact hb
     | some s=>exact aaG (show s &&& p<=p from ade) hb
   . rw[aaP z] at e;exact I.bd i s e
 . have z : n ≠ i := λz => hi (.inr z.symm);rw [aaP z] at e1;obtain ⟨a1,a2⟩:=I.cl i (λk=>hi (.inl k)) s h r e1 e2 e3;refine ⟨λw hw=>?_,λt ht=>?_⟩
   . obtain⟨s', b1, b2⟩ := a1 w hw;obtain⟨s2,c1,c2⟩:=hl _ _ b1;exact⟨s2,c1,c2.trans b2⟩
   . obtain⟨s', b1, b2⟩ := a2 t ht;obtain⟨s2,c1,c2⟩:=hl _ _ b1;exact⟨s2,c1,c2.trans b2⟩
 . by_cases z:n=i
   . subst z;rw[aaO hn] at e;cases e
     cases o with
     | none=>exact hg g cg
     | some s0=>exact(I.up g cg n s0 ho).both (hg g cg)
   . rw[aaP z] at e;exact I.up g cg i s e
theorem PI.weak {pend':Nat->Prop}(I:PI rs ls hs first ss Ub)(h:∀ i,Ub i->pend' i):PI rs ls hs first ss pend':=⟨I.len,I.rd,I.bd,λi hi=>I.cl i λk=>hi (h i k),I.up⟩
theorem PI.done {pend':Nat->Prop}(I:PI rs ls hs first ss Ub)(h:∀ i,¬ pend' i->¬ Ub i∨MK rs ls hs first ss i):PI rs ls hs first ss pend':=⟨I.len,I.rd,I.bd,λi hi=>by
 rcases h i hi with k | k
 . exact I.cl i k
 . exact k,I.up⟩
end
structure qj (rs:List Rw)(ls:List (Int×Int))(hs:List (Option Int))(first:Nat)(ss:List (Option Nat)):Prop where
 pi:PI rs ls hs first ss (λ_=>False)
 st:∃ s0,ss[0]? = some (some s0)/\Sub s0 first
def Qy (K:W.Frag)(a:bH):Sp:=λvs H Q _=>∃ (c ly lh:Addr) (prs:List Addr) (rs:List Rw) (ls:List (Int×Int)) (hs:List (Option Int)) (first:Nat),vs=[.ref c,.ref ly,.ref lh,.int (first:Int)]/\H c=some (.lst (prs.map V.ref))/\bL a H prs rs/\(∀ r∈rs,r.ok/\r.here)/\0<rs.length/\rs.length<=2000/\dN ls/\qK H ly rs ls/\H lh=some (.lst (hs.map bN))/\D0 rs ls hs/\first<2 ^ 4100 /\
 ∀ l ss H',ao H H'->H l=none->H' l=some (.lst (ss.map cy))->qj rs ls hs first ss->Q (.ref l) H'
theorem N9 {first:Nat}{ss:List (Option Nat)}(P:qj rs ls hs first ss)(r:RH rs ls i h):∃ s,ss[i.toNat]? = some (some s):=by
 induction r with
 | start=>obtain⟨s0,e,_⟩:=P.st;exact⟨s0,e⟩
 | way _ hr hh hw ih =>
   obtain⟨s,e⟩:=ih;rw[aaD] at e;obtain⟨h0,e0⟩:=P.pi.rd _ _ e;obtain⟨s',e',_⟩:=(P.pi.cl _ (λz=>z) s h0 _ e e0 hr).1 _ hw;exact⟨s',e'⟩
 | call _ hr ih =>
   obtain⟨s,e⟩:=ih;rw[aaD] at e;obtain⟨h0,e0⟩:=P.pi.rd _ _ e;obtain⟨s',e',_⟩:=(P.pi.cl _ (λz=>z) s h0 _ e e0 hr).2 _ rfl;exact⟨s',e'⟩
theorem y3 {first:Nat}{ss:List (Option Nat)}(O:D0 rs ls hs)(P:qj rs ls hs first ss){i:Nat}(e:hs[i]? = some (some h)):∃ s,ss[i]? = some (some s):=by
 obtain⟨s,e1⟩:=N9 P (O.rh i h e);rw[aaD] at e1;exact⟨s,e1⟩
structure SI (rs:List Rw)(ls:List (Int×Int))(hs:List (Option Int))(sb s4 s5 s6:List (Option Nat)):Prop where
 ht:D0 rs ls hs
 pb:qj rs ls hs 128 sb
 p4:qj rs ls hs 16 s4
 p5:qj rs ls hs 32 s5
 p6:qj rs ls hs 64 s6
def gN (ss:List (Option Nat))(i:Nat):Int:=(((ss[i]?).join).getD 0:Nat)
def gC (hs:List (Option Int))(sb s4 s5 s6:List (Option Nat))(i:Nat):Option Ent:=((hs[i]?).join).map λh=>⟨h,gN sb i,gN s4 i,gN s5 i,gN s6 i⟩
structure Du (rs:List Rw)(ls:List (Int×Int))(es:List (Option Ent)):Prop where
 len:es.length=rs.length
 of : 0<rs.length->∃ (hs:List (Option Int)) (sb s4 s5 s6:List (Option Nat)),SI rs ls hs sb s4 s5 s6/\∀ i,i<rs.length->es[i]? = some (gC hs sb s4 s5 s6 i)
def OS (K:W.Frag)(a:bH):Sp:=λvs H Q E=>∃ (c d:Addr) (prs:List Addr) (rs:List Rw) (ls:List (Int×Int)),vs=[.ref c,.ref d]/\H c=some (.lst (prs.map V.ref))/\bL a H prs rs/\(∀ r∈rs,r.ok/\r.here)/\rs.length<=2000/\dN ls/\H d=some (.dK (aw ls)) /\
 ((0<rs.length/\yZ rs ls)->∀ H',ao H H'->E (.ref a.fk) none H')/\∀ l ev es H',ao H H'->H l=none->H' l=some (.lst ev)->bK K H' ev es->Du rs ls es->Q (.ref l) H'
def RB (K:W.Frag)(a:bH)(H H':Hp)(t:Addr)(ev:List V)(ls:List (Int×Int)):Prop:=∃ dt l d,H l=none/\H d=none/\H' t=some (.ins a.b3 dt (fR l d))/\H' l=some (.lst ev)/\H' d=some (.dK (aw ls))
def vP (K:W.Frag)(a:bH):Sp:=λvs H Q E=>∃ (c:Addr) (lvv:V) (prs:List Addr) (rs:List Rw) (ls:List (Int×Int)),vs=[.ref c,lvv]/\H c=some (.lst (prs.map V.ref))/\bL a H prs rs/\(∀ r∈rs,r.ok/\r.here)/\rs.length<=2000/\dN ls/\((lvv=.aC/\ls=[])∨∃ d,lvv=.ref d/\H d=some (.dK (aw ls))) /\
 (((0<rs.length/\yZ rs ls)∨∃ es ks,Du rs ls es/\ks.Perm (ls.map (·.1))/\dH rs es ls ks≠[])->∀ H',ao H H'->E (.ref a.fk) none H') /\
 ∀ t ev es ks H',ao H H'->H t=none->RB K a H H' t ev ls->bK K H' ev es->Du rs ls es->ks.Perm (ls.map (·.1))->dH rs es ls ks=[]->Q (.ref t) H'
theorem DI (G:Du rs ls es):∀ t,some t∈es->t.nn:=by
 intro t ht;obtain⟨i,hi,e⟩:=List.getElem_of_mem ht;have hn:i<rs.length:=by rw[<- G.len];exact hi
 obtain⟨hs,sb,s4,s5,s6,_,he⟩:=G.of (by lia);have e1:=he i hn;rw[aaa hi,e] at e1;have e2:gC hs sb s4 s5 s6 i=some t:=(aax e1).symm;unfold gC at e2;obtain⟨h,_,e3⟩:=Option.map_eq_some_iff.mp e2;rw[<- e3];exact⟨abl _,abl _,abl _,abl _⟩
def Ob (H:Hp)(v:V):Option Ent->Prop
 | none=>v=.aC
 | some e=>∃ p q,v=.ref p/\H p=some (.tup [.int e.h,.int e.b,.ref q])/\H q=some (.tup [.int e.v4,.int e.v5,.int e.v6])
def nM (H:Hp)(vs:List V)(es:List (Option Ent)):Prop:=vs.length=es.length/\∀ (i:Nat) (oe:Option Ent),es[i]? = some oe->∃ v,vs[i]? = some v/\Ob H v oe
theorem nM.to (h:nM H vs es)(k:∀ b xs,H b=some (.tup xs)->H' b=some (.tup xs)):nM H' vs es:=⟨h.1,λi oe e=>by
 obtain⟨v,e1,e2⟩:=h.2 i oe e;refine⟨v,e1,?_⟩;cases oe with
 | none=>exact e2
 | some en=>obtain⟨p,q,a1,a2,a3⟩:=e2;exact⟨p,q,a1,k _ _ a2,k _ _ a3⟩⟩
theorem nM.nil:nM H [] []:=⟨rfl,λi oe e=>by simp at e⟩
theorem nM.snoc {v:V}{o:Option Ent}(h:nM H vs es)(q:Ob H v o):nM H (vs++[v]) (es++[o]):=by
 refine⟨by rw[aab,aab,h.1];rfl,λi oe e=>?_⟩;by_cases hi:i<es.length
 . rw[aas hi] at e;obtain⟨v',e1,e2⟩:=h.2 i oe e;exact⟨v',by rw[aas (by rw[h.1];exact hi)];exact e1,e2⟩
 . rw[aaq (by lia)] at e;cases hj:i - es.length with
   | zero =>
     rw[hj] at e
     have:o=oe:=by simpa using e
     subst this;exact⟨v,by rw[aaq (by rw[h.1];lia),h.1,hj];rfl,q⟩
   | succ j=>rw[hj] at e;simp at e
theorem nM.ents {K:W.Frag}(h:nM H vs es):bK K H vs es:=⟨h.1,λi oe e=>by
 obtain⟨v,e1,e2⟩:=h.2 i oe e;refine⟨v,e1,?_⟩;cases oe with
 | none=>exact e2
 | some en=>obtain⟨p,q,a1,a2,a3⟩:=e2;exact⟨p,a1,q,aI.of a2,aI.of a3⟩⟩
theorem qM (h:H l=some (.lst ys))(b:Addr)(xs:List V)(e:H b=some (.tup xs)):(upd H l o) b=some (.tup xs):=by
 rw[ak (λz=>by subst z;rw[h] at e;cases e)];exact e
def firstsD:List Nat:=[128,16,32,64]
theorem uG {K:W.Frag}{C pe x:Addr}{lv:V}{R:VK}{E:XK}(hx:H x=none)(UW:H dx=none)(h1:ar K H pe xs)(h2:(lv=.aC/\kvs=[])∨∃ pd,lv=.ref pd/\H pd=some (.dK kvs))
   (q:∀ l d H',ao H H'->H l=none->H d=none->l≠d->x≠l->x≠d->H' x=some (.ins C dx (au "landings" (.ref d) (au "entries" (.ref l) [])))->H' l=some (.lst xs)->H' d=some (.dK kvs)->R .aC H') :
   yX K C [.ref x,.ref pe,lv] (upd (upd H dx (.own x)) x (.ins C dx [])) R E:=by
 have s1:ao H (upd (upd H dx (.own x)) x (.ins C dx [])):=λb o e=>by rw[ak (ag e hx),ak (ag e UW)];exact e
 refine⟨x,dx,pe,lv,xs,kvs,rfl,aa,ao.seq s1 h1,?_,λl d H' nl nd nld kp WM hl' WW=>?_⟩
 . rcases h2 with h2 | ⟨pd,e,h2⟩
   . exact .inl h2
   . exact .inr ⟨pd,e,s1 _ _ h2⟩
 . have UP := bw nl;have nd1:=bw nd;exact q l d H' (λb o e=>kp b o (s1 b o e) (ag e hx)) (bw UP.1).1 (bw nd1.1).1 nld UP.2.symm nd1.2.symm WM hl' WW
def fv (bs pl:List Int)(h p:Int):Int:=if p<8 then gI bs p else gI pl (pl.length - h+p - 8)
variable {j:Int}
theorem sC {xs:List Int}{v:Int}(h0 : 0<=i)(h1 : 0<=j)(h:i≠j):gI (sI xs j v) i=gI xs i:=by
 unfold gI sI;rw[aar,aar,aaP (by lia)]
theorem mS {xs:List Int}{v:Int}(h0 : 0<=i)(h1:i<xs.length):gI (sI xs i v) i=v:=by
 unfold gI sI;rw[aar,aaO (by lia)];rfl
theorem Nm {xs ys:List Int}(h0 : 0<=i)(h1:i<xs.length):gI (xs++ys) i=gI xs i:=by
 unfold gI;rw[aar,aar,aas (by lia)]
theorem y6 {xs:List Int}{n:Nat}(h0 : 0<=i)(h1:i<n):gI (xs.take n) i=gI xs i:=by
 unfold gI;rw[aar,aar,List.getElem?_take_of_lt (by omega)]
theorem CW (s i:Nat):(s &&& 2 ^ i=0) ↔ s.testBit i=false:=by
 constructor
 . intro h
   have:=congrArg (λx=>x.testBit i) h
   simp only[aaT,abM,acC] at this
   simpa using this
 . intro h;apply abp;intro j;rw[aaT,abM,acC];by_cases e:i=j
   . subst e;rw[h];rfl
   . simp[e]
theorem Gz {s p i:Nat}(h:(Bt.wo s (2 ^ p)).testBit i=true):s.testBit i=true/\i≠p:=by
 rw[Bt.jI,abM] at h;simp only[aaN,ac0,decide_eq_false_iff_not] at h;exact⟨h.1,λe=>h.2 e.symm⟩
theorem sL {s p q i:Nat}(h:(fo s (2 ^ p) (2 ^ q)).testBit i=true):(s.testBit i=true/\i≠p)∨(s.testBit q=true/\i=p):=by
 unfold fo at h;split at h
 . exact .inl (Gz h)
 . rename_i hn;rw [CW] at hn;have hq:s.testBit q=true:=by simpa using hn
   by_cases e:i=p
   . exact .inr ⟨hq,e⟩
   . rw[adD,abM] at h;have : ¬ p=i:=λz=>e z.symm;simp[this] at h;exact .inl ⟨h,e⟩
structure Bw (Ut Tu pl:List Int)(h d v:Int)(k:Nat):Prop where
 bits:∀ i:Nat,k.testBit i=true->(i:Int)<8+d/\fv Ut Tu d i=v
 d0 : 0<=d
 dl:d<=Tu.length
 len:(Tu.length:Int) - d=pl.length - h
 below:Tu.take (pl.length - h.toNat)=pl.take (pl.length - h.toNat)
theorem mT {bs pl:List Int}{w:Int}(h0 : 0<=i)(b0 : 0<=b)(hi:i≠b):fv (sI bs b w) pl h i=fv bs pl h i:=by
 unfold fv;split
 . exact sC h0 b0 hi
 . rfl
theorem vh {d n' v:Int}{s:Nat}{bs pl:List Int}(ok:r.ok)(h0 : 0<=h)(hl:h<=pl.length)(h8:bs.length=8)(hd:r.aE h=some d)(hr:r.run n bs pl=some (n',Ut,Tu))
   (hs:∀ i:Nat,s.testBit i=true->(i:Int)<8+h/\fv bs pl h i=v):Bw Ut Tu pl h d v (r.keep s h):=by
 have Wb:∀ (b w:Int),aH b->Bw (sI bs b w) pl pl h h v (Bt.wo s (2 ^ b.toNat)):=λb w hb=>by
   refine⟨λi hi=>?_,h0,hl,rfl,rfl⟩;obtain⟨h1,h2⟩:=Gz hi;obtain⟨h3,h4⟩:=hs i h1
   have:=hb.1
   exact⟨h3,by rw[mT (by lia) hb.1 (by lia)];exact h4⟩
 have Ww:Bw bs pl pl h h v s:=⟨hs,h0,hl,rfl,rfl⟩
 cases r with
 | set b m=>cases hd;cases hr;exact Wb b m ok.1
 | add b o t=>cases hd;cases hr;exact Wb b _ ok.1
 | sub b o t=>cases hd;cases hr;exact Wb b _ ok.1
 | mul b o t=>cases hd;cases hr;exact Wb b _ ok.1
 | less b o t=>cases hd;cases hr;exact Wb b _ ok.1
 | dr t=>cases hd;cases hr;exact Ww
 | branch b t=>cases hd;cases hr;exact Ww
 | back b=>cases hd;cases hr;exact Ww
 | drop b=>cases hr
 | copy b o =>
   cases hd;cases hr
   obtain⟨⟨b0,b1⟩,⟨o0,o1⟩⟩:=ok;refine⟨λi hi=>?_,h0,hl,rfl,rfl⟩;rcases sL hi with ⟨h1,h2⟩ | ⟨h1,h2⟩
   . obtain⟨h3, h4⟩ := hs i h1;exact⟨h3,by rw[mT (by lia) b0 (by lia)];exact h4⟩
   . obtain ⟨h3, h4⟩ := hs _ h1;refine ⟨by lia,?_⟩;unfold fv at h4 ⊢;rw [if_pos (by lia)] at h4 ⊢;rw [show ((i:Nat):Int)=b by lia,mS b0 (by lia),<- h4]
     congr 1;lia
 | call t =>
   cases hd;cases hr
   refine⟨λi hi=>?_,h0,hl,rfl,rfl⟩;rw[show(Rw.call _).keep s h=Bt.wo s 143 from rfl,Bt.jI,aaN] at hi;obtain⟨h3,h4⟩:=hs i hi.1;have h7:i≠7:=λe=>by subst e;exact absurd hi.2 (by decide)
   exact⟨h3,by rw[mT (by lia) (by decide) (by lia)];exact h4⟩
 | grow m =>
   obtain⟨m0,m1⟩:aF m:=ok;simp only[Rw.aE] at hd;simp only[Rw.run] at hr;split at hd
   . cases hd
   split at hr
   . cases hr
   cases hd;cases hr
   refine⟨λi hi=>?_,by lia,?_,?_,?_⟩
   . obtain ⟨h3, h4⟩ := hs i hi;refine ⟨by lia,?_⟩;unfold fv at h4 ⊢;split
     . rename_i e;rw[if_pos e] at h4;exact h4
     . rename_i e;rw[if_neg e] at h4;rw[aab,aaB,<- h4,show(((pl.length+m.toNat:Nat):Int) - (h+m)+i - 8)=pl.length - h+i - 8 by lia];exact Nm (by lia) (by lia)
   . rw[aab,aaB];lia
   . rw[aab,aaB];lia
   . rw[List.take_append_of_le_length (by lia)]
 | shrink m =>
   obtain⟨m0,m1⟩:aF m:=ok;simp only[Rw.aE] at hd;simp only[Rw.run] at hr;split at hd
   . cases hd
   split at hr
   . cases hr
   cases hd;cases hr
   have ht:(pl.take (pl.length - m.toNat)).length=pl.length - m.toNat:=by rw[aaz];lia
   refine⟨λi hi=>?_,by lia,?_,?_,?_⟩
   . rw[show(Rw.shrink m).keep s h = Bt.wo s ((2 ^ m.toNat - 1) * 2 ^ (8 + h - m).toNat) from rfl, Bt.jI, aaN, Nat.testBit_mul_two_pow, Nat.testBit_two_pow_sub_one] at hi;obtain⟨h3,h4⟩:=hs i hi.1;have h5:(i:Int)<8+h - m:=by
       by_cases z:(i:Int)<8+h - m
       . exact z
       . exfalso
         have z1:i ≥ (8+h - m).toNat:=by lia
         have z2:i - (8+h - m).toNat<m.toNat:=by lia
         have:=hi.2
         simp[z1,z2] at this
     refine⟨by lia,?_⟩;unfold fv at h4 ⊢;split
     . rename_i e;rw[if_pos e] at h4;exact h4
     . rename_i e;rw[if_neg e] at h4;rw[ht,<- h4,show(((pl.length - m.toNat:Nat):Int) - (h - m)+i - 8)=pl.length - h+i - 8 by lia];exact y6 (by lia) (by lia)
   . rw[ht];lia
   . rw[ht];lia
   . rw[List.take_take,adq (by lia)]
 | put b c =>
   obtain⟨⟨b0,b1⟩,⟨c0,c1⟩⟩:aH b/\aF c:=ok;simp only[Rw.aE] at hd;simp only[Rw.run] at hr;split at hd
   . cases hd
   split at hr
   . cases hr
   cases hd;cases hr
   refine⟨λi hi=>?_,h0,by rw[dw];exact hl,by rw[dw],?_⟩
   . rcases sL hi with ⟨h1,h2⟩ | ⟨h1,h2⟩
     . obtain⟨h3, h4⟩ := hs i h1;refine⟨h3,?_⟩;unfold fv at h4 ⊢;split
       . rename_i e;rw[if_pos e] at h4;exact h4
       . rename_i e;rw[if_neg e] at h4;rw[dw,sC (by lia) (by lia) (by lia)];exact h4
     . obtain ⟨h3, h4⟩ := hs _ h1;refine ⟨by lia,?_⟩;unfold fv at h4 ⊢;rw [if_pos (by lia)] at h4;rw [if_neg (by lia),dw,show ((pl.length:Int) - h+i - 8)=pl.length - 1 - c by lia,mS (by lia) (by lia),<- h4]
       congr 1;lia
   . unfold sI;rw[List.take_set_of_le (by lia)]
 | get b c =>
   obtain⟨⟨b0,b1⟩,⟨c0,c1⟩⟩:aH b/\aF c:=ok;simp only[Rw.aE] at hd;simp only[Rw.run] at hr;split at hd
   . cases hd
   split at hr
   . cases hr
   cases hd;cases hr
   refine⟨λi hi=>?_,h0,hl,rfl,rfl⟩;rcases sL hi with ⟨h1,h2⟩ | ⟨h1,h2⟩
   . obtain⟨h3, h4⟩ := hs i h1;exact⟨h3,by rw[mT (by lia) b0 (by lia)];exact h4⟩
   . obtain ⟨h3, h4⟩ := hs _ h1;refine ⟨by lia,?_⟩;unfold fv at h4 ⊢;rw [if_neg (by lia)] at h4;rw [if_pos (by lia),show ((i:Nat):Int)=b by lia,mS b0 (by lia),<- h4]
     congr 1;lia
variable {ns:List Int}
theorem IB {c:Int}(h:c∈ns):c∈once ns:=by
 have gen:∀ (ns t:List Int),(c∈ns∨c∈t)->c∈ns.foldl (λt n=>if n∈t then t else t++[n]) t:=by
   intro ns
   induction ns with
   | nil=>intro t h;rcases h with h | h;cases h;exact h
   | cons n r ih =>
     intro t h;rw[List.foldl_cons];refine ih _ ?_;by_cases hn:n∈t
     . rw[if_pos hn];rcases h with h | h
       . rcases List.mem_cons.mp h with rfl | h
         . exact .inr hn
         . exact .inl h
       . exact .inr h
     . rw[if_neg hn];rcases h with h | h
       . rcases List.mem_cons.mp h with rfl | h
         . exact .inr (aay _ (List.mem_singleton.mpr rfl))
         . exact .inl h
       . exact .inr (aa6 _ h)
 exact gen ns [] (.inl h)
structure Lb (rs:List Rw)(es:List (Option Ent))(ls:List (Int×Int)):Prop where
 len:es.length=rs.length
 start : 0<rs.length->es[0]?.join=lL
 own:∀ (i:Nat) (r:Rw) (e:Ent),rs[i]? = some r->es[i]?.join=some e->d9 r e=none
 way:∀ (i:Nat) (r:Rw) (e:Ent) (c:Int),rs[i]? = some r->es[i]?.join=some e->c∈r.dz i->fE r e c es=none
 Sa:∀ (i:Nat) (t:Int) (e:Ent),rs[i]? = some (.call t)->es[i]?.join=some e->eJ t es=none
 land:∀ k∈ls.map (·.1),mO rs es k (lv ls k)=none
theorem toL_none {β : Type}{o:Option α}{f : α->β}(h:(o.map f).toList=[]):o=none:=by cases o with | none=>rfl | some x=>cases h
theorem JW {ks:List Int}(hz:dH rs es ls ks=[])(hp:ks.Perm (ls.map (·.1))):Lb rs es ls:=by
 have hl:es.length=rs.length:=by
   by_cases h:es.length=rs.length
   . exact h
   . unfold dH at hz;rw[if_neg h] at hz;cases hz
 unfold dH at hz;rw[if_pos hl] at hz;obtain⟨h12,h3⟩:=List.append_eq_nil_iff.mp hz;obtain⟨h1,h2⟩:=List.append_eq_nil_iff.mp h12;have Tb:∀ (i:Nat) (r:Rw) (e:Ent),rs[i]? = some r->es[i]?.join=some e->pU r e i es=[]:=λi r e hr he=>by
   have z:=List.flatMap_eq_nil_iff.mp h2 i (List.mem_range.mpr (List.getElem?_eq_some_iff.mp hr).1);unfold nq at z;rw[hr,he] at z;exact z
 have Te:∀ (i:Nat) (r:Rw) (e:Ent),rs[i]? = some r->es[i]?.join=some e->d9 r e=none:=λi r e hr he=>by
   have z:=Tb i r e hr he;unfold pU at z;cases ho:d9 r e with
   | none=>rfl
   | some w=>rw[ho] at z;cases z
 have UD:∀ (i:Nat) (r:Rw) (e:Ent),rs[i]? = some r->es[i]?.join=some e->((once (r.dz i)).filterMap λc=>(fE r e c es).map λw=>Cm.mk i c w)=[]/\tK r i es=[]:=λi r e hr he=>by
   have z:=Tb i r e hr he;unfold pU at z;rw[Te i r e hr he] at z;exact List.append_eq_nil_iff.mp z
 refine⟨hl,λh0=>?_,Te,λi r e c hr he hc=>?_,λi t e hr he=>?_,λk hk=>?_⟩
 . unfold dF at h1;rw[if_pos h0] at h1;by_cases h:ko (es[0]?.join) lL=true
   . exact FW h
   . rw[if_neg h] at h1;cases h1
 . have z := (UD i r e hr he).1;rw[List.filterMap_eq_nil_iff] at z
   have:=z c (IB hc)
   cases hw:fE r e c es with
   | none=>rfl
   | some w=>rw[hw] at this;cases this
 . exact toL_none (UD i _ e hr he).2
 . exact toL_none (List.flatMap_eq_nil_iff.mp h3 k (hp.mem_iff.mpr hk))
theorem Pa {c:Int}(h:fE r e c es=none) : 0<=c/\c<es.length/\∃ t,es[c.toNat]?.join=some t/\r.aE e.h=some t.h/\nv r e t=none:=by
 unfold fE at h;by_cases hb : 0<=c/\c<es.length
 . rw[if_pos hb] at h;refine⟨hb.1,hb.2,?_⟩;cases ht:es[c.toNat]?.join with
   | none=>rw[ht] at h;cases h
   | some t =>
     rw[ht] at h;have h:(if r.aE e.h=some t.h then nv r e t else some Wt.aE)=none:=h;by_cases hh:r.aE e.h=some t.h
     . rw[if_pos hh] at h;exact⟨t,rfl,hh,h⟩
     . rw[if_neg hh] at h;cases h
 . rw[if_neg hb] at h;cases h
theorem qE:Bt.wo x y=0 ↔ Sub x y:=by
 have h1:x &&& y<=x:=acL;show x - (x &&& y)=0 ↔ x &&& y=x
 lia
theorem LX {t:Ent}(h:nv r e t=none):Sub t.b.toNat (r.keep e.b.toNat e.h)/\Sub t.v4.toNat (r.keep e.v4.toNat e.h)/\Sub t.v5.toNat (r.keep e.v5.toNat e.h)/\Sub t.v6.toNat (r.keep e.v6.toNat e.h):=by
 unfold nv at h;split at h;cases h
 split at h;cases h
 split at h;cases h
 split at h;cases h
 rename_i a b c d;exact⟨qE.mp (aco a),qE.mp (aco b),qE.mp (aco c),qE.mp (aco d)⟩
theorem Mi {t:Int}(h:eJ t es=none) : 0<=t/\t<es.length/\es[t.toNat]?.join=lL:=by
 unfold eJ at h;by_cases hb : 0<=t/\t<es.length
 . rw[if_pos hb] at h;by_cases he:ko (es[t.toNat]?.join) lL=true
   . exact⟨hb.1,hb.2,FW he⟩
   . rw[if_neg he] at h;cases h
 . rw[if_neg hb] at h;cases h
def ik (H:Hp)(v:V)(r:Rw):Prop:=∃ p,v=.ref p/\H p=some (.tup (.str r.eU.1::r.eU.2.map V.int))
theorem ik.same {v:V}(h:ik H v r)(s:ao H H'):ik H' v r:=let ⟨p,e,k⟩:=h;⟨p,e,s _ _ k⟩
def bO:Rw->Int
 | .grow m=>m
 | _=>0
def iD (r:Rw):Prop:=(r.ok/\r.here)/\bO r<=5
def fJ (r:Rw):Prop:=iD r∨(∃ t,r=.call t)∨∃ t,r=.dr t
def aO (ok:Rw->Prop)(H:Hp)(us:List V):Prop:=∀ u∈us,∃ r,ik H u r/\ok r
theorem aO.same {ok:Rw->Prop}(h:aO ok H us)(s:ao H H'):aO ok H' us:=λu hu=>let ⟨r,h1,h2⟩:=h u hu;⟨r,h1.same s,h2⟩
theorem aO.app {ok:Rw->Prop}{ws:List V}(h:aO ok H us)(k:aO ok H ws):aO ok H (us++ws):=λu hu=>by
 rcases List.mem_append.mp hu with z | z
 . exact h u z
 . exact k u z
theorem aO.one {ok:Rw->Prop}{u:V}(h:ik H u r)(k:ok r):aO ok H [u]:=λv hv=>by rw[List.mem_singleton.mp hv];exact⟨r,h,k⟩
theorem aO.nil {ok:Rw->Prop}:aO ok H []:=λu hu=>by cases hu
def Gq (a:bH):Sp:=λvs H Q _=>∃ (u:V) (r:Rw),vs=[u]/\ik H u r/\iD r/\∀ x H',ao H H'->H x=none->bD a H' x r->Q (.ref x) H'
def GH:Sp:=λvs H Q _=>∃ c m:Int,vs=[.int c,.int m]/\1<=m/\m<=450/\∀ u r H',ao H H'->ik H' u r->iD r->Q u H'
def ON (K:W.Frag):Sp:=λvs H Q _=>∃ (lc ls:Addr) (cs ss:List Int) (sp at_:Int),vs=[.ref lc,.ref ls,.int sp,.int at_]/\ar K H lc (cs.map V.int)/\cs.length<=63/\ar K H ls (ss.map V.int)/\ss.length<=4/\(∀ s∈ss,0<=s/\s<=7)/\-1<=sp/\sp<=5/\0<=at_/\at_<=1000 /\
 ∀ l us H',ao H H'->H' l=some (.lst us)->us.length<=2*cs.length->aO fJ H' us->Q (.ref l) H'
def Gx (K:W.Frag)(N:Nat):Sp:=λvs H Q _=>∃ (a0:Addr) (ns:List Int),vs=[.ref a0]/\ar K H a0 (ns.map V.int)/\ns.length<=63 /\
 ∀ t l d us ls H',ao H H'->H' t=some (.tup [.ref l,.ref d])->H l=none->H d=none->l≠d->H' l=some (.lst us)->1<=us.length->us.length<=N->aO iD H' us->H' d=some (.dK (aw ls))->dN ls->Q (.ref t) H'
def KH (oe:Option Ent):Prop:=∀ e,oe=some e->e.nn/\0<=e.h/\e.h<=4000
theorem aO.cons {ok:Rw->Prop}{u:V}(h:ik H u r)(k:ok r)(t:aO ok H us):aO ok H (u::us):=λv hv=>by
 rcases List.mem_cons.mp hv with rfl | z
 . exact⟨r,h,k⟩
 . exact t v z
theorem qp {K:W.Frag}{ok:Rw->Prop}(hl:H l=some (.lst us))(t:aO ok H us)(h0 : 0<=i)(h1:i<(us.length:Nat))(q:∀ u r,ik H u r->ok r->Q u H):bJ K (.ref l) (.int i) H Q:=by
 obtain⟨j,rfl⟩:=abd h0;have hj:j<us.length:=by omega
 obtain⟨r,h2,h3⟩:=t us[j] (aaY hj);exact b8 (ar.of hl) (bG (aaa hj)) (q _ r h2 h3)
theorem bT {K:W.Frag}{x:V}{b:Bool}(h:H p=some (.lst xs))(f1:dR x=true)(f2:xs.all dR=true)(e:eY x xs=b)(q:∀ Hx,ao H Hx->Q (.bl b) Hx):xF K false x (.ref p) H Q:=eA (ar.of h) f1 f2 (by rw[e];exact q H (ao.refl _))
def N_ (K:W.Frag):Sp:=λvs H Q _=>∃ c:Int,vs=[.int c]/\∀ u oe H',ao H H'->iV K H' u oe->KH oe->Q u H'
theorem Bh (xs:List Int){k:Int}(hj : 0<=j)(h0 : 0<=k):(cR xs (some j) (some (j+k))).length<=k.toNat:=by
 unfold cR;obtain⟨n,rfl⟩:=abd hj;rw[show HT.bh xs.length 0 (some ((n:Nat):Int))=min n xs.length from HT.jg _ _ n,show((n:Nat):Int)+k=((n+k.toNat:Nat):Int) from by omega,HT.jg,aaz,abz];refine aaL (Nat.min_le_left _ _) ?_;rcases Nat.le_total n xs.length with h | h
 . rw[adq h];exact Nat.sub_le_of_le_add (aaL (Nat.min_le_left _ _) (acw (Nat.add_comm _ _)))
 . rw[Nat.min_eq_right h];exact aaL (Nat.sub_le_sub_right (Nat.min_le_right _ _) _) (by rw[Nat.sub_self];exact aaU _)
theorem Lz {sp:Sp}{j:Nat}{t:TA}{th:TS}{D:Ends}(h:t Z H λvs H1=>sp vs H1 (λv H2=>D.nx (Z.set j (some v)) H2) λc _ H2=>c=.ref C/\th { nx:=λZ' H'=>D.nx Z' H',rt:=λ_ _=>False } Z H2):JS (JN sp j t) C th D Z H:=h
theorem LF {c r:Int}(h:dN ls)(hl:ls.length<60)(r1 : -10000<=r)(r2:r<=10000):∃ V6,putK (aw ls) (.inl c) (.int r)=aw V6/\dN V6/\V6.length<=ls.length+1:=by
 obtain⟨h1,h2,h3⟩:=h;by_cases hm:c∈ls.map (·.1)
 . refine ⟨ls.map λp => if p.1 = c then (p.1, r) else p, ?_, ⟨?_, by rw [aac]; omega, λp hp => ?_⟩, by rw [aac]; omega⟩
   . unfold putK;rw [jS];obtain ⟨p,hp,rfl⟩:=List.mem_map.mp hm;rw [(hG h1 p hp).1,if_pos (show (some (V.int p.2)).isSome=true from rfl)];unfold aw;rw [abe,abe];refine List.map_congr_left λq _=>?_;show (if (Sum.inl q.1:Key)=Sum.inl p.1 then ((Sum.inl q.1:Key),V.int r) else (Sum.inl q.1,V.int q.2))=(Sum.inl (if q.1=p.1 then (q.1,r) else q).1,V.int (if q.1=p.1 then (q.1,r) else q).2)
     by_cases e:q.1=p.1
     . rw[if_pos (by rw[e]),if_pos e]
     . rw[if_neg (λz=>e (acZ z)),if_neg e]
   . rw[abe, show((λx : Int × Int => x.1) ∘ λp : Int × Int => if p.1 = c then (p.1, r) else p) = λp => p.1 from funext λp => by
       show(if p.1=c then (p.1,r) else p).1=p.1;split <;> rfl]
     exact h1
   . obtain⟨p', hp', rfl⟩ := List.mem_map.mp hp;split
     . exact⟨r1,r2⟩
     . exact h3 p' hp'
 . refine ⟨ls ++ [(c, r)], zS (iI hm), ⟨?_, by rw [aab, aaF]; omega, λp hp => ?_⟩, by rw [aab, aaF]; omega⟩
   . rw [aaE,List.nodup_append];refine ⟨h1,by simp,λx hx y hy z=>?_⟩
     have:y=c:=by simpa using hy
     rw[z,this] at hx;exact hm hx
   . rcases List.mem_append.mp hp with hp | hp
     . exact h3 p hp
     . rw[List.mem_singleton.mp hp];exact⟨r1,r2⟩
theorem aP {K:W.Frag}{a:Addr}(e:ao H H')(h:ar K H a xs):ar K H' a xs:=by
 rcases h with (h | ⟨o,h⟩) | h
 . exact .inl (.inl (e _ _ h))
 . exact .inl (.inr ⟨o,e _ _ h⟩)
 . exact .inr h
theorem CM {K:W.Frag}{l2:Addr}(h:H l=some (.lst []))(h2:H l2=some (.lst []))(q:Q (.bl false) H):gm K (.ref l) (.ref l2) H Q∨ml K (.ref l) (.ref l2) H Q:=.inl (Qi (.list []) (jJ (ar.of h) cK) (jJ (ar.of h2) cK) rfl q)
theorem C2 {K:W.Frag}{l2:Addr}(h:H l=some (.lst us))(h2:H l2=some (.lst []))(hu:us.length≠0)(q:Q (.bl true) H):gm K (.ref l) (.ref l2) H Q∨ml K (.ref l) (.ref l2) H Q:=.inr ⟨l,l2,_,_,rfl,rfl,ar.of h,ar.of h2,hu,q⟩
theorem aO.off {ok:Rw->Prop}(h:aO ok H us)(hl:H l=some (.lst xs)):aO ok (upd H l o) us:=λu hu=>by
 obtain⟨r,⟨p,e,k⟩,h2⟩:=h u hu;exact⟨r,⟨p,e,by rw[ak (λz=>by rw[z,hl] at k;cases k)];exact k⟩,h2⟩
theorem eB (h0 : 0<=i)(h1:i<(ns.length:Nat)):∃ t∈ns,cT (ns.map V.int) i=some (.int t):=by
 obtain⟨j,rfl⟩:=abd h0;have S9:j<ns.length:=by lia
 exact⟨ns[j],aaY S9,bG (by rw[aah,aaa S9];rfl)⟩
theorem GG {K:W.Frag}{a b:Addr}{g:TG}{tc:TT}{te:TE}{Ta:List V->Hp->Prop}(hy:ys.length=xs.length)(Pv:Nat->List V->L2.St->Hp->Prop)(h0:Pv 0 [] Z H)(hl:∀ i zs Z H,i<=xs.length->Pv i zs Z H->(ar K H a xs/\ar K H b ys)/\zs.length<=aal)
   (hs:∀ i x y T zs Z H,xs[i]? = some x->ys[i]? = some y->Pv i zs Z H->H T=none->g (.ref T) Z (upd H T (.tup [x,y])) λZ3 H3=>tc Z3 H3 λb H4=>if b=true then te Z3 H4 λy H5=>Pv (i+1) (zs++[y]) Z3 H5 else Pv (i+1) zs Z3 H4) (hd:∀ zs Z H,Pv xs.length zs Z H->Ta zs H):iA (EK K a b) g tc te Ta Z H:=by
 refine⟨λi m zs Z H=>m=xs.length - i/\i<=xs.length/\Pv i zs Z H,⟨xs.length,by simp,aaU _,h0⟩,?_⟩;rintro i m zs Z H ⟨rfl,hi,p⟩;obtain⟨⟨q1,q2⟩,hz⟩:=hl i zs Z H hi p;by_cases S9:i<xs.length
 . refine .inr ⟨⟨xs, ys, xs[i], ys[i]'(by lia), q1, q2, by simp[S9], by simp[show i < ys.length by lia]⟩, Pv (i + 1), λzs2 Z' H' p' => ⟨(hl (i + 1) zs2 Z' H' S9 p').2, xs.length - (i + 1), by lia, rfl, S9, p'⟩, λx H' y => ?_⟩;obtain⟨T,x',y',rfl,hT,rfl,hxy⟩:=y;obtain⟨z1,z2⟩:=hxy _ _ q1 q2;exact hs i x' y' T zs Z H z1 z2 p hT
 . have e : i = xs.length := by lia
   subst e;exact .inl ⟨⟨xs,ys,q1,q2,.inl (aag _)⟩,hz,hd zs Z H p⟩
theorem Lr {c r:Int}(h:dN ls)(hl:ls.length<63)(r1 : -10000<=r)(r2:r<=10000):∃ V6,putK (aw ls) (.inl c) (.int r)=aw V6/\dN V6/\V6.length<=ls.length+1:=by
 obtain⟨h1,h2,h3⟩:=h;by_cases hm:c∈ls.map (·.1)
 . refine ⟨ls.map λp => if p.1 = c then (p.1, r) else p, ?_, ⟨?_, by rw [aac]; omega, λp hp => ?_⟩, by rw [aac]; omega⟩
   . unfold putK;rw [jS];obtain ⟨p,hp,rfl⟩:=List.mem_map.mp hm;rw [(hG h1 p hp).1,if_pos (show (some (V.int p.2)).isSome=true from rfl)];unfold aw;rw [abe,abe];refine List.map_congr_left λq _=>?_;show (if (Sum.inl q.1:Key)=Sum.inl p.1 then ((Sum.inl q.1:Key),V.int r) else (Sum.inl q.1,V.int q.2))=(Sum.inl (if q.1=p.1 then (q.1,r) else q).1,V.int (if q.1=p.1 then (q.1,r) else q).2)
     by_cases e:q.1=p.1
     . rw[if_pos (by rw[e]),if_pos e]
     . rw[if_neg (λz=>e (acZ z)),if_neg e]
   . rw[abe, show((λx : Int × Int => x.1) ∘ λp : Int × Int => if p.1 = c then (p.1, r) else p) = λp => p.1 from funext λp => by
       show(if p.1=c then (p.1,r) else p).1=p.1;split <;> rfl]
     exact h1
   . obtain⟨p', hp', rfl⟩ := List.mem_map.mp hp;split
     . exact⟨r1,r2⟩
     . exact h3 p' hp'
 . refine ⟨ls ++ [(c, r)], zS (iI hm), ⟨?_, by rw [aab, aaF]; omega, λp hp => ?_⟩, by rw [aab, aaF]; omega⟩
   . rw [aaE,List.nodup_append];refine ⟨h1,by simp,λx hx y hy z=>?_⟩
     have:y=c:=by simpa using hy
     rw[z,this] at hx;exact hm hx
   . rcases List.mem_append.mp hp with hp | hp
     . exact h3 p hp
     . rw[List.mem_singleton.mp hp];exact⟨r1,r2⟩
def Qg (K:W.Frag):Sp:=λvs H Q _=>∃ (lc:Addr) (cs:List Int) (c at_:Int),vs=[.int c,.ref lc,.int at_]/\ar K H lc (cs.map V.int)/\cs.length<=63/\0<=at_/\at_<=400 /\
 ∀ t l us e H',ao H H'->H' t=some (.tup [.ref l,.int e])->H' l=some (.lst us)->1<=us.length->us.length<=2*cs.length+11->aO fJ H' us->0<=e->e<=1000->Q (.ref t) H'
theorem KQ (xs:List Int):(cR xs none (some 1)).length+(cR xs (some 1) none).length=xs.length:=by
 rw[fU _ (by decide)];unfold cR;rw[show HT.bh xs.length 0 (some (1:Int))=min 1 xs.length from HT.jg _ _ 1,show HT.bh xs.length xs.length none=xs.length from rfl,aaz,aaz,abz];show min 1 xs.length+_=_
 lia
theorem aO.NO {ok:Rw->Prop}{kv:List (Key×V)}(h:aO ok H us)(hl:H l=some (.dK kv)):aO ok (upd H l o) us:=λu hu=>by
 obtain⟨r,⟨p,e,k⟩,h2⟩:=h u hu;exact⟨r,⟨p,e,by rw[ak (λz=>by rw[z,hl] at k;cases k)];exact k⟩,h2⟩
theorem pR {kv:List (Key×V)}(h:H p=some (.lst us))(hl:H l=some (.dK kv)):upd H l o p=some (.lst us):=by
 rw[ak (λz=>by rw[z,hl] at h;cases h)];exact h
theorem aI.off {K:W.Frag}{o':HO}(h:H l=some o)(ho:(∃ xs,o=.lst xs)∨∃ kvs,o=.dK kvs)(q:aI K H p ys):aI K (upd H l o') p ys:=by
 rcases q with (q | ⟨u,q⟩) | q
 . exact .inl (.inl (by rw[ak (λz=>by rw[z,h] at q;cases q;rcases ho with ⟨_,e⟩ | ⟨_,e⟩ <;> cases e)];exact q))
 . exact .inl (.inr ⟨u,by rw[ak (λz=>by rw[z,h] at q;cases q;rcases ho with ⟨_,e⟩ | ⟨_,e⟩ <;> cases e)];exact q⟩)
 . exact .inr q
theorem bK.off {K:W.Frag}{o':HO}(q:bK K H vs es)(h:H l=some o)(ho:(∃ xs,o=.lst xs)∨∃ kvs,o=.dK kvs):bK K (upd H l o') vs es:=by
 refine⟨q.1,λi oe e=>?_⟩;obtain⟨v,e1,e2⟩:=q.2 i oe e;refine⟨v,e1,?_⟩;cases oe with
 | none=>exact e2
 | some en =>
   obtain⟨p,rfl,qq,h1,h2⟩:=e2;exact⟨p,rfl,qq,aI.off h ho h1,aI.off h ho h2⟩
theorem bK.set {K:W.Frag}{v:V}{j:Nat}(h:bK K H vs es)(hv:iV K H v oe):bK K H (vs.set j v) (es.set j oe):=by
 refine⟨by rw[aa0,aa0];exact h.1,λi o ho=>?_⟩;rw[List.getElem?_set] at ho ⊢;rw[h.1];by_cases e:j=i
 . rw[if_pos e] at ho ⊢;by_cases k:j<es.length
   . rw[if_pos k] at ho ⊢;cases ho
     exact⟨v,rfl,hv⟩
   . rw[if_neg k] at ho;cases ho
 . rw[if_neg e] at ho ⊢;exact h.2 i o ho
theorem NK:∀ n:Nat,0<n->∃ i,n.testBit i=true/\Bt.wo n (n - 1)=2 ^ i:=by
 intro n
 induction n using Nat.strongRecOn with
 | _ n ih =>
   intro hn;rcases Nat.mod_two_eq_zero_or_one n with hm | hm
   . obtain⟨i, h1, h2⟩ := ih (n / 2) (by omega) (by omega);refine⟨i+1,by rw[ab7];exact h1,?_⟩;have hand:n &&& (n - 1)=2*((n/2) &&& (n/2 - 1)):=by
       apply abp;intro k;cases k with
       | zero=>rw[aaT,ab6,ab6,ab6];simp[hm]
       | succ k =>
         rw[aaT,ab7,ab7,ab7,show 2*((n/2) &&& (n/2 - 1))/2=(n/2) &&& (n/2 - 1) from by omega,aaT,show(n - 1)/2=n/2 - 1 from by omega]
     unfold Bt.wo at h2 ⊢;rw[hand,Nat.pow_succ];have VV:(n/2) &&& (n/2 - 1)<=n/2:=acL;omega
   . refine⟨0, by rw[ab6]; simp[hm], ?_⟩;have hand:n &&& (n - 1)=n - 1:=by
       apply abp;intro k;cases k with
       | zero=>rw[aaT,ab6,ab6];simp;omega
       | succ k =>
         rw[aaT,ab7,ab7,show(n - 1)/2=n/2 from by omega,Bool.and_self]
     unfold Bt.wo;rw[hand];omega
theorem Lv (h : 0<s):∃ i:Nat,lowP s=i/\s.toNat.testBit i=true:=by
 obtain⟨n,rfl⟩:∃ n:Nat,s=(n:Int):=⟨s.toNat,by lia⟩
 obtain⟨i,h1,h2⟩:=NK n (by lia);exact⟨i,ML (by lia) h2,h1⟩
def Hd (s h:Int)(bx:Nat->Option Int)(pl:List Int)(n v:Int):Prop:=0<s/\∀ i:Nat,s.toNat.testBit i=true->(i:Int)<8+h/\(i<8->bx i=some v)/\(8<=i->gI pl (n+i - 8)=v)
structure JH (e:Ent)(bx:Nat->Option Int)(pl:List Int)(c:bM):Prop where
 b:Hd e.b e.h bx pl c.n c.r
 v4:Hd e.v4 e.h bx pl c.n c.a
 v5:Hd e.v5 e.h bx pl c.n c.b
 v6:Hd e.v6 e.h bx pl c.n c.c
def fY (bs:List Int)(i:Nat):Option Int:=some (gI bs (i:Int))
def oW (c:bM)(i:Nat):Option Int:=if i=4 then some c.a else if i=5 then some c.b else if i=6 then some c.c else none
def J8 (es:List (Option Ent))(pl:List Int):Int->(Nat->Option Int)->Int->List bM->Prop
 | at',_,_,[]=>at'=es.length
 | at',bx,n,c::cs=>∃ e,(0<=at'/\at'<es.length)/\es[at'.toNat]?.join=some e/\0<=e.h/\0<=c.n/\c.n=n - e.h/\JH e bx pl c/\J8 es pl c.r (oW c) c.n cs
variable {bx:Nat->Option Int}
theorem LH {v:Int}{pl:List Int}{kn:List V}(H:Hd s h bx pl n v)(h0 : 0<=h)(n0 : 0<=n)(hl:n+h<=pl.length)(hk:∀ i,i<8->∀ v,bx i=some v->kn[i]? = some (.int v)) :
   bt s kn ((pl.take (n+h).toNat).drop ((((pl.take (n+h).toNat).length:Int) - h).toNat))=.int v:=by
 obtain⟨hs,hb⟩:=H;obtain⟨i,e,t⟩:=Lv hs;obtain⟨h1,h2,h3⟩:=hb i t;have S4:(pl.take (n+h).toNat).length=(n+h).toNat:=by rw[aaz];lia
 unfold bt;rw[if_neg (by lia),e];by_cases h8:i<8
 . rw[if_pos (by lia), show((i : Int)).toNat = i from by lia, aar, hk i h8 v (h2 h8)];rfl
 . have e1 : (((n + h).toNat : Int) - h).toNat = n.toNat := by rw [aa2 (Int.add_nonneg n0 h0), Int.add_sub_cancel]
   have i8:(0:Int)<=(i:Int) - 8:=by lia
   have e2:n.toNat+((i:Int) - 8).toNat=(n+(i:Int) - 8).toNat:=by rw[<- Int.toNat_add n0 i8,Int.add_sub_assoc]
   have e3:n.toNat+((i:Int) - 8).toNat<(n+h).toNat:=by rw[Int.toNat_add n0 h0];exact Nat.add_lt_add_left ((Int.toNat_lt' (by lia)).mpr (by rw[aa2 h0];lia)) _
   rw[if_neg (by lia),S4,if_pos (by rw[abz,S4];lia)];have h4:=h3 (by lia);unfold gI at h4 ⊢;rw[aar] at h4 ⊢;rw[List.getElem?_drop,List.getElem?_take,e1,if_pos e3,e2,h4]
theorem AE {pl:List Int}:∀ (cs:List bM) (f:Nat) (at':Int) (bx:Nat->Option Int) (kn:List V) (n:Int),J8 es pl at' bx n cs->cs.length<=f->n<=pl.length->(∀ i,i<8->∀ v,bx i=some v->kn[i]? = some (.int v))->bq es f at' kn (pl.take n.toNat)=(cs,none)
 | [],f,at',bx,kn,n,h,_,_,_=>xK h
 | c::cs,0,_,_,_,_,_,hf,_,_=>by cases hf
 | c :: cs, f + 1, at', bx, kn, n, h, hf, hn, hk => by
   obtain⟨e,⟨a0,a1⟩,he,eh,cn,en,F,rest⟩:=h;have n1:n=c.n+e.h:=by lia
   have S4:((pl.take n.toNat).length:Int)=n:=by rw[aaz];lia
   have lk:∀ {s v:Int},Hd s e.h bx pl c.n v->bt s kn ((pl.take n.toNat).drop ((((pl.take n.toNat).length:Int) - e.h).toNat))=.int v:=λ{s v} q=>by
     have z:=LH q eh cn (by lia) hk;rw[<- n1] at z;exact z
   have hs:dX es at' kn (pl.take n.toNat)=some c:=by
     unfold dX;rw[if_pos ⟨a0,a1⟩];have hg:es.getD at'.toNat none=some e:=by
       rw[aar];cases hx:es[at'.toNat]? with
       | none=>rw[hx] at he;cases he
       | some o=>rw[hx] at he;exact he
     rw[hg];show(if 0<=e.h/\e.h<=((pl.take n.toNat).length:Int) then gF e kn (pl.take n.toNat) else none)=some c;rw[if_pos ⟨eh,by lia⟩];unfold gF;rw[lk F.b,lk F.v4,lk F.v5,lk F.v6];show some (bM.mk c.r c.a c.b c.c (((pl.take n.toNat).length:Int) - e.h))=some c;rw[S4,<- en]
   have ih:=AE cs f c.r (oW c) (iq c) c.n rest (Nat.le_of_succ_le_succ hf) (by lia) (λi hi v hv=>by
     unfold oW at hv;split at hv
     . rename_i z;subst z;cases hv;rfl
     split at hv
     . rename_i z;subst z;cases hv;rfl
     split at hv
     . rename_i z;subst z;cases hv;rfl
     cases hv)
   rw[xP (by lia) hs,List.take_take,show min c.n.toNat n.toNat=c.n.toNat from by lia,ih]
theorem MA (L:Lb rs es ls)(hn:∀ t,some t∈es->t.nn):∀ oe∈es,KH oe:=by
 intro oe ho e he;subst he;obtain⟨i,hi,e2⟩:=List.getElem_of_mem ho;have hir:i<rs.length:=by rw[<- L.len];exact hi
 have h:=L.own i rs[i] e (aaa hir) (by rw[aaa hi,e2];rfl);unfold d9 at h;by_cases hw:du e=true
 . rw[if_pos hw] at h;cases h
 . refine⟨hn e ho,?_⟩;unfold du at hw;simp only[Bool.or_eq_true,decide_eq_true_eq,not_or] at hw
   lia
structure Fb (H H':Hp):Prop where
 s:ao H H'
theorem aO.set {ok:Rw->Prop}{u:V}{j:Nat}(h:aO ok H us)(k:ik H u r)(o:ok r):aO ok H (us.set j u):=λv hv=>by
 rcases acT hv with z | z
 . exact h v z
 . rw[z];exact⟨r,k,o⟩
def gU (s:Nat)(h:Int)(bx:Nat->Option Int)(pl:List Int)(n v:Int):Prop:=∀ i:Nat,s.testBit i=true->(i:Int)<8+h/\(i<8->bx i=some v)/\(8<=i->gI pl (n+i - 8)=v)
structure Rn (k:Nat->Nat)(e:Ent)(bx:Nat->Option Int)(pl:List Int)(c:bM):Prop where
 b:gU (k e.b.toNat) e.h bx pl c.n c.r
 v4:gU (k e.v4.toNat) e.h bx pl c.n c.a
 v5:gU (k e.v5.toNat) e.h bx pl c.n c.b
 v6:gU (k e.v6.toNat) e.h bx pl c.n c.c
def rN (rs:List Rw)(es:List (Option Ent))(pl:List Int):bM->List bM->Prop
 | c,[]=>c.r=es.length
 | c,c2::cs=>∃ (t:Int) (e:Ent),(1<=c.r/\c.r<=es.length)/\rs[(c.r - 1).toNat]? = some (.call t)/\es[(c.r - 1).toNat]?.join=some e/\0<=e.h/\0<=c2.n/\c2.n=c.n - e.h/\Rn (λs=>Bt.wo s 143) e (oW c) pl c2/\rN rs es pl c2 cs
def Act (rs:List Rw)(es:List (Option Ent))(pl:List Int)(at':Int)(bs:List Int):List bM->Prop
 | []=>at'=es.length
 | c::cs=>∃ e,(0<=at'/\at'<es.length)/\es[at'.toNat]?.join=some e/\0<=e.h/\0<=c.n/\c.n=pl.length - e.h/\JH e (fY bs) pl c/\rN rs es pl c cs
theorem gU.sub {s t:Nat}{bx':Nat->Option Int}{pl:List Int}{v:Int}(H:gU s h bx pl n v)(k:Sub t s)(m:∀ i v,bx i=some v->bx' i=some v):gU t h bx' pl n v:=λi hi=>by
 obtain⟨h1,h2,h3⟩:=H i (Sub.iff.mp k i hi);exact⟨h1,λz=>m i v (h2 z),h3⟩
theorem gU.hd {v:Int}{pl:List Int}(H:gU s.toNat h bx pl n v)(p : 0<s):Hd s h bx pl n v:=⟨p,H⟩
theorem Ga (L:Lb rs es ls){i:Nat}(he:es[i]?.join=some e):(0<=e.h/\e.h<=4000)/\0<e.b/\0<e.v4/\0<e.v5/\0<e.v6:=by
 have hi:i<es.length:=by
   by_cases h:i<es.length
   . exact h
   . rw[abS (by omega)] at he;cases he
 have hir:i<rs.length:=by rw[<- L.len];exact hi
 have h:=L.own i rs[i] e (aaa hir) he;unfold d9 at h;by_cases hw:du e=true
 . rw[if_pos hw] at h;cases h
 . unfold du at hw;simp only[Ent.dG,abA,List.any_nil,jZ,Bool.or_eq_true,decide_eq_true_eq,not_or,adO] at hw;exact⟨⟨Int.not_lt.mp hw.1,Int.not_lt.mp hw.2.1⟩,Int.not_le.mp hw.2.2.1.1,Int.not_le.mp hw.2.2.2.1.1,Int.not_le.mp hw.2.2.2.2.1.1,Int.not_le.mp hw.2.2.2.2.2.1⟩
theorem wB (L:Lb rs es ls){x:Int}{bx bx':Nat->Option Int}{pl:List Int}(w:fE r e x es=none)(hh:r.aE e.h=some h)(F:∀ t:Ent,t.h=h->gU (r.keep e.b.toNat e.h) t.h bx' pl c.n c.r/\gU (r.keep e.v4.toNat e.h) t.h bx' pl c.n c.a/\gU (r.keep e.v5.toNat e.h) t.h bx' pl c.n c.b/\gU (r.keep e.v6.toNat e.h) t.h bx' pl c.n c.c) :
   (0<=x/\x<es.length)/\∃ t,es[x.toNat]?.join=some t/\t.h=h/\0<=t.h/\JH t bx' pl c:=by
 obtain⟨x0,x1,t,ht,hth,hl⟩:=Pa w;have e1:t.h=h:=by rw[hh] at hth;cases hth;rfl
 obtain⟨s1,s2,s3,s4⟩:=LX hl;obtain⟨⟨t0,_⟩,p1,p2,p3,p4⟩:=Ga L ht;obtain⟨k1,k2,k3,k4⟩:=F t e1;exact⟨⟨x0,x1⟩,t,ht,e1,t0,(k1.sub s1 λ_ _ z=>z).hd p1,(k2.sub s2 λ_ _ z=>z).hd p2,(k3.sub s3 λ_ _ z=>z).hd p3,(k4.sub s4 λ_ _ z=>z).hd p4⟩
theorem CO {pl:List Int}(L:Lb rs es ls):∀ (cs:List bM) (c:bM),rN rs es pl c cs->J8 es pl c.r (oW c) c.n cs
 | [],c,h=>h
 | c2 :: cs, c, h => by
   obtain⟨t,e,⟨r1,r2⟩,hr,he,e0,n0,hn,F,rest⟩:=h;have w:=L.way _ _ e c.r hr he (by
     show c.r∈[((c.r - 1).toNat:Int)+1];rw[List.mem_singleton];lia)
   obtain⟨b1,t2,US,hh,h0,F2⟩:=wB L w (h:=e.h) (bx:=oW c) (bx':=oW c) (pl:=pl) (c:=c2) rfl (λt2 h2=>by rw[h2];exact⟨F.b,F.v4,F.v5,F.v6⟩);exact⟨t2,b1,US,h0,n0,by lia,F2,CO L cs c2 rest⟩
theorem Ll {pl bs:List Int}(L:Lb rs es ls):∀ {cs:List bM},Act rs es pl at' bs cs->J8 es pl at' (fY bs) pl.length cs
 | [],h=>h
 | c :: cs, h => by
   obtain⟨e,b1,he,e0,n0,hn,F,S⟩:=h;exact⟨e,b1,he,e0,n0,hn,F,CO L cs c S⟩
theorem gU.below {s:Nat}{v m:Int}{pl:List Int}(H:gU s h bx pl n v)(n0 : 0<=n)(hm:n+h<=m)(k:∀ j:Int,0<=j->j<m->gI Tu j=gI pl j):gU s h bx Tu n v:=λi hi=>by
 obtain⟨h1,h2,h3⟩:=H i hi;exact⟨h1,h2,λz=>by rw[k _ (by lia) (by lia)];exact h3 z⟩
theorem pX {pl:List Int}:∀ (cs:List bM) (c:bM),(∀ j:Int,0<=j->j<c.n->gI Tu j=gI pl j)->rN rs es pl c cs->rN rs es Tu c cs
 | [],_,_,h=>h
 | c2 :: cs, c, k, h => by
   obtain⟨t,e,r1,hr,he,e0,n0,hn,F,rest⟩:=h;exact⟨t,e,r1,hr,he,e0,n0,hn,⟨F.b.below n0 (by lia) k,F.v4.below n0 (by lia) k,F.v5.below n0 (by lia) k,F.v6.below n0 (by lia) k⟩,pX cs c2 (λj j0 j1=>k j j0 (by lia)) rest⟩
theorem Lu {d n' v q:Int}{bs pl:List Int}(ok:r.ok)(h0 : 0<=h)(hl:h<=pl.length)(h8:bs.length=8)(hd:r.aE h=some d)(hr:r.run n bs pl=some (n',Ut,Tu))(hq:q=pl.length - h)(H:Hd s h (fY bs) pl q v) :
   gU (r.keep s.toNat h) d (fY Ut) Tu q v:=by
 have K:=vh (s:=s.toNat) (v:=v) ok h0 hl h8 hd hr (λi hi=>by
   obtain⟨h1,h2,h3⟩:=H.2 i hi;refine⟨h1,?_⟩;unfold fv;split
   . have z := h2 (by lia);unfold fY at z;injection z
   . rw[<- hq];exact h3 (by lia))
 intro i hi;obtain⟨b1,b2⟩:=K.bits i hi;have S4:=K.len;unfold fv at b2;refine⟨b1,λz=>?_,λz=>?_⟩
 . rw[if_pos (by lia)] at b2;unfold fY;rw[b2]
 . rw[if_neg (by lia), S4, <- hq] at b2;exact b2
theorem LK {pl:List Int}{k:Nat}(h:Tu.take k=pl.take k)(h0 : 0<=j)(h1:j<k):gI Tu j=gI pl j:=by
 rw[<- y6 (xs:=Tu) h0 h1,h,y6 h0 h1]
variable {cs:List bM}
theorem GZ {pl bs:List Int}{nx:Int}(L:Lb rs es ls)(A:Act rs es pl at' bs cs)(hr:rs[at'.toNat]? = some r)(a0 : 0<=at')(ok:r.ok)(h8:bs.length=8)(c1:r.isCall=false)(c2:r.d_=false)(c3:r.dS=false)(run:r.run at' bs pl=some (nx,Ut,Tu)):Act rs es Tu nx Ut cs/\(0<=nx/\nx<es.length):=by
 cases cs with
 | nil =>
   have e:at'=es.length:=A
   have:at'.toNat<rs.length:=(List.getElem?_eq_some_iff.mp hr).1
   have:=L.len
   lia
 | cons c cs =>
   obtain⟨e,b1,he,e0,n0,hn,F,S⟩:=A;have Te:=L.own _ r e hr he;have hd:∃ d,r.aE e.h=some d:=by
     unfold d9 at Te;cases hx:r.aE e.h with
     | some d=>exact⟨d,rfl⟩
     | none =>
       rw[hx] at Te;split at Te
       . cases Te
       . rw[if_pos rfl] at Te;cases Te
   obtain⟨d,hd⟩:=hd;have hgo:nx∈r.dz ((at'.toNat:Nat):Int):=by
     rw[show((at'.toNat:Nat):Int)=at' from by lia]
     cases r <;> simp only[Rw.run,Rw.dz,Rw.isCall,Rw.d_,Rw.dS] at run c1 c2 c3 ⊢ <;> first
       | (cases run;simp;done) | (cases run;split <;> simp;done) | (split at run <;> cases run <;> simp;done) | (cases c1;done) | (cases c2;done) | (cases c3;done)
   have w:=L.way _ r e nx hr he hgo;have K:=vh (s:=0) (v:=0) ok e0 (by lia) h8 hd run (λi hi=>by rw[acC] at hi;cases hi);have hk:=λ{s v:Int} (H:Hd s e.h (fY bs) pl c.n v)=>Lu ok e0 (by lia) h8 hd run hn H;obtain⟨x1,t,ht,hth,t0,F2⟩:=wB L w hd (bx:=fY bs) (bx':=fY Ut) (pl:=Tu) (c:=c) (λt h2=>by rw[h2];exact⟨hk F.b,hk F.v4,hk F.v5,hk F.v6⟩);have S4:=K.len;have hbel:=K.below;refine⟨⟨t,x1,ht,t0,n0,by lia,F2,pX cs c (λj j0 j1=>LK hbel j0 (by lia)) S⟩,x1⟩
theorem Ci {s i:Nat}(h:(Bt.wo s 143).testBit i=true):s.testBit i=true/\(i=4∨i=5∨i=6∨8<=i):=by
 rw[Bt.jI,aaN,ac0] at h;refine⟨h.1,?_⟩;by_cases h8 : 8<=i
 . exact .inr (.inr (.inr h8))
 . have h2 := h.2;rcases(show i=0∨i=1∨i=2∨i=3∨i=4∨i=5∨i=6∨i=7 by lia) with z | z | z | z | z | z | z | z <;> subst z <;> first | (exact absurd h2 (by decide)) | lia
theorem u_ {k:Nat}{v:Int}{pl:List Int}(h0 : 0<=h)(k8:k<8)(e:bx k=some v):Hd (((2 ^ k:Nat):Int)) h bx pl n v:=by
 refine⟨by have:=Nat.two_pow_pos k;omega,λi hi=>?_⟩;rw[aaD,abM] at hi;have hi:k=i:=of_decide_eq_true hi;subst hi;exact⟨by omega,λ_=>e,λz=>by omega⟩
theorem Ht {pl bs:List Int}{t:Int}(L:Lb rs es ls)(A:Act rs es pl at' bs cs)(hr:rs[at'.toNat]? = some (.call t))(a0 : 0<=at')(h8:bs.length=8) :
   Act rs es pl t (sI bs 7 (at'+1)) (⟨at'+1,gI bs 4,gI bs 5,gI bs 6,pl.length⟩::cs)/\(0<=t/\t<es.length):=by
 cases cs with
 | nil =>
   have e:at'=es.length:=A
   have:at'.toNat<rs.length:=(List.getElem?_eq_some_iff.mp hr).1
   have:=L.len
   omega
 | cons c cs =>
   obtain⟨e,⟨b0,b1⟩,he,e0,n0,hn,F,S⟩:=A;obtain⟨t0,t1,ht⟩:=Mi (L.Sa _ t e hr he);have ne:∀ i:Int,0<=i->i≠7->gI (sI bs 7 (at'+1)) i=gI bs i:=λi i0 i7=>sC i0 (by decide) i7;have F0:JH ⟨0,128,16,32,64⟩ (fY (sI bs 7 (at'+1))) pl ⟨at'+1,gI bs 4,gI bs 5,gI bs 6,pl.length⟩ :=
     ⟨u_ (k := 7) (by decide) (by decide) (by show some _ = some _; rw [show ((7 : Nat) : Int) = 7 from rfl, mS (by decide) (by rw [h8]; decide)]),
      u_ (k:=4) (by decide) (by decide) (by show some _=some _;rw[show((4:Nat):Int)=4 from rfl,ne 4 (by decide) (by decide)]),
      u_ (k:=5) (by decide) (by decide) (by show some _=some _;rw[show((5:Nat):Int)=5 from rfl,ne 5 (by decide) (by decide)]),
      u_ (k:=6) (by decide) (by decide) (by show some _=some _;rw[show((6:Nat):Int)=6 from rfl,ne 6 (by decide) (by decide)])⟩
   have hk:∀ {s v:Int},Hd s e.h (fY bs) pl c.n v->gU (Bt.wo s.toNat 143) e.h (oW ⟨at'+1,gI bs 4,gI bs 5,gI bs 6,pl.length⟩) pl c.n v:=λ{s v} H i hi=>by
     obtain⟨k1,k2⟩:=Ci hi;obtain⟨h1,h2,h3⟩:=H.2 i k1;refine⟨h1,λz=>?_,h3⟩;have z2:=h2 z;rcases k2 with rfl | rfl | rfl | k2
     . exact z2
     . exact z2
     . exact z2
     . omega
   refine⟨⟨⟨0,128,16,32,64⟩,⟨t0,t1⟩,ht,by decide,by show(0:Int)<=pl.length;omega,by show(pl.length:Int)=pl.length - 0;omega,F0,?_⟩,t0,t1⟩;refine⟨t,e,⟨by show 1<=at'+1;omega,by show at'+1<=(es.length:Int);omega⟩,?_,?_,e0,n0,hn,⟨hk F.b,hk F.v4,hk F.v5,hk F.v6⟩,S⟩
   . show rs[(at' + 1 - 1).toNat]? = _;rw[show at'+1 - 1=at' from by omega];exact hr
   . show es[(at' + 1 - 1).toNat]?.join = _;rw[show at'+1 - 1=at' from by omega];exact he
theorem AO {pl bs:List Int}{x:Int}(L:Lb rs es ls)(S:rN rs es pl c cs)(hx:x=c.r∨(c.r - 1∈ls.map (·.1)/\x=lv ls (c.r - 1)/\c.r≠es.length))(hn:(pl.length:Int)=c.n)(h4:gI bs 4=c.a)(h5:gI bs 5=c.b)(h6:gI bs 6=c.c):Act rs es pl x bs cs:=by
 have mono:∀ i v,oW c i=some v->fY bs i=some v:=λi v hv=>by
   unfold oW at hv;unfold fY;split at hv
   . rename_i z;subst z;rw[<- hv,<- h4];rfl
   split at hv
   . rename_i z;subst z;rw[<- hv,<- h5];rfl
   split at hv
   . rename_i z;subst z;rw[<- hv,<- h6];rfl
   cases hv
 cases cs with
 | nil =>
   rcases hx with rfl | ⟨_,_,hx⟩
   . exact S
   . exact absurd S hx
 | cons c2 cs =>
   obtain⟨t,e,⟨r1,r2⟩,hr,he,e0,n0,hn2,F,rest⟩:=S;have w:fE (.call t) e x es=none:=by
     rcases hx with rfl | ⟨hk,rfl,_⟩
     . exact L.way _ _ e c.r hr he (by
         show c.r∈[((c.r - 1).toNat:Int)+1];rw[List.mem_singleton];lia)
     . have hl := L.land _ hk;unfold mO at hl;rw[if_pos ⟨by lia,by lia⟩,hr,he] at hl;have hl:za (.call t) (some e) (lv ls (c.r - 1)) es=none:=hl;have hl:(if (d9 (.call t) e).isSome=true then none else fE (.call t) e (lv ls (c.r - 1)) es)=none:=hl;rw[L.own _ _ e hr he] at hl;exact hl
   obtain⟨b1,t2,US,hh,h0,F2⟩:=wB L w (h:=e.h) (bx:=oW c) (bx':=fY bs) (pl:=pl) (c:=c2) rfl (λt2 h2=>by rw[h2];exact⟨F.b.sub (Sub.iff.mpr λ_ z=>z) mono,F.v4.sub (Sub.iff.mpr λ_ z=>z) mono,F.v5.sub (Sub.iff.mpr λ_ z=>z) mono,F.v6.sub (Sub.iff.mpr λ_ z=>z) mono⟩);exact⟨t2,b1,US,h0,n0,by lia,F2,rest⟩
def toC (c:Cl):bM:=⟨c.1,c.2.1,c.2.2.1,c.2.2.2.1,c.2.2.2.2⟩
def MS.bk (S:MS):List bM:=(S.calls.map toC).reverse
def iP (S:MS)(ls:List (Int×Int)):Rw->List bM
 | .call _=>⟨S.av+1,gI S.held 4,gI S.held 5,gI S.held 6,S.cells.length⟩::S.bk
 | .back _=>S.bk.drop 1
 | .drop _=>match S.bk.findIdx? (landAt S.rows.length (aw ls)) with | none=>S.bk | some i=>S.bk.drop (i+1)
 | _=>S.bk
structure Run (S:MS)(es:List (Option Ent))(ls:List (Int×Int)):Prop where
 lb:Lb S.rows es ls
 act:Act S.rows es S.cells S.av S.held S.bk
 nf:S.state ≠ "fault"
theorem Fy {pl:List Int}:∀ (cs:List bM) (c0:bM) (k:Nat) (c:bM),rN rs es pl c0 cs->cs[k]? = some c->rN rs es pl c (cs.drop (k+1))/\0<=c.n/\c.n<=c0.n
 | [],_,_,_,_,h=>by cases h
 | c2 :: cs, c0, 0, c, S, h => by
   obtain⟨t,e,r1,hr,he,e0,n0,hn,F,rest⟩:=S;cases h
   exact⟨rest,n0,by lia⟩
 | c2 :: cs, c0, k + 1, c, S, h => by
   obtain⟨t,e,r1,hr,he,e0,n0,hn,F,rest⟩:=S;obtain⟨h1,h2,h3⟩:=Fy cs c2 k c rest h;exact⟨h1,h2,by lia⟩
theorem Oh {pl bs:List Int}:∀ (cs:List bM) (k:Nat) (c:bM),Act rs es pl at' bs cs->cs[k]? = some c->rN rs es pl c (cs.drop (k+1))/\0<=c.n/\c.n<=pl.length
 | [],_,_,_,h=>by cases h
 | c0 :: cs, k, c, A, h => by
   obtain⟨e,b1,he,e0,n0,hn,F,S⟩:=A;cases k with
   | zero=>cases h;exact⟨S,n0,by lia⟩
   | succ k =>
     obtain⟨h1,h2,h3⟩:=Fy cs c0 k c S h;exact⟨h1,h2,by lia⟩
theorem uk (h:n=aU∨(0<=n/\n<aU)):aK aU n ≠ "fault":=by
 unfold aK;rcases h with h | h
 . rw[if_pos h];nofun
 . by_cases e:n=aU
   . rw[if_pos e];nofun
   . rw[if_neg e,if_pos h];nofun
theorem BF {pl bs:List Int}(A:Act rs es pl at' bs cs):at'=es.length∨(0<=at'/\at'<es.length):=by
 cases cs with
 | nil=>exact .inl A
 | cons c cs=>obtain⟨e,b1,_⟩:=A;exact .inr b1
theorem xa (R:Run S es ls)(O:c5 S)(hc:S.calls.length<=5000):bq es 5000 S.av (S.held.map V.int) S.cells=(S.bk,none):=by
 have h:=AE S.bk 5000 S.av (fY S.held) (S.held.map V.int) S.cells.length (Ll R.lb R.act) (by unfold MS.bk;rw[aa8,aac];exact hc) (acJ _) (λi hi v hv=>by
   unfold fY at hv;cases hv
   rw[aah];have h8:=O.h8;rw[aaa (by lia)];show some (V.int _)=some (V.int _);unfold gI;rw[aar,aaD,aaa (by lia)];rfl)
 rwa [aaD,aa1] at h
theorem CN (k:Nat):((S.calls.take (S.calls.length - k)).map toC).reverse=S.bk.drop k:=by
 unfold MS.bk;rw[List.map_take,<- aac (f:=toC) (as:=S.calls),List.reverse_take];by_cases h:k<=(S.calls.map toC).length
 . rw[show(S.calls.map toC).length - ((S.calls.map toC).length - k)=k from by lia]
 . rw[show(S.calls.map toC).length - ((S.calls.map toC).length - k)=(S.calls.map toC).length from by lia,List.drop_eq_nil_of_le (by rw[aa8];lia),List.drop_eq_nil_of_le (by rw[aa8];lia)]
theorem HW (R:Run S es ls)(O:c5 S)(hs:S.state = "runs")(hr:S.rows[S.av.toNat]? = some r)(c1:r.isCall=false)(c2:r.d_=false)(c3:r.dS=false)(hg:∀ m,r=.grow m->(S.cells.length:Int)+m<=4000) :
   ∃ nx Ut Tu,r.run S.av S.held S.cells=some (nx,Ut,Tu)/\S.bU r={ S with av:=nx,held:=Ut,cells:=Tu,state:=aK S.rows.length nx }/\Run (S.bU r) es ls:=by
 have az:=(O.ok r (aak hr)).1;have A:=R.act;obtain⟨c,cs,hb⟩:∃ c cs,S.bk=c::cs:=by
   cases hb:S.bk with
   | nil =>
     rw[hb] at A;have e:S.av=es.length:=A
     have:=O.rC hs
     have:=R.lb.len
     lia
   | cons c cs=>exact⟨c,cs,rfl⟩
 have Th:∃ nx Ut Tu,r.run S.av S.held S.cells=some (nx,Ut,Tu):=by
   rw[hb] at A;obtain⟨e,b1,he,e0,n0,hn,F,Ss⟩:=A;have Te:=R.lb.own _ r e hr he;have hd:r.aE e.h≠none:=λhx=>by
     unfold d9 at Te;rw[hx] at Te;split at Te
     . cases Te
     . rw[if_pos rfl] at Te;cases Te
   cases r with
   | grow m=>exact⟨_,_,_,by simp only[Rw.run];rw[if_neg (by have:=hg m rfl;lia)]⟩
   | shrink m =>
     simp only[Rw.aE] at hd;have hm : ¬ e.h<m:=λz=>hd (if_pos z);exact⟨_,_,_,by simp only[Rw.run];rw[if_neg (by lia)]⟩
   | put b k =>
     simp only[Rw.aE] at hd;have hm : ¬ e.h<=k:=λz=>hd (if_pos z);exact⟨_,_,_,by simp only[Rw.run];rw[if_neg (by lia)]⟩
   | get b k =>
     simp only[Rw.aE] at hd;have hm : ¬ e.h<=k:=λz=>hd (if_pos z);exact⟨_,_,_,by simp only[Rw.run];rw[if_neg (by lia)]⟩
   | drop b=>cases c3
   | _=>exact⟨_,_,_,rfl⟩
 obtain⟨nx,Ut,Tu,Th⟩:=Th;obtain⟨A2,b2⟩:=GZ R.lb A hr O.fM az O.h8 c1 c2 c3 Th;have VH:aK S.rows.length nx ≠ "fault":=uk (by rw[<- R.lb.len];exact .inr b2);have hbo:S.mh r=S.calls:=by
   unfold MS.mh;rw[c1,c2];rfl
 have Wa:S.bU r={ S with av:=nx,held:=Ut,cells:=Tu,state:=aK S.rows.length nx }:=by
   unfold MS.bU;rw[Th];show(if aK S.rows.length nx = "fault" then _ else _)=_;rw[if_neg VH,hbo]
 refine⟨nx,Ut,Tu,Th,Wa,?_⟩;rw[Wa];exact⟨R.lb,A2,VH⟩
theorem K3 {t:Int}(R:Run S es ls)(O:c5 S)(hr:S.rows[S.av.toNat]? = some (.call t)):Run (S.bU (.call t)) es ls/\(S.bU (.call t)).bk=iP S ls (.call t)/\(S.bU (.call t)).cells=S.cells:=by
 obtain⟨A2,b2⟩:=Ht R.lb R.act hr O.fM O.h8;have VH:aK S.rows.length t ≠ "fault":=uk (by rw[<- R.lb.len];exact .inr b2);have Wa:S.bU (.call t)={ S with av:=t,held:=sI S.held 7 (S.av+1),calls:=S.calls++[(S.av+1,gI S.held 4,gI S.held 5,gI S.held 6,(S.cells.length:Int))],state:=aK S.rows.length t }:=by
   unfold MS.bU;show(if aK S.rows.length t = "fault" then _ else _)=_;rw[if_neg VH];rfl
 rw[Wa];have hb:MS.bk { S with av:=t,held:=sI S.held 7 (S.av+1),calls:=S.calls++[(S.av+1,gI S.held 4,gI S.held 5,gI S.held 6,(S.cells.length:Int))],state:=aK S.rows.length t }=iP S ls (.call t):=by
   unfold MS.bk iP;rw[aaE,List.reverse_append];rfl
 exact⟨⟨R.lb,by rw[hb];exact A2,VH⟩,hb,rfl⟩
theorem qo {k:Nat}(p : 0<=s)(h:(aaK s ((2 ^ k:Nat):Int) != 0)=true):s.toNat.testBit k=true:=by
 obtain⟨n,rfl⟩:=abd p;rw[gR] at h;rw[aaD];cases hb:n.testBit k with
 | true=>rfl
 | false =>
   rw[(CW n k).mpr hb] at h;cases h
theorem KP (R:Run S es ls)(O:c5 S)(hr:S.rows[S.av.toNat]? = some (.back b))(hb:S.bk=c::cs):gI S.held b=c.r/\gI S.held 4=c.a/\gI S.held 5=c.b/\gI S.held 6=c.c/\(S.cells.length:Int)=c.n/\S.bU (.back b)={ S with av:=c.r,calls:=S.calls.take (S.calls.length - 1),state:=aK S.rows.length c.r }/\(MS.bk { S with av:=c.r,calls:=S.calls.take (S.calls.length - 1),state:=aK S.rows.length c.r }=S.bk.drop 1)/\Act S.rows es S.cells c.r S.held cs/\aK S.rows.length c.r ≠ "fault":=by
 have A:=R.act;have az:=(O.ok _ (aak hr)).1;rw[hb] at A;obtain⟨e,b1,he,e0,n0,hn,F,Ss⟩:=A;have Te:=R.lb.own _ _ e hr he;have hm:jA b e=true:=by
   unfold d9 at Te;by_cases hw:du e=true
   . rw[if_pos hw] at Te;cases Te
   . rw [if_neg hw, if_neg (by simp [Rw.aE])] at Te;by_cases hm:jA b e=true
     . exact hm
     . have Te : (if jA b e = true then none else some Wt.back) = none := Te;rw[if_neg hm] at Te;cases Te
 unfold jA at hm;simp only[aaN,decide_eq_true_eq] at hm;obtain⟨h0,m1,m2,m3,m4⟩:=hm;obtain⟨_,p1,p2,p3,p4⟩:=Ga R.lb he;have bx:∀ {s v:Int} {k:Nat},Hd s e.h (fY S.held) S.cells c.n v->s.toNat.testBit k=true->k<8->gI S.held (k:Int)=v:=λ{s v k} H t k8=>by
   have z:=(H.2 k t).2.1 k8;unfold fY at z;injection z
 have hbx : 0<=b/\b<=7:=az;have e1:gI S.held b=c.r:=by
   have z:=bx F.b (qo (k:=b.toNat) (by lia) m1) (by lia)
   rwa [show((b.toNat:Nat):Int)=b from by lia] at z
 have e4:gI S.held 4=c.a:=bx F.v4 (qo (k:=4) (by lia) m2) (by decide);have e5:gI S.held 5=c.b:=bx F.v5 (qo (k:=5) (by lia) m3) (by decide);have e6:gI S.held 6=c.c:=bx F.v6 (qo (k:=6) (by lia) m4) (by decide);have A2:=AO (x:=c.r) (bs:=S.held) R.lb Ss (.inl rfl) (by lia) e4 e5 e6;have VH:aK S.rows.length c.r ≠ "fault":=uk (by rw[<- R.lb.len];exact BF A2);have Wa:S.bU (.back b)={ S with av:=c.r,calls:=S.calls.take (S.calls.length - 1),state:=aK S.rows.length c.r }:=by
   unfold MS.bU;show(if aK S.rows.length (gI S.held b) = "fault" then _ else _)=_;rw[e1,if_neg VH];rfl
 exact⟨e1,e4,e5,e6,by lia,Wa,CN (S:=S) 1,A2,VH⟩
theorem K4 (R:Run S es ls)(O:c5 S)(hs:S.state = "runs")(hr:S.rows[S.av.toNat]? = some (.back b)):Run (S.bU (.back b)) es ls/\(S.bU (.back b)).bk=iP S ls (.back b)/\(S.bU (.back b)).cells=S.cells:=by
 have A:=R.act;obtain⟨c,cs,hb⟩:∃ c cs,S.bk=c::cs:=by
   cases hb:S.bk with
   | nil =>
     rw[hb] at A;have e:S.av=es.length:=A
     have:=O.rC hs
     have:=R.lb.len
     omega
   | cons c cs=>exact⟨c,cs,rfl⟩
 obtain⟨_,_,_,_,_,Wa,VN,A2,VH⟩:=KP R O hr hb;rw[Wa];exact⟨⟨R.lb,by rw[VN,hb];exact A2,VH⟩,VN,rfl⟩
theorem Ib (h:dN ls){k:Int}(e:(cP (aw ls) (.inl k)).isSome=true):k∈ls.map (·.1)/\cP (aw ls) (.inl k)=some (.int (lv ls k)):=by
 by_cases hm:k∈ls.map (·.1)
 . refine⟨hm,?_⟩;obtain⟨p,hp,rfl⟩:=List.mem_map.mp hm;obtain⟨h1,h2⟩:=hG h.1 p hp;rw[h1,h2]
 . rw[iI hm] at e;cases e
theorem He (R:Run S es ls)(O:c5 S)(hc:S.calls.length<=5000)(hf:S.bk.findIdx? (landAt S.rows.length (aw ls))=none):S.ek es (aw ls) (.drop b)={ S with state:="dropped",di:=.int (gI S.held b) }:=by
 have W:=xa R O hc;exact zV (S:=S) (kvs:=aw ls) (v:=gI S.held b) (by rw[W]) (by rw[W];exact hf)
theorem Fm {b:Int}{i:Nat}(R:Run S es ls)(O:c5 S)(Tc:dN ls)(hc:S.calls.length<=5000)(hf:S.bk.findIdx? (landAt S.rows.length (aw ls))=some i) :
   ∃ c,S.bk[i]? = some c/\cP (aw ls) (.inl (c.r - 1))=some (.int (lv ls (c.r - 1)))/\(0<=c.n/\c.n<=S.cells.length)/\S.ek es (aw ls) (.drop b)=⟨S.rows,lv ls (c.r - 1),[gI S.held b,gI S.held 1,gI S.held 2,gI S.held 3,c.a,c.b,c.c,gI S.held 7],S.cells.take c.n.toNat,S.calls.take (S.calls.length - (i+1)),S.di,aK S.rows.length (lv ls (c.r - 1))⟩ /\
     (S.ek es (aw ls) (.drop b)).bk=S.bk.drop (i+1)/\Run (S.ek es (aw ls) (.drop b)) es ls:=by
 have W:=xa R O hc;have W2:(bq es 5000 S.av (S.held.map V.int) S.cells).2=none:=by rw[W]
 have W1:(bq es 5000 S.av (S.held.map V.int) S.cells).1=S.bk:=by rw[W]
 obtain⟨hi,hp,_⟩:=List.findIdx?_eq_some_iff_getElem.mp hf;have hci:S.bk[i]? = some S.bk[i]:=aaa hi;generalize S.bk[i]=c at hp hci;unfold landAt at hp;rw[aaN,decide_eq_true_eq] at hp;obtain⟨T6,hk⟩:=hp;obtain⟨hk1,UA⟩:=Ib Tc hk;have e:=BE (S:=S) (kvs:=aw ls) (v:=gI S.held b) (i:=i) (c:=c) W2 (by rw[W1];exact hf) (by rw[W1];exact hci) UA;obtain⟨Ss,n0,n1⟩:=Oh S.bk i c R.act hci;have S4:(S.cells.take c.n.toNat).length=c.n.toNat:=by rw[aaz];lia
 have Ss2:rN S.rows es (S.cells.take c.n.toNat) c (S.bk.drop (i+1)):=pX _ c (λj j0 j1=>y6 j0 (by lia)) Ss;have A2:=AO (x:=lv ls (c.r - 1)) (bs:=[gI S.held b,gI S.held 1,gI S.held 2,gI S.held 3,c.a,c.b,c.c,gI S.held 7]) R.lb Ss2 (.inr ⟨hk1,rfl,by rw[R.lb.len];exact T6⟩) (by rw[S4];lia) rfl rfl rfl;have VH:aK S.rows.length (lv ls (c.r - 1)) ≠ "fault":=uk (by rw[<- R.lb.len];exact BF A2);have e3:S.ek es (aw ls) (.drop b)=⟨S.rows,lv ls (c.r - 1),[gI S.held b,gI S.held 1,gI S.held 2,gI S.held 3,c.a,c.b,c.c,gI S.held 7],S.cells.take c.n.toNat,S.calls.take (S.calls.length - (i+1)),S.di,aK S.rows.length (lv ls (c.r - 1))⟩:=by
   show S.dropped es (aw ls) (gI S.held b)=_;rw[e];unfold MS.landed;rw[if_neg VH]
 have VN:(S.ek es (aw ls) (.drop b)).bk=S.bk.drop (i+1):=by rw[e3];exact CN (S:=S) (i+1)
 exact⟨c,hci,UA,⟨n0,n1⟩,e3,VN,by rw[e3] at VN ⊢;exact⟨R.lb,by rw[VN];exact A2,VH⟩⟩
theorem K7 (R:Run S es ls)(O:c5 S)(Tc:dN ls)(hc:S.calls.length<=5000):Run (S.ek es (aw ls) (.drop b)) es ls/\(S.ek es (aw ls) (.drop b)).bk=iP S ls (.drop b)/\(S.ek es (aw ls) (.drop b)).cells.length<=S.cells.length:=by
 have hlb:iP S ls (.drop b)=match S.bk.findIdx? (landAt S.rows.length (aw ls)) with | none=>S.bk | some i=>S.bk.drop (i+1):=rfl
 cases hf:S.bk.findIdx? (landAt S.rows.length (aw ls)) with
 | none =>
   rw[He R O hc hf,hlb,hf];exact⟨⟨R.lb,R.act,by show("dropped" : Str) ≠ "fault";nofun⟩,rfl,aag _⟩
 | some i =>
   obtain⟨c,_,_,⟨n0,n1⟩,e3,VN,R2⟩:=Fm (b:=b) R O Tc hc hf;refine⟨R2,by rw[VN,hlb,hf],?_⟩;rw[e3];show(S.cells.take c.n.toNat).length<=_;rw[aaz];omega
theorem Ji (R:Run S es ls)(O:c5 S)(Tc:dN ls)(hs:S.state = "runs")(hr:S.rows[S.av.toNat]? = some r)(hc:S.calls.length<=5000)(hg:(S.cells.length:Int)+bO r<=4000)(g0 : 0<=bO r) :
   Run (S.bV es (aw ls)) es ls/\(S.bV es (aw ls)).bk=iP S ls r/\((S.bV es (aw ls)).cells.length:Int)<=S.cells.length+bO r:=by
 rw[sS hs hr];have plain:r.isCall=false->r.d_=false->r.dS=false->iP S ls r=S.bk->Run (S.ek es (aw ls) r) es ls/\(S.ek es (aw ls) r).bk=iP S ls r/\((S.ek es (aw ls) r).cells.length:Int)<=S.cells.length+bO r:=λc1 c2 c3 hl=>by
   rw[Dd c3];obtain⟨nx,Ut,Tu,Th,Wa,R2⟩:=HW R O hs hr c1 c2 c3 (λm e=>by rw[e] at hg;exact hg);refine⟨R2,by rw[Wa,hl];rfl,?_⟩;rw[Wa];show(Tu.length:Int)<=_;cases r with
   | drop b=>cases c3
   | grow m=>simp only[Rw.run] at Th;split at Th <;> cases Th;rw[aab,aaB];show _<=(S.cells.length:Int)+m;have : 0<=m:=g0;omega
   | shrink m=>simp only[Rw.run] at Th;split at Th <;> cases Th;rw[aaz];show _<=(S.cells.length:Int)+0;omega
   | put b k=>simp only[Rw.run] at Th;split at Th <;> cases Th;rw[dw];show _<=(S.cells.length:Int)+0;omega
   | get b k=>simp only[Rw.run] at Th;split at Th <;> cases Th;show _<=(S.cells.length:Int)+0;omega
   | _=>simp only[Rw.run] at Th;cases Th;show _<=(S.cells.length:Int)+0;omega
 cases r with
 | call t =>
   obtain⟨h1,h2,h3⟩:=K3 R O hr;exact⟨h1,h2,by show((S.bU (.call t)).cells.length:Int)<=S.cells.length+0;rw[h3];omega⟩
 | back b =>
   obtain⟨h1,h2,h3⟩:=K4 R O hs hr;exact⟨h1,h2,by show((S.bU (.back b)).cells.length:Int)<=S.cells.length+0;rw[h3];omega⟩
 | drop b =>
   obtain⟨h1,h2,h3⟩:=K7 (b:=b) R O Tc hc;exact⟨h1,h2,by show((S.ek es (aw ls) (.drop b)).cells.length:Int)<=S.cells.length+0;omega⟩
 | _=>exact plain rfl rfl rfl rfl
def HJ:Sp:=λvs H Q _=>∃ c:Int,vs=[.int c]/\∀ v H',ao H H'->isVal v->Q (.int v) H'
def jx (cs:List bM)(aU:Int)(kvs:List (Key×V)):Int:=match cs.findIdx? (landAt aU kvs) with | none=>0 | some i=>(i:Int)+1
def qJ:Sp:=λvs H Q _=>∃ (p d:Addr) (aU:Int) (us:List V) (cs:List bM) (kvs:List (Key×V)),vs=[.ref p,.ref d,.int aU]/\H p=some (.lst us)/\a8 H us cs/\us.length<=5000/\H d=some (.dK kvs)/\Q (.int (jx cs aU kvs)) H
theorem Jz {P:Program}{w:World}{X:Cx}:dE (eu P w) X (λ_ _ _=>False):=λ_ _ _ _ _ _ _ h=>by
 obtain⟨ea,C,od,H',_,_,z⟩:=h;exact z.elim
def gZ (K:W.Frag)(a:bH):Sp:=λvs H Q _=>∃ (m t lb pk pt:Addr) (S:MS) (es:List (Option Ent)) (ls:List (Int×Int)) (us:List V),vs=[.ref m,.ref t,.ref lb]/\cY a H m pk pt S/\c5 S/\TabAt K a H t pk es (aw ls)/\H lb=some (.lst us)/\a8 H us S.bk/\Run S es ls/\S.calls.length<=5000/\∀ H',ao H H'->Q (.bl true) H'
theorem Qe (S:MS):S.bk.map ny=S.calls.reverse.map Pn:=by
 unfold MS.bk;rw[<- List.map_reverse,abe];rfl
def EN (oe:Option Ent):Prop:=∀ e,oe=some e->e.nn
def RL (K:W.Frag):Sp:=λvs H Q _=>∃ (u:V) (oe:Option Ent) (c:Int),vs=[u,.int c]/\iV K H u oe/\KH oe/\∀ u' oe' H',ao H H'->iV K H' u' oe'->EN oe'->Q u' H'
def Pk (K:W.Frag)(a:bH)(H:Hp)(t:Addr)(rs:List Rw)(ls:List (Int×Int)):Prop:=∃ dt l d ev es,H t=some (.ins a.b3 dt (fR l d))/\H l=some (.lst ev)/\H d=some (.dK (aw ls))/\bK K H ev es/\es.length=rs.length/\∀ oe∈es,EN oe
def y9 (K:W.Frag)(a:bH):Sp:=λvs H Q _=>∃ (a0 c d:Addr) (ns:List Int) (prs:List Addr) (rs:List Rw) (ls:List (Int×Int)),vs=[.ref a0,.ref c,.ref d]/\ar K H a0 (ns.map V.int)/\ns.length<=63/\H c=some (.lst (prs.map V.ref))/\bL a H prs rs/\(∀ r∈rs,r.ok/\r.here)/\1<=rs.length/\rs.length<=450/\dN ls/\H d=some (.dK (aw ls))/\(∀ H',ao H H'->Q .aC H')/\∀ t H',ao H H'->Pk K a H' t rs ls->Q (.ref t) H'
theorem Fh (h:r.here):decide (V.str r.eU.1=V.str "call")=r.isCall:=by cases r <;> first | exact h.elim | kernel_rfl
theorem G9 (h:r.here):decide (V.str r.eU.1=V.str "back")=r.d_:=by cases r <;> first | exact h.elim | kernel_rfl
theorem Hb (h:r.here):decide (V.str r.eU.1=V.str "drop")=r.dS:=by cases r <;> first | exact h.elim | kernel_rfl
def oZ (H:Hp)(us:List V)(rs:List Rw):Prop:=∀ (j:Nat) (u:V) (r:Rw),us[j]? = some u->rs[j]? = some r->ik H u r
theorem oZ.snoc {u:V}{i:Nat}(h:oZ H us rs)(e:rs.length=i)(hu:us[i]? = some u)(td:ik H u r):oZ H us (rs++[r]):=λj u' r' h1 h2=>by
 by_cases hj:j<rs.length
 . rw[aas hj] at h2;exact h j u' r' h1 h2
 . have hje : j = rs.length := by
     have:=(List.getElem?_eq_some_iff.mp h2).1
     rw[aab] at this;have h9 : [r].length=1:=rfl
     lia
   subst hje;subst e;rw[hu] at h1;cases h1;rw[aaq (aag _),Nat.sub_self] at h2;cases h2;exact td
theorem oZ.to (h:oZ H us rs)(k:∀ b xs,H b=some (.tup xs)->H' b=some (.tup xs)):oZ H' us rs:=λj u r h1 h2=>let ⟨p,e,z⟩:=h j u r h1 h2;⟨p,e,k _ _ z⟩
theorem Hm (ls:List (Int×Int)):Af (aw ls):=λk v e=>by
 unfold cP at e;obtain⟨p,hp,rfl⟩:=Option.map_eq_some_iff.mp e;have hm:=List.mem_of_find?_eq_some hp;obtain⟨x,_,rfl⟩:=List.mem_map.mp hm;exact⟨_,rfl⟩
theorem a8.DN:∀ {vs:List V} {cs:List bM} (k:Nat),a8 H vs cs->a8 H (vs.drop k) (cs.drop k)
 | _,_,0,h=>h
 | [],[],_+1,_=>aan
 | _::_,_::_,k+1,h=>a8.DN k h.2
 | [],_::_,_+1,h=>h.elim
 | _::_,[],_+1,h=>h.elim
theorem uB {k:Nat}{pl:List Int}{v:Int}(hk:k<8)(h0 : 0<=h)(e:bx k=some v):Hd ((2 ^ k:Nat):Int) h bx pl n v:=by
 refine⟨by have:=Nat.two_pow_pos k;omega,λi hi=>?_⟩;rw[aaD,abM] at hi;have e2:k=i:=by simpa using hi
 subst e2;exact⟨by omega,λ_=>e,λz=>by omega⟩
theorem E5 {bs:List Int}(L:Lb rs es ls)(h : 0<rs.length)(hb:bs.length=7):Run (hJ rs bs 0) es ls:=by
 have hl:=L.len;have g7:fY (bs++[(rs.length:Int)]) 7=some (rs.length:Int):=by
   unfold fY gI;rw[aar,aaD,aaq (by lia),hb];rfl
 refine⟨L,?_,uk (.inr ⟨by decide,by show(0:Int)<(rs.length:Int);lia⟩)⟩;refine⟨⟨0,128,16,32,64⟩,⟨acJ _,by show(0:Int)<(es.length:Int);lia⟩,L.start h,acJ _,acJ _,rfl,⟨?_,?_,?_,?_⟩,by show(rs.length:Int)=(es.length:Int);lia⟩
 . exact uB (k:=7) (by decide) (by decide) g7
 . exact uB (k:=4) (by decide) (by decide) rfl
 . exact uB (k:=5) (by decide) (by decide) rfl
 . exact uB (k:=6) (by decide) (by decide) rfl
theorem DL {bs:List Int}{y:Int}(h0 : 0<=i)(h1:i<bs.length):gI (bs++[y]) i=gI bs i:=by
 unfold gI;rw[aar,aar,aas (by omega)]
theorem MT (h:r.ok) : 0<=bO r:=by
 cases r <;> first | exact h.1 | exact acJ _
theorem Gu (c1:r.isCall=false)(c2:r.d_=false)(c3:r.dS=false):iP S ls r=S.bk:=by
 cases r <;> first | rfl | (cases c1;done) | (cases c2;done) | (cases c3;done)
theorem Hh:iP S ls (.drop b)=S.bk.drop (jx S.bk S.rows.length (aw ls)).toNat:=by
 unfold iP jx;cases S.bk.findIdx? (landAt S.rows.length (aw ls)) with
 | none=>rfl
 | some i=>rw[show((i:Int)+1).toNat=i+1 by lia]
theorem L0 {cs:List bM}{aU:Int}{kvs:List (Key×V)} : 0<=jx cs aU kvs:=by
 unfold jx;split <;> lia
theorem HV {bs:List Int}(az:∀ r∈rs,r.ok/\r.here)(hr:rs.length<=450)(h1 : 0<rs.length)(hbl:bs.length=7)(hbv:∀ x∈bs,isVal x):c5 (hJ rs bs 0):=by
 refine⟨λr h=>⟨(az r h).1,λ_=>(az r h).2⟩,by show rs.length<=2000;lia,acJ _,λz=>(Es z).2,by show(bs++[(rs.length:Int)]).length=8;rw[aab,hbl];rfl,?_,λx hx=>(nomatch hx),aaU _,DB _ _⟩;intro x hx;rcases List.mem_append.mp (show x∈bs++[(rs.length:Int)] from hx) with z | z
 . exact hbv x z
 . have e : x = (rs.length : Int) := by simpa using z
   rw[e];exact⟨by lia,by lia⟩
theorem xZ (dv:List V)(k:Nat):fS dv (some (k:Int)) none=dv.drop k:=by
 unfold fS;have e1:HT.bh dv.length 0 (some (k:Int))=min k dv.length:=HT.jg _ _ k;have e2:HT.bh dv.length dv.length none=dv.length:=rfl;rw[e1,e2];by_cases h:k<=dv.length
 . rw[adq h,adf (by rw[abz];exact aag _)]
 . rw[Nat.min_eq_right (by lia),List.drop_of_length_le (aag _),List.drop_of_length_le (by lia),List.take_nil]
theorem FP:("dropped" : Str) ≠ "runs":=by nofun
theorem QI:PyData.strOk "dropped" = true:=by nofun
theorem c5.landed (o:c5 S){v:Int}{k:Nat}(hv:isVal v)(h1:isVal c.a)(h2:isVal c.b)(h3:isVal c.c):c5 (S.landed v c k n):=by
 unfold MS.landed;split
 . exact⟨o.ok,o.many,o.fM,λz=>absurd z oA,o.h8,o.hv,o.cv,o.cl,zc⟩
 . rename_i hw;have WR:=QK hw;refine ⟨o.ok,o.many,?_,λz=>(Es z).2,rfl,?_,λx hx=>o.cv x (abY hx),?_,DB _ _⟩
   . show 0 <= n
     lia
   . intro x hx;have hx:x∈[v,gI S.held 1,gI S.held 2,gI S.held 3,c.a,c.b,c.c,gI S.held 7]:=hx;simp only[aaQ,aaS,or_false] at hx;rcases hx with rfl | rfl | rfl | rfl | rfl | rfl | rfl | rfl
     . exact hv
     . exact fK o.hv _
     . exact fK o.hv _
     . exact fK o.hv _
     . exact h1
     . exact h2
     . exact h3
     . exact fK o.hv _
   . show(S.cells.take c.n.toNat).length <= 4000;rw[aaz]
     have:=o.cl
     lia
theorem c5.dropped (o:c5 S){v:Int}(hv:isVal v):c5 (S.dropped es kvs v):=by
 have hw:=o.walk es;unfold MS.walk at hw;unfold MS.dropped;split
 . exact⟨o.ok,o.many,o.fM,λz=>absurd z oA,o.h8,o.hv,o.cv,o.cl,zc⟩
 . split
   . exact⟨o.ok,o.many,o.fM,λz=>absurd z FP,o.h8,o.hv,o.cv,o.cl,QI⟩
   . split
     . exact o
     . rename_i c hc;split
       . exact o
       . obtain⟨h1, h2, h3, _⟩ := hw c (aak hc);exact o.landed hv h1 h2 h3
theorem c5.bV (o:c5 S):c5 (S.bV es kvs):=by
 by_cases h:S.state = "runs"
 . obtain⟨r, e, hr⟩ := o.row h;rw[sS h e];cases r with
   | drop b=>exact o.dropped (fK o.hv _)
   | _=>exact o.bU hr (o.rC h)
 . rw[xq h];exact o
theorem BN (S:MS)(v:Int)(c:bM)(k:Nat)(n:Int):(S.landed v c k n).rows=S.rows/\(S.landed v c k n).calls.length<=S.calls.length/\(S.landed v c k n).di=S.di:=by
 unfold MS.landed;split
 . exact⟨rfl,aag _,rfl⟩
 . exact⟨rfl,by show(S.calls.take _).length<=_;rw[aaz];omega,rfl⟩
theorem zu (S:MS)(es:List (Option Ent))(kvs:List (Key×V))(v:Int):(S.dropped es kvs v).rows=S.rows/\(S.dropped es kvs v).calls.length<=S.calls.length/\((S.dropped es kvs v).state = "runs"->(S.dropped es kvs v).di=S.di):=by
 unfold MS.dropped;split
 . exact⟨rfl,aag _,λ_=>rfl⟩
 . split
   . exact⟨rfl,aag _,λz=>absurd z FP⟩
   . split
     . exact⟨rfl,aag _,λ_=>rfl⟩
     . split
       . exact⟨rfl,aag _,λ_=>rfl⟩
       . obtain⟨h1, h2, h3⟩ := BN S v _ _ _;exact⟨h1,h2,λ_=>h3⟩
theorem Gb (S:MS)(r:Rw):(S.bU r).di=S.di:=by
 unfold MS.bU;split
 . rfl
 . split <;> rfl
theorem Hq (S:MS)(es:List (Option Ent))(kvs:List (Key×V))(r:Rw):(S.ek es kvs r).rows=S.rows/\(S.ek es kvs r).calls.length<=S.calls.length+1/\((S.ek es kvs r).state = "runs"->(S.ek es kvs r).di=S.di):=by
 cases r with
 | drop b =>
   obtain⟨h1,h2,h3⟩:=zu S es kvs (gI S.held b);exact⟨h1,Nat.le_succ_of_le h2,h3⟩
 | _=>exact⟨En _ _,B0 _ _,λ_=>Gb _ _⟩
theorem uj (S:MS)(es:List (Option Ent))(kvs:List (Key×V)):(S.bV es kvs).rows=S.rows/\(S.bV es kvs).calls.length<=S.calls.length+1/\((S.bV es kvs).state = "runs"->S.state = "runs"/\(S.bV es kvs).di=S.di):=by
 by_cases h:S.state = "runs"
 . cases e:S.rows[S.av.toNat]? with
   | none =>
     have:S.bV es kvs=S:=by unfold MS.bV;rw[if_pos h,e]
     rw[this];exact⟨rfl,abm _,λz=>⟨z,rfl⟩⟩
   | some r =>
     rw[sS h e];obtain⟨h1,h2,h3⟩:=Hq S es kvs r;exact⟨h1,h2,λz=>⟨h,h3 z⟩⟩
 . rw[xq h];exact⟨rfl,abm _,λz=>⟨z,rfl⟩⟩
theorem DD:(S.bV es kvs).rows=S.rows:=(uj S es kvs).1
theorem Cg (S:MS)(es:List (Option Ent))(kvs:List (Key×V)):(S.bV es kvs).calls.length<=S.calls.length+1:=(uj S es kvs).2.1
theorem gE (T:TX):J7 P w K mg base 1 "Astray" a.dI "row":=by
 obtain⟨f0,fd0,F,c0,hb0⟩:=T.G1;refine⟨f0,fd0,_,c0,F.ok (k:=0) lP (λvs H Q E h=>?_) (λS0 A outer s H vs Q E hr h=>?_),hb0⟩
 . obtain⟨e, i, rfl, _⟩ := h;rfl
 . obtain⟨e, i, rfl, he, WO, q⟩ := h;walk_at"h";have nd:=lP.nd;refine' aW ?_ ?_;exact(fZ (BI T.yy T.ya.choose_spec rfl (aj (pv 0) (aj (qV (pv 1)) aD))));walk_at"m";exact(Io (K:=K) rfl (pv 0) (pv 1));walk_at"s";symm;refine⟨WO,?_⟩;symm;refine⟨e,_,rfl,he,?_⟩;symm;refine⟨e,a.dI,rfl,he,T.FN,λd hd=>?_⟩;symm;exact q d hd
theorem D7 (T:TX):FE 1 "bounded" xV:=by
 refine bc 0 T.Dz uA ?_ ?_;ac_nf
 . obtain⟨n, top, rfl, h0, h1, q⟩ := h;walk_at"h";have nd:=uA.nd;refine' aW ?_ ?_;walk_at"f";walk_at"tT";walk_at"m";exact Jc;exact cL;walk_at"m";walk_at"tS";walk_at"s";symm;exact q
theorem Cr (T:TX):FE 1 "with_box" (xQ K):=by
 refine bc 0 T.Cc rz ?_ ?_;ac_nf
 . obtain⟨p, xs, b, v, rfl, hS, h0, h1, q⟩ := h;walk_at"h";have nd:=rz.nd;walk_at"v";symm;rename_i l hl;rw[iK];exact q l hl
theorem pI (T:TX):FE 1 "box_place" Dh:=by
 refine bc 0 T.zF oP ?_ ?_;ac_nf
 . obtain⟨b, rfl, h0, h1, q⟩ := h;walk_at"h";have nd:=oP.nd;walk_at"v";symm;refine E6 (qz h0 (by lia)) ?_;rw[qR];exact q
theorem yr (T:TX):FE 1 "cell_place" zo:=by
 refine bc 0 T.yN nE ?_ ?_;ac_nf
 . obtain⟨c, z, rfl, h0, h1, h2, q⟩ := h;walk_at"h";have nd:=nE.nd;walk_at"v";symm;refine E6 (qz (by lia) (by lia)) ?_;rw[qR];exact q
theorem Ei (T:TX):FE 1 "without" xv:=by
 refine bc 0 T.Ey vH ?_ ?_;ac_nf
 . obtain⟨s, p, rfl, q⟩ := h;walk_at"h";have nd:=vH.nd;walk_at"v";symm;refine(?_:Q (V.int _) _);rw[fT];exact q
theorem BW (T:TX)(b o t:Int):ME 1 a.cI "goes" (ei a (.add b o t)):=by
 refine aB 0 T.kg T.DW bE ?_ ?_;ac_nf
 . obtain⟨x, z, rfl, ⟨dx, hx⟩, q⟩ := h
   change H x=some (.ins a.cI dx (au "other" (.int t) (au "one" (.int o) (au "box" (.int b) [])))) at hx
   walk_at"h";have nd:=bE.nd;walk_at"v";symm;exact q _ (by assumption)
theorem Cb (T:TX)(b n:Int):ME 1 a.cO "goes" (ei a (.set b n)):=by
 refine aB 0 T.jP T.Eh bE ?_ ?_;ac_nf
 . obtain⟨x, z, rfl, ⟨dx, hx⟩, q⟩ := h
   change H x=some (.ins a.cO dx (au "number" (.int n) (au "box" (.int b) []))) at hx
   walk_at"h";have nd:=bE.nd;walk_at"v";symm;exact q _ (by assumption)
theorem Bb (T:TX)(b o:Int):ME 1 a.bX "goes" (ei a (.copy b o)):=by
 refine aB 0 T.gY T.B7 bE ?_ ?_;ac_nf
 . obtain⟨x, z, rfl, ⟨dx, hx⟩, q⟩ := h
   change H x=some (.ins a.bX dx (au "one" (.int o) (au "box" (.int b) []))) at hx
   walk_at"h";have nd:=bE.nd;walk_at"v";symm;exact q _ (by assumption)
theorem AR (T:TX)(t:Int):ME 1 a.aZ "goes" (ei a (.call t)):=by
 refine aB 0 T.ie T.CF bE ?_ ?_;ac_nf
 . obtain⟨x, z, rfl, ⟨dx, hx⟩, q⟩ := h
   change H x=some (.ins a.aZ dx (au "target" (.int t) [])) at hx
   walk_at"h";have nd:=bE.nd;walk_at"v";symm;exact q _ (by assumption)
theorem BJ (T:TX)(b c:Int):ME 1 a.cN "goes" (ei a (.put b c)):=by
 refine aB 0 T.kh T.Eg bE ?_ ?_;ac_nf
 . obtain⟨x, z, rfl, ⟨dx, hx⟩, q⟩ := h
   change H x=some (.ins a.cN dx (au "cell" (.int c) (au "box" (.int b) []))) at hx
   walk_at"h";have nd:=bE.nd;walk_at"v";symm;exact q _ (by assumption)
theorem BP (T:TX)(b c:Int):ME 1 a.cM "goes" (ei a (.get b c)):=by
 refine aB 0 T.ka T.EH bE ?_ ?_;ac_nf
 . obtain⟨x, z, rfl, ⟨dx, hx⟩, q⟩ := h
   change H x=some (.ins a.cM dx (au "cell" (.int c) (au "box" (.int b) []))) at hx
   walk_at"h";have nd:=bE.nd;walk_at"v";symm;exact q _ (by assumption)
theorem AK (T:TX)(m:Int):ME 1 a.ck "goes" (ei a (.grow m)):=by
 refine aB 0 T.ir T.CB bE ?_ ?_;ac_nf
 . obtain⟨x, z, rfl, ⟨dx, hx⟩, q⟩ := h
   change H x=some (.ins a.ck dx (au "many" (.int m) [])) at hx
   walk_at"h";have nd:=bE.nd;walk_at"v";symm;exact q _ (by assumption)
theorem wV (T:TX)(m:Int):ME 1 a.bB "goes" (ei a (.shrink m)):=by
 refine aB 0 T.fh T.yu bE ?_ ?_;ac_nf
 . obtain⟨x, z, rfl, ⟨dx, hx⟩, q⟩ := h
   change H x=some (.ins a.bB dx (au "many" (.int m) [])) at hx
   walk_at"h";have nd:=bE.nd;walk_at"v";symm;exact q _ (by assumption)
theorem yK (T:TX)(b o t:Int):ME 1 a.cI "height" (c_ a (.add b o t)):=by
 refine aB 0 T.kg T.A6 bj ?_ ?_;ac_nf
 . obtain⟨x, z, rfl, ⟨dx, hx⟩, q⟩ := h
   change H x=some (.ins a.cI dx (au "other" (.int t) (au "one" (.int o) (au "box" (.int b) [])))) at hx
   walk_at"h";have nd:=bj.nd;walk_at"v";walk_at"rds";all_goals (try simp only[Rw.aE] at q);(repeat' split at q) <;> first | exact q | (exfalso;lia)
theorem t7 (T:TX)(b t:Int):ME 1 a.bz "height" (c_ a (.branch b t)):=by
 refine aB 0 T.fb T.vB bj ?_ ?_;ac_nf
 . obtain⟨x, z, rfl, ⟨dx, hx⟩, q⟩ := h
   change H x=some (.ins a.bz dx (au "target" (.int t) (au "box" (.int b) []))) at hx
   walk_at"h";have nd:=bj.nd;walk_at"v";walk_at"rds";all_goals (try simp only[Rw.aE] at q);(repeat' split at q) <;> first | exact q | (exfalso;omega)
theorem yx (T:TX)(b n:Int):ME 1 a.cO "height" (c_ a (.set b n)):=by
 refine aB 0 T.jP T.zT bj ?_ ?_;ac_nf
 . obtain⟨x, z, rfl, ⟨dx, hx⟩, q⟩ := h
   change H x=some (.ins a.cO dx (au "number" (.int n) (au "box" (.int b) []))) at hx
   walk_at"h";have nd:=bj.nd;walk_at"v";walk_at"rds";all_goals (try simp only[Rw.aE] at q);(repeat' split at q) <;> first | exact q | (exfalso;omega)
theorem vS (T:TX)(b o:Int):ME 1 a.bX "height" (c_ a (.copy b o)):=by
 refine aB 0 T.gY T.yB bj ?_ ?_;ac_nf
 . obtain⟨x, z, rfl, ⟨dx, hx⟩, q⟩ := h
   change H x=some (.ins a.bX dx (au "one" (.int o) (au "box" (.int b) []))) at hx
   walk_at"h";have nd:=bj.nd;walk_at"v";walk_at"rds";all_goals (try simp only[Rw.aE] at q);(repeat' split at q) <;> first | exact q | (exfalso;omega)
theorem w9 (T:TX)(t:Int):ME 1 a.cp "height" (c_ a (.dr t)):=by
 refine aB 0 T.hZ T.yO bj ?_ ?_;ac_nf
 . obtain⟨x, z, rfl, ⟨dx, hx⟩, q⟩ := h
   change H x=some (.ins a.cp dx (au "target" (.int t) [])) at hx
   walk_at"h";have nd:=bj.nd;walk_at"v";walk_at"rds";all_goals (try simp only[Rw.aE] at q);(repeat' split at q) <;> first | exact q | (exfalso;lia)
theorem wH (T:TX)(t:Int):ME 1 a.aZ "height" (c_ a (.call t)):=by
 refine aB 0 T.ie T.ym bj ?_ ?_;ac_nf
 . obtain⟨x, z, rfl, ⟨dx, hx⟩, q⟩ := h
   change H x=some (.ins a.aZ dx (au "target" (.int t) [])) at hx
   walk_at"h";have nd:=bj.nd;walk_at"v";walk_at"rds";all_goals (try simp only[Rw.aE] at q);(repeat' split at q) <;> first | exact q | (exfalso;omega)
theorem xf (T:TX)(b:Int):ME 1 a.ba "height" (c_ a (.back b)):=by
 refine aB 0 T.iw T.yk bj ?_ ?_;ac_nf
 . obtain⟨x, z, rfl, ⟨dx, hx⟩, q⟩ := h
   change H x=some (.ins a.ba dx (au "box" (.int b) [])) at hx
   walk_at"h";have nd:=bj.nd;walk_at"v";walk_at"rds";all_goals (try simp only[Rw.aE] at q);(repeat' split at q) <;> first | exact q | (exfalso;lia)
theorem v_ (T:TX)(b:Int):ME 1 a.be "height" (c_ a (.drop b)):=by
 refine aB 0 T.fX T.yt bj ?_ ?_;ac_nf
 . obtain⟨x, z, rfl, ⟨dx, hx⟩, q⟩ := h
   change H x=some (.ins a.be dx (au "box" (.int b) [])) at hx
   walk_at"h";have nd:=bj.nd;walk_at"v";walk_at"rds";all_goals (try simp only[Rw.aE] at q);(repeat' split at q) <;> first | exact q | (exfalso;lia)
theorem vK (T:TX)(b t:Int):ME 1 a.bz "keeps" (dD a (.branch b t)):=by
 refine aB 0 T.fb T.wG cF ?_ ?_;ac_nf
 . obtain⟨x, s, z, rfl, ⟨dx, hx⟩, hk, z0, z1, hs, q⟩ := h
   change H x=some (.ins a.bz dx (au "target" (.int t) (au "box" (.int b) []))) at hx
   obtain⟨⟨k1,k2⟩,⟨k3,k4⟩⟩:=hk;walk_at"h";have nd:=cF.nd;walk_at"v";symm;exact q
theorem yP (T:TX)(t:Int):ME 1 a.cp "keeps" (dD a (.dr t)):=by
 refine aB 0 T.hZ T.zE cF ?_ ?_;ac_nf
 . obtain⟨x, s, z, rfl, ⟨dx, hx⟩, hk, z0, z1, hs, q⟩ := h
   change H x=some (.ins a.cp dx (au "target" (.int t) [])) at hx
   obtain⟨k1,k2⟩:=hk;walk_at"h";have nd:=cF.nd;walk_at"v";symm;exact q
theorem yT (T:TX)(m:Int):ME 1 a.ck "keeps" (dD a (.grow m)):=by
 refine aB 0 T.ir T.zG cF ?_ ?_;ac_nf
 . obtain⟨x, s, z, rfl, ⟨dx, hx⟩, hk, z0, z1, hs, q⟩ := h
   change H x=some (.ins a.ck dx (au "many" (.int m) [])) at hx
   obtain⟨k1,k2⟩:=hk;walk_at"h";have nd:=cF.nd;walk_at"v";symm;exact q
theorem yH (T:TX)(b:Int):ME 1 a.ba "keeps" (dD a (.back b)):=by
 refine aB 0 T.iw T.BD cF ?_ ?_;ac_nf
 . obtain⟨x, s, z, rfl, ⟨dx, hx⟩, hk, z0, z1, hs, q⟩ := h
   change H x=some (.ins a.ba dx (au "box" (.int b) [])) at hx
   obtain⟨k1,k2⟩:=hk;walk_at"h";have nd:=cF.nd;walk_at"v";symm;exact q
theorem yl (T:TX)(b:Int):ME 1 a.be "keeps" (dD a (.drop b)):=by
 refine aB 0 T.fX T.zN cF ?_ ?_;ac_nf
 . obtain⟨x, s, z, rfl, ⟨dx, hx⟩, hk, z0, z1, hs, q⟩ := h
   change H x=some (.ins a.be dx (au "box" (.int b) [])) at hx
   obtain⟨k1,k2⟩:=hk;walk_at"h";have nd:=cF.nd;walk_at"v";symm;exact q
theorem lT (T:TX)(m:Int):ME 1 a.ck "height" (c_ a (.grow m)):=by
 refine aB 0 T.ir T.yz lO ?_ ?_;ac_nf
 . obtain⟨x, z, rfl, ⟨dx, hx⟩, q⟩ := h
   change H x=some (.ins a.ck dx (au "many" (.int m) [])) at hx
   walk_at"h";have nd:=lO.nd;walk_at"v";walk_at"rds";all_goals (try simp only[Rw.aE] at q);(repeat' split at q) <;> first | exact q | (exfalso;lia)
theorem js (T:TX)(m:Int):ME 1 a.bB "height" (c_ a (.shrink m)):=by
 refine aB 0 T.fh T.uZ jE ?_ ?_;ac_nf
 . obtain⟨x, z, rfl, ⟨dx, hx⟩, q⟩ := h
   change H x=some (.ins a.bB dx (au "many" (.int m) [])) at hx
   walk_at"h";have nd:=jE.nd;walk_at"v";walk_at"rds";all_goals (try simp only[Rw.aE] at q);(repeat' split at q) <;> first | exact q | (exfalso;lia)
theorem nZ (T:TX)(b c:Int):ME 1 a.cN "height" (c_ a (.put b c)):=by
 refine aB 0 T.kh T.zW dU ?_ ?_;ac_nf
 . obtain⟨x, z, rfl, ⟨dx, hx⟩, q⟩ := h
   change H x=some (.ins a.cN dx (au "cell" (.int c) (au "box" (.int b) []))) at hx
   walk_at"h";have nd:=dU.nd;walk_at"v";walk_at"rds";all_goals (try simp only[Rw.aE] at q);(repeat' split at q) <;> first | exact q | (exfalso;lia)
theorem nW (T:TX)(b c:Int):ME 1 a.cM "height" (c_ a (.get b c)):=by
 refine aB 0 T.ka T.Ae dU ?_ ?_;ac_nf
 . obtain⟨x, z, rfl, ⟨dx, hx⟩, q⟩ := h
   change H x=some (.ins a.cM dx (au "cell" (.int c) (au "box" (.int b) []))) at hx
   walk_at"h";have nd:=dU.nd;walk_at"v";walk_at"rds";all_goals (try simp only[Rw.aE] at q);(repeat' split at q) <;> first | exact q | (exfalso;lia)
theorem Hg (T:TX):KE 1 "Table" a.b3 (yX K a.b3)/\QQ P w K mg base cb 1 "Table" a.b3 (yX K a.b3):=by
 refine LU 0 T.Lj T.Ls nJ ?_ ?_;ac_nf
 . obtain⟨x, dx, pe, lv, xs, kvs, rfl, hx, hS, hd, q⟩ := h;walk_at"h";have nd:=nJ.nd;refine' aW ?_ ?_;walk_at"tS";walk_at"m";exact(vY (K:=K) rfl (pv 0) (tN (dO vV (pv 2) j7 (dZ _)) zR (qc DX rfl T.OT OY (aj (pv 2) aD))));walk_at"s";rcases hd with ⟨rfl,rfl⟩ | ⟨pd,rfl,hd⟩
   . symm;rename_i l hl d hd;have nx:=bw hd;have nl:=bw nx.1;refine q l d _ hl nl.1 nl.2.symm (λb o e ne=>?_) aa ?_ ?_
     . rw[ak ne,ak (ag (show upd (upd H l (.lst xs)) x _ b=some o from by rw[ak ne,ak (ag e hl)];exact e) hd),ak ne,ak (ag e hl)];exact e
     . rw[ak (ag hx hl).symm,ak nl.2.symm,ak (ag hx hl).symm,aa]
     . rw[ak nx.2,aa]
   . have npx : pd ≠ x := Kg hd hx (by intro z; cases z);symm;rename_i l hl d WW;have nx:=bw WW;have nl:=bw nx.1;refine q l d _ hl nl.1 nl.2.symm (λb o e ne=>?_) aa ?_ ?_
     . rw[ak ne,ak (ag (show upd (upd H l (.lst xs)) x _ b=some o from by rw[ak ne,ak (ag e hl)];exact e) WW),ak ne,ak (ag e hl)];exact e
     . rw[ak (ag hx hl).symm,ak nl.2.symm,ak (ag hx hl).symm,aa]
     . rw[ak nx.2,aa]
theorem A3 (T:TX):KE 1 "Table" a.b3 (yX K a.b3):=(Hg T).1
theorem gB (T:TX):FE 1 "sets_of" (Pc K):=by
 refine bc 0 T.D5 uW ?_ ?_;ac_nf
 . obtain⟨p, e, rfl, ⟨pk, h1, h2⟩, q⟩ := h;walk_at"h";have nd:=uW.nd;walk_at"v";symm;exact q _ (by assumption)
theorem uS (T:TX):FE 1 "lowest_place" Kh:=by
 refine bc 0 T.uL km ?_ ?_;ac_nf
 . obtain⟨i, rfl, q⟩ := h;walk_at"h";have nd:=km.nd;refine' fq ?_;exact(iE (cQ lZ (wF (K:=K) rfl PySem.F.plainAttrs_int PySem.F.slot_int_bit_length PySem.F.type_int_bit_length E2 (cQ uY (pv 0) (Kx Hl (pv 0)))) aX));walk_at"s";symm;exact q
theorem Bk (T:TX)(t:Int):ME 1 a.cp "runs" (d6 K a (.dr t)):=by
 refine aB 0 T.hZ T.B5 oC ?_ ?_;ac_nf
 . obtain⟨x, bo, pi, z, bs, pl, rfl, ⟨dx, hx⟩, hk, hb, h8, hv, hp, S6, q⟩ := h
   change H x=some (.ins a.cp dx (au "target" (.int t) [])) at hx
   obtain⟨k1,k2⟩:=hk;walk_at"h";have nd:=oC.nd;walk_at"v";symm;exact eZ (by assumption) (by assumption) (by assumption) q
theorem Aw (T:TX)(t:Int):ME 1 a.cp "goes" (ei a (.dr t)):=by
 refine aB 0 T.hZ T.Cq o7 ?_ ?_;ac_nf
 . obtain⟨x, z, rfl, ⟨dx, hx⟩, q⟩ := h
   change H x=some (.ins a.cp dx (au "target" (.int t) [])) at hx
   walk_at"h";have nd:=o7.nd;walk_at"v";symm;exact q _ (by assumption)
theorem wd (T:TX)(b t:Int):ME 1 a.bz "runs" (d6 K a (.branch b t)):=by
 refine aB 0 T.fb T.yQ lS ?_ ?_;ac_nf
 . obtain⟨x, bo, pi, z, bs, pl, rfl, ⟨dx, hx⟩, hk, hb, h8, hv, hp, S6, q⟩ := h
   change H x=some (.ins a.bz dx (au "target" (.int t) (au "box" (.int b) []))) at hx
   obtain⟨⟨k1,k2⟩,⟨k3,k4⟩⟩:=hk;walk_at"h";have nd:=lS.nd;walk_at"v";symm;have q:gX H Q (some (if gI bs b=0 then z+1 else t,bs,pl)):=q;refine eW (λhh=>?_) (λhh=>?_)
   all_goals
     symm;first | rw[if_pos hh] at q | rw[if_neg hh] at q
     exact eZ (by assumption) (by assumption) (by assumption) q
theorem wK (T:TX)(b t:Int):ME 1 a.bz "goes" (ei a (.branch b t)):=by
 refine aB 0 T.fb T.yS mF ?_ ?_;ac_nf
 . obtain⟨x, z, rfl, ⟨dx, hx⟩, q⟩ := h
   change H x=some (.ins a.bz dx (au "target" (.int t) (au "box" (.int b) []))) at hx
   walk_at"h";have nd:=mF.nd;walk_at"v";symm;exact q _ (by assumption)
theorem A5 (T:TX)(b:Int):ME 1 a.ba "runs" (d6 K a (.back b)):=by
 refine aB 0 T.iw T.BX pf ?_ ?_;ac_nf
 . obtain⟨x, bo, pi, z, bs, pl, rfl, ⟨dx, hx⟩, hk, hb, h8, hv, hp, S6, q⟩ := h
   change H x=some (.ins a.ba dx (au "box" (.int b) [])) at hx
   obtain⟨k1,k2⟩:=hk;walk_at"h";have nd:=pf.nd;walk_at"v";symm;exact eZ (by assumption) (by assumption) (by assumption) q
theorem zK (T:TX)(b:Int):ME 1 a.ba "goes" (ei a (.back b)):=by
 refine aB 0 T.iw T.B1 oK ?_ ?_;ac_nf
 . obtain⟨x, z, rfl, ⟨dx, hx⟩, q⟩ := h
   change H x=some (.ins a.ba dx (au "box" (.int b) [])) at hx
   walk_at"h";have nd:=oK.nd;walk_at"v";symm;exact q _ (by assumption)
theorem zl (T:TX)(b:Int):ME 1 a.be "runs" (d6 K a (.drop b)):=by
 refine aB 0 T.fX T.Cf pM ?_ ?_;ac_nf
 . obtain⟨x, bo, pi, z, bs, pl, rfl, ⟨dx, hx⟩, hk, hb, h8, hv, hp, S6, q⟩ := h
   change H x=some (.ins a.be dx (au "box" (.int b) [])) at hx
   obtain⟨k1,k2⟩:=hk;walk_at"h";have nd:=pM.nd;walk_at"v";symm;exact q H (ao.refl _)
theorem Ag (T:TX)(b:Int):ME 1 a.be "goes" (ei a (.drop b)):=by
 refine aB 0 T.fX T.B2 oM ?_ ?_;ac_nf
 . obtain⟨x, z, rfl, ⟨dx, hx⟩, q⟩ := h
   change H x=some (.ins a.be dx (au "box" (.int b) [])) at hx
   walk_at"h";have nd:=oM.nd;walk_at"v";symm;exact q _ (by assumption)
theorem FZ (T:TX):FE 1 "is_row" (K6 K):=by
 refine bc 0 T.Ge xG ?_ ?_;ac_nf
 . obtain ⟨n, p, us, rfl, hp, q⟩ := h;walk_at "h";have nd:=xG.nd;refine' fq ?_;exact (iE (Iu y_ EL aX (pv 0) (cJ (ez (K:=K) rfl) rfl T.jc jf (aj (pv 1) aD))));walk_at "s";symm;refine cW (λhh=>?_) (λhh=>?_)
   . symm;refine(?_:Q (V.bl _) _);rw[show decide (n<(us.length:Int))=decide (0<=n/\n<(us.length:Int)) from by rw[decide_eq_decide];exact⟨λz=>⟨hh,z⟩,λz=>z.2⟩];exact q
   . rw[decide_eq_false (λz : 0<=n/\n<(us.length:Int)=>hh z.1)] at q;symm;exact q
theorem ze (T:TX):FE 1 "each_once" (MZ K):=by
 refine bc 0 T.Ak oS ?_ ?_;ac_nf
 . obtain ⟨p, ns, rfl, hp, hn, q⟩ := h;walk_at "h";have nd:=oS.nd;walk_at "v";symm;rename_i l nl;refine fi (K:=K) (a:=p) (xs:=ns.map V.int) (λi Z H1=>(∃ u,Z = [some (.ref p),some (.ref l),u])/\ao H H1/\H1 l=some (.lst ((once (ns.take i)).map V.int))/\(once (ns.take i)).length<=i) ⟨⟨_,rfl⟩,ae nl,aa,aag _⟩ (λi Z H1 _ ⟨_,s1,_⟩=>ao.seq s1 hp) ?_ ?_
   . rintro i x Z H1 hx ⟨⟨u,rfl⟩,s1,hl,S4⟩;obtain⟨n,hn1,rfl⟩:∃ n,ns[i]? = some n/\x=.int n:=by
       rw[aah] at hx;obtain⟨p,hp,e⟩:=Option.map_eq_some_iff.mp hx;exact⟨p,hp,e.symm⟩
     have hi:i<ns.length:=(List.getElem?_eq_some_iff.mp hn1).1;have en:once (ns.take (i+1))=if n∈once (ns.take i) then once (ns.take i) else once (ns.take i)++[n]:=by
       unfold once;rw[abF,hn1,abx,List.foldl_append];rfl
     rw[en];generalize once (ns.take i)=os at hl S4 ⊢;symm;refine JK (ar.of hl) rfl (FQ _) ?_;rw[if_pos rfl,Iz];by_cases hm:n∈os
     . rw[decide_eq_true hm,if_pos hm];symm;exact⟨⟨_,rfl⟩,s1,hl,by lia⟩
     . rw[decide_eq_false hm,if_neg hm];symm;exact⟨⟨_,rfl⟩,by walk_at"same",by rw[aaE];exact aa,by rw[aab];show os.length+1<=i+1;lia⟩
   . rintro Z H1 ⟨⟨u,rfl⟩,s1,hl,S4⟩;rw[aac,aa1] at hl;symm;exact q l H1 s1 hl
theorem tw (T:TX):iJ P w K mg base (eQ P w) 1 "reach" (CP a):=by
 refine A9 0 T.Ie zz ?_ ?_;ac_nf
 . obtain ⟨lh, lw, n, UL, hs, ws, rfl, hlh, hlw, h1, h2, n1, n2, VB, qb, qs, qn⟩ := h;walk_at "h";have nd:=zz.nd;refine' aW ?_ ?_;walk_at "f";walk_at "y";walk_at "tT";walk_at "m";exact (nu T.iH rfl (aj (qV (pv 2)) aD));exact cL;walk_at "m";walk_at "f";walk_at "y";walk_at "tT";walk_at "n";walk_at "x";walk_at "tS";walk_at "m";walk_at "x";walk_at "tS";walk_at "m";walk_at "f";walk_at "y";walk_at "tT";walk_at "m";exact (nu T.iH rfl (aj (qV (pv 2)) aD));exact cL;walk_at "s";ac_rfl;refine cW (λhh=>?_) (λhh=>?_)
   . ac_rfl;refine jk ?_;ac_rfl
     try refine qh ?_
     ac_rfl;exact⟨nh n1 n2,by show 1<=1000;decide,qb (.inl hh)⟩
   . ac_rfl;refine dQ (ar.of hlh) ?_;rw [aac];ac_rfl;refine cW (λV_=>?_) (λV_=>?_)
     . ac_rfl;refine jk ?_;ac_rfl
       try refine qh ?_
       ac_rfl;exact⟨nh n1 n2,by show 1<=1000;decide,qb (.inr (.inl V_))⟩
     . obtain ⟨k, rfl⟩ : ∃ k : Nat, n = (k : Int) := ⟨n.toNat, by lia⟩
       rw[aaD] at qb qs qn;have hk:k<hs.length:=by lia
       have hs1:hs[k]? = some hs[k]:=aaa hk;have TU:cT (hs.map bN) (k:Int)=some (bN hs[k]):=bG (by rw[aah,hs1];rfl);generalize hs[k]=o at hs1 TU;rw[hs1] at qb qs qn;cases o with
       | none =>
         have TU:cT (hs.map bN) (k:Int)=some .aC:=TU;ac_rfl;refine mG hlh (j:=k) (by rw[aac];exact EA hk) ?_;ac_rfl;have e1:(hs.map bN).set k (.int UL)=(hs.set k (some UL)).map bN:=qN bN hs k (some UL);have e2:ws.map nV++[V.int (k:Int)]=(ws++[k]).map nV:=by rw[aaE];rfl
         rw[e1,e2];exact qn (by lia) rfl
       | some h0 =>
         have TU:cT (hs.map bN) (k:Int)=some (.int h0):=TU;ac_rfl;refine gL (λhh3=>?_) (λhh3=>?_)
         . ac_rfl;refine jk ?_;ac_rfl
           try refine qh ?_
           ac_rfl;exact⟨nh n1 n2,by show 1<=1000;decide,qb (.inr (.inr ⟨h0,rfl,hh3⟩))⟩
         . ac_rfl;exact qs (by lia) (by rw[show h0=UL from by simpa using hh3])
theorem Hk (T:TX):FE 1 "narrow" zg:=by
 refine bc 0 T.FJ xN ?_ ?_;ac_nf
 . obtain ⟨lsx, dc, n, p, ss, ks, o, rfl, hl, hd, h1, h2, UE, ho, q1, q2⟩ := h;have TU:cT (ss.map cy) (n:Int)=some (cy o):=bG (by rw [aah,ho];rfl);have hn:n<ss.length:=(List.getElem?_eq_some_iff.mp ho).1;have T6:lsx≠dc:=λz=>by rw [z,hd] at hl;cases hl
   walk_at"h";have nd:=xN.nd;refine' aW ?_ ?_;walk_at"tS";walk_at"m";walk_at"f";walk_at"tT";walk_at"c";walk_at"m";exact(xk (i_ hr) (pv 1) (pv 2) J3 rfl);exact cL;walk_at"s";have Ta:∀ x:Nat,(upd (upd H lsx (.lst ((ss.map cy).set n (.int (x:Int))))) dc (.dK (putK (bP ks) (.inl (n:Int)) (.bl true))))=upd (upd H lsx (.lst ((ss.set n (some x)).map cy))) dc (.dK (bP (ki ks n))):=λx=>by
     rw[Je,<- qN cy ss n (some x)];rfl
   cases o with
   | none =>
     have TU:cT (ss.map cy) (n:Int)=some .aC:=TU;ac_rfl
     with_reducible refine(?_ : @ite Prop (_=true) (instDecidableEqBool _ _) _ _)
     rw[if_pos (by rw[decide_eq_false (λz=>by cases z)];rfl)];ac_rfl;refine mG hl (j:=n) (by rw[aac];exact EA hn) ?_;ac_rfl;refine jj (kvs:=bP ks) (by rw[ak T6.symm];exact hd) (by unfold bP;rw[aac,aaJ];lia) ?_;rw[Ta];exact q2 (λz=>by cases z)
   | some s0 =>
     have TU:cT (ss.map cy) (n:Int)=some (.int (s0:Int)):=TU;ac_rfl;rw[gR]
     with_reducible refine(?_ : @ite Prop (_=true) (instDecidableEqBool _ _) _ _)
     by_cases e:s0 &&& p=s0
     . rw[if_neg (by rw[e, decide_eq_true rfl]; decide)];ac_rfl;exact q1 (by show some s0=some (s0 &&& p);rw[e])
     . rw[if_pos (by rw[decide_eq_false (λz => e (by have := V.int.inj z; lia))]; rfl)];ac_rfl;refine mG hl (j:=n) (by rw[aac];exact EA hn) ?_;ac_rfl;refine jj (kvs:=bP ks) (by rw[ak T6.symm];exact hd) (by unfold bP;rw[aac,aaJ];lia) ?_;rw[Ta];exact q2 (λz=>e (by have:=aax z;exact this.symm))
theorem EG (T:TX):FE 1 "kept_of" (zf K):=by
 refine bc 0 T.EC ui ?_ ?_;ac_nf
 . obtain⟨p, bs, rfl, hS, h8, q⟩ := h;walk_at"h";have nd:=ui.nd;walk_at"v";symm;exact q _ (by assumption)
theorem cZ (T:TX):ME 1 a.ax "word_ahead_of" (RI a):=by
 refine aB 0 T.cq T.kl fm ?_ ?_;ac_nf
 . obtain⟨m, dx, fs, aU, n, rfl, hm, hf, q⟩ := h;unfold aK at q;walk_at"h";have nd:=fm.nd;refine' aW ?_ ?_;walk_at"tS";walk_at"m";exact(iE (tN (IJ y_ EL aX (pv 1) (cD (K:=K) rfl (pv 0))) gP gP));walk_at"s";walk_at"rds";all_goals (repeat' split at q) <;> first | exact q | (exfalso;lia)
theorem nR (T:TX):ME 1 a.ax "at" (Kv a "coming"):=by
 refine aB 0 T.cq T.zh nK ?_ ?_;ac_nf
 . obtain⟨m, dx, fs, v, rfl, hm, hf, q⟩ := h;walk_at"h";have nd:=nK.nd;walk_at"v";symm;exact q
theorem jm (T:TX):ME 1 a.ax "boxes" (FV a "held"):=by
 refine aB 0 T.cq T.vC kj ?_ ?_;ac_nf
 . obtain⟨m, dx, p, fs, xs, rfl, hm, hf, hp, q⟩ := h;walk_at"h";have nd:=kj.nd;walk_at"v";symm;exact q _ (by assumption)
theorem kE (T:TX):ME 1 a.ax "pile" (FV a "cells"):=by
 refine aB 0 T.cq T.w_ kH ?_ ?_;ac_nf
 . obtain⟨m, dx, p, fs, xs, rfl, hm, hf, hp, q⟩ := h;walk_at"h";have nd:=kH.nd;walk_at"v";symm;exact q _ (by assumption)
theorem uv (T:TX):ME 1 a.ax "word" (Kv a "state"):=by
 refine aB 0 T.cq T.wX kK ?_ ?_;ac_nf
 . obtain⟨m, dx, fs, v, rfl, hm, hf, q⟩ := h;walk_at"h";have nd:=kK.nd;walk_at"v";symm;exact q
theorem uw (T:TX):ME 1 a.ax "book" (Ou a):=by
 refine aB 0 T.cq T.xc kG ?_ ?_;ac_nf
 . obtain⟨m, dx, pk, fs, cs, rfl, hm, hf, hk, q⟩ := h;walk_at"h";have nd:=kG.nd;refine' fq ?_;exact(iE (LP (K:=K) rfl rfl rfl T.zC rfl T.DV (cD (K:=K) rfl (pv 0))));walk_at"s";symm;exact q _ (by assumption)
theorem i9 (T:TX):ME 1 a.ax "forget" (IM a):=by
 refine aB 0 T.cq T.sM fD ?_ ?_;ac_nf
 . obtain ⟨m, dx, pk, fs, k, xs, rfl, hm, hf, hk, k0, hl, q⟩ := h;have ne:m≠pk:=λz=>by rw [z,hk] at hm;cases hm
   walk_at"h";have nd:=fD.nd;refine' aW ?_ ?_;exact(c8 (i:=2) fD.nd rfl (Or.inl rfl) (cJ (xW rfl) rfl T.JM JI (aj aX (aj (cQ lZ (cJ (ez (K:=K) rfl) rfl T.jc jf (aj (cD (K:=K) rfl (pv 0)) aD)) (pv 1)) aD))));walk_at"m"
   (with_reducible refine' jX ?_ ?_ ?_)
   exact acx;walk_at"tT";walk_at"m";exact(fZ (wF (K:=K) rfl abG PySem.F.slot_list_pop PySem.F.type_list_pop FL (cD (K:=K) rfl (pv 0))));walk_at"s";symm;have hL:(if (xs.length:Int) - k > 0 then (xs.length:Int) - k else 0)=((xs.length - k.toNat:Nat):Int):=by split <;> omega
   rw[hL];refine⟨λw Z H2=>xs.length - k.toNat<=w/\w<=xs.length/\Z = [some (.ref m),some (.int k),some (.int ((xs.length - k.toNat:Nat):Int))]/\H2 pk=some (.lst (xs.take w))/\∀ b,b≠pk->H2 b=H b,⟨xs.length,by omega,aag _,rfl,by rw[aa1];exact hk,λb _=>rfl⟩,?_⟩;rintro j Z H2 ⟨j0,j1,rfl,UA,hb⟩;have T7:H2 m=some (.ins a.ax dx fs):=by rw[hb m ne];exact hm
   have lj:(xs.take j).length=j:=by rw[aaz];omega
   symm;rw[lj];refine cW (λhh=>?_) (λhh=>?_)
   . refine ⟨_,λZ' H' h=>h,?_⟩;have hj:j - 1<xs.length:=by omega
     have ej:xs.take j=xs.take (j - 1)++[xs[j - 1]]:=by
       have:=List.take_append_getElem hj
       rw[this]
       congr 1;omega
     symm;refine KJ (by rw[<- ej];exact UA) ?_;symm;exact⟨j - 1,by omega,by omega,by omega,rfl,aa,λb hb'=>by rw[ak hb'];exact hb b hb'⟩
   . have ej : j = xs.length - k.toNat := by omega
     subst ej;symm;exact q H2 UA hb
theorem hU (T:TX):FE 1 "_law_cell_at" (ip K):=by
 refine bc 0 T.wZ my ?_ ?_;ac_nf
 . obtain ⟨p, ns, k, rfl, hS, h0, q⟩ := h;walk_at "h";have nd:=my.nd;walk_at "v";symm;refine cW (λhh=>?_) (λhh=>?_)
   . symm;exact q
   . symm;have e:=DP h0 hh;rw[e] at q;exact q
theorem zJ (T:TX):FE 1 "_law_value" HJ:=by
 refine bc 0 T.AJ pW ?_ ?_;ac_nf
 . obtain ⟨c, rfl, q⟩ := h;walk_at "h";have nd:=pW.nd;walk_at "v";symm;rcases (show c%3=0∨c%3=1∨c%3=2 by lia) with z | z | z <;> rw [z]
   . refine b8 (ar.of aa) (v:=.int 4294967296) rfl ?_;symm;rename_i l n;exact q _ _ (ae n) ⟨by lia,by lia⟩
   . refine b8 (ar.of aa) (v:=.int 1) rfl ?_;symm;rename_i l n;exact q _ _ (ae n) ⟨by lia,by lia⟩
   . refine b8 (ar.of aa) (v:=.int 3) rfl ?_;symm;rename_i l n;exact q _ _ (ae n) ⟨by lia,by lia⟩
theorem Ck (T:TX):FE 1 "_law_body" (ON K):=by
 refine bc 0 T.Cs lg ?_ ?_;ac_nf
 . obtain ⟨lc, ls, cs, ss, sp, at_, rfl, hlc, T_, Tc, V9, VT, sp0, sp1, fM, rC, q⟩ := h;walk_at "h";have nd:=lg.nd;refine' aW ?_ ?_;walk_at "tS";walk_at "n";walk_at "g";walk_at "tI";walk_at "tG";walk_at "c";walk_at "c";walk_at "n";exact (fu (i:=8) lg.nd rfl rfl (own:=["_law_one"]) (fr:=[]) rfl ⟨rfl,(by walk_at "clok"),(by walk_at "frok"),rfl,(by nofun),(by nofun),rfl⟩ (dP (K:=K) rfl (pv 1)) (λ_ _ _ _=>(bS (i:=0) (show aa7 [("_law_one" : Str)] from by nofun) rfl (Or.inl rfl))) (λ_ _ _ _=>(wM (dO (lW (K:=K) rfl hr.units) (pv 0) aX (dZ _)))) (λ_ _ _ _=>(pv 0)));walk_at "m";walk_at "f";exact (PW.pt (lX (dO (E8 (K:=K) rfl hr.units) (pv 6) aX (dZ _)) (l6 (dO (C6 (K:=K) rfl hr.units) (pv 8) (lI aD) (dZ _)))));walk_at "tB";walk_at "tB";exact λ_=>rfl;walk_at "m";walk_at "tS";walk_at "s";symm;rename_i lr Us;refine fi (K:=K) (a:=lc) (xs:=cs.map V.int) (λi Z HD=>∃ (us:List V) (v5 v6 v7 v8:Option V),Z = [some (.ref lc),some (.ref ls),some (.int sp),some (.int at_),some (.ref lr),v5,v6,v7,v8]/\ao H HD/\HD lr=some (.lst us)/\us.length<=2*i/\aO fJ HD us) ⟨[],_,_,_,_,rfl,ae Us,aa,aag _,aO.nil⟩ (λi Z HD _ ⟨_,_,_,_,_,_,s,_⟩=>aP s hlc) ?_ ?_
   . rintro i x Z HD hx ⟨us,v5,v6,v7,v8,rfl,sD,VL,Vu,Tr⟩;obtain⟨c,hc,rfl⟩:∃ c:Int,cs[i]? = some c/\x=.int c:=by
       rw[aah] at hx;obtain⟨c,h1,e⟩:=Option.map_eq_some_iff.mp hx;exact⟨c,h1,e.symm⟩
     have hi:=(List.getElem?_eq_some_iff.mp hc).1;have hlsD:=aP sD Tc;clear hx hc;symm;refine fW (K:=K) (a:=ls) (xs:=ss.map V.int) (λi ys Z H2=>(∃ v,Z = [v])/\H2=HD/\∃ zs:List Int,ys=zs.map V.int/\zs.length<=i/\∀ z∈zs,0<=z/\z<=7) ⟨⟨_,rfl⟩,rfl,[],rfl,aag _,(λ_ z=>by cases z)⟩ (λi ys Z H2 hi ⟨_,e,zs,e1,e2,_⟩=>⟨by rw[e];exact hlsD,by rw[e1,aac,aaJ];rw[aac] at hi;lia⟩) ?_ ?_
     . rintro j u ys Z H2 hu ⟨⟨v,rfl⟩,rfl,zs,rfl,hz,hzb⟩;obtain⟨z,hz1,rfl⟩:∃ c:Int,ss[j]? = some c/\u=.int c:=by
         rw[aah] at hu;obtain⟨c,h1,e⟩:=Option.map_eq_some_iff.mp hu;exact⟨c,h1,e.symm⟩
       have hz2:=VT z (aak hz1);symm;refine gL (λhh=>?_) (λhh=>?_)
       . symm
         exact⟨⟨_, rfl⟩, rfl, zs ++ [z], by rw[aaE]; rfl, by simp only[aab, aaF]; lia, λy hy => by
           rcases List.mem_append.mp hy with h | h
           . exact hzb y h
           . rw[List.mem_singleton.mp h];exact hz2⟩
       . exact⟨⟨_,rfl⟩,rfl,zs,rfl,Nat.le_succ_of_le hz,hzb⟩
     rintro ys Z H2 ⟨_,rfl,zs,rfl,hz,hzb⟩;intro lk nlk;rw[aac] at hz;have Ta:∀ (us:List V) (HA:Hp),ao H HA->aO fJ HA us->us.length<=2*i+1->∀ (u:V) (r:Rw) (H3:Hp) (w5 w6 w7 w8:Option V),ao HA H3->H3 lr=some (.lst us)->ik H3 u r->fJ r->∃ (us2:List V) (v5 v6 v7 v8:Option V),[some (V.ref lc),some (V.ref ls),some (V.int sp),some (V.int at_),some (V.ref lr),w5,w6,w7,w8]=[some (V.ref lc),some (V.ref ls),some (V.int sp),some (V.int at_),some (V.ref lr),v5,v6,v7,v8]/\ao H (upd H3 lr (.lst (us++[u])))/\(upd H3 lr (.lst (us++[u]))) lr=some (.lst us2)/\us2.length<=2*(i+1)/\aO fJ (upd H3 lr (.lst (us++[u]))) us2:=λus HA sA Tr Vu u r H3 w5 w6 w7 w8 s3 h3 td ok=>⟨us++[u],_,_,_,_,rfl,bC (sA.trans s3) Us,aa,by rw[aab,aaF];lia,((Tr.same s3).app (aO.one td ok)).off h3⟩;rcases(show c%9=0∨c%9=1∨c%9=2∨c%9=3∨c%9=4∨c%9=5∨c%9=6∨c%9=7∨c%9=8 by lia) with hk | hk | hk | hk | hk | hk | hk | hk | hk
     . symm;rw[hk];symm;refine eA (ar.of aa) rfl rfl ?_;rw[show eY (V.int 0) [V.int 4,V.int 5]=false from by nofun];symm;exact Ta us H2 sD Tr (by lia) _ (.set (c/9%4) (c/36%4)) _ _ _ _ _ (by walk_at"same") (by walk_at"hlk") ⟨_,rfl,by show _=some (HO.tup [V.str (aae "set"),V.int _,V.int _]);bv_omega⟩ (.inl (by walk_at"A"))
     . symm;rw[hk];symm;refine eA (ar.of aa) rfl rfl ?_;rw[show eY (V.int 1) [V.int 4,V.int 5]=false from by nofun];symm;exact Ta us H2 sD Tr (by lia) _ (.copy (c/9%4) (c/36%8)) _ _ _ _ _ (by walk_at"same") (by walk_at"hlk") ⟨_,rfl,by show _=some (HO.tup [V.str (aae "copy"),V.int _,V.int _]);bv_omega⟩ (.inl (by walk_at"A"))
     . symm;rw[hk];symm;refine eA (ar.of aa) rfl rfl ?_;rw[show eY (V.int 2) [V.int 4,V.int 5]=false from by nofun];symm;exact Ta us H2 sD Tr (by lia) _ (.set (c/9%4) (c/36%4)) _ _ _ _ _ (by walk_at"same") (by walk_at"hlk") ⟨_,rfl,by show _=some (HO.tup [V.str (aae "set"),V.int _,V.int _]);bv_omega⟩ (.inl (by walk_at"A"))
     . symm;rw[hk];symm;rename_i l9 nl9;by_cases Vt:zs=[]
       . subst Vt;refine CM (ai aa nl9) aa ?_;symm;refine eA (ar.of aa) rfl rfl ?_;rw[show eY (V.int 3) [V.int 4,V.int 5]=false from by nofun];symm;exact Ta us H2 sD Tr (by lia) _ (.add (c/9%4) (c/36%8) (c/9%4)) _ _ _ _ _ (by walk_at"same") (by walk_at"hlk") ⟨_,rfl,by show _=some (HO.tup [V.str (aae "add"),V.int _,V.int _,V.int _]);bv_omega⟩ (.inl (by walk_at"A"))
       . have hzl : 0 < zs.length := List.length_pos_iff.mpr Vt;refine C2 (ai aa nl9) aa (by rw[aac];lia) ?_;obtain⟨z,TU,hzz2⟩:∃ z:Int,cT (zs.map V.int) (c/36%(zs.length:Int))=some (.int z)/\0<=z/\z<=7:=by
           have z0:=abj (c/36) (show(zs.length:Int)≠0 by lia);have z1:=abb (c/36) (show 0<(zs.length:Int) by lia);obtain⟨j,hj⟩:∃ j:Nat,c/36%(zs.length:Int)=(j:Int):=⟨(c/36%(zs.length:Int)).toNat,by lia⟩
           have S9:j<zs.length:=by lia
           exact⟨zs[j],by rw[hj];exact bG (by rw[aah,aaa S9];rfl),hzb _ (aaY S9)⟩
         have hlz : 0<(zs.length:Int):=by lia
         symm;exact Ta us H2 sD Tr (by lia) _ (.set (z) (c/108%97)) _ _ _ _ _ (by walk_at"same") (by walk_at"hlk") ⟨_,rfl,by show _=some (HO.tup [V.str (aae "set"),V.int _,V.int _]);bv_omega⟩ (.inl (by walk_at"A"))
     . symm;rw[hk];symm;refine eA (ar.of aa) rfl rfl ?_;rw[show eY (V.int 4) [V.int 4,V.int 5]=true from by nofun];symm;refine eA (aP ((ae (by assumption)).trans (ae (by assumption))) hlsD) rfl (List.all_eq_true.mpr (λv hv=>by obtain⟨z,_,rfl⟩:=List.mem_map.mp hv;rfl)) ?_;cases eY (V.int 7) (ss.map V.int) with
       | true =>
         symm;exact Ta us H2 sD Tr (by lia) _ (.call (-1 - c/36%3)) _ _ _ _ _ (by walk_at"same") (by walk_at"hlk") ⟨_,rfl,by show _=some (HO.tup [V.str (aae "call"),V.int _]);bv_omega⟩ (.inr (.inl ⟨_,rfl⟩))
       | false =>
         symm;exact Ta us H2 sD Tr (by lia) _ (.set (c/9%4) (c/36%4)) _ _ _ _ _ (by walk_at"same") (by walk_at"hlk") ⟨_,rfl,by show _=some (HO.tup [V.str (aae "set"),V.int _,V.int _]);bv_omega⟩ (.inl (by walk_at"A"))
     . symm;rw[hk];symm;refine eA (ar.of aa) rfl rfl ?_;rw[show eY (V.int 5) [V.int 4,V.int 5]=true from by nofun];symm;refine eA (aP ((ae (by assumption)).trans (ae (by assumption))) hlsD) rfl (List.all_eq_true.mpr (λv hv=>by obtain⟨z,_,rfl⟩:=List.mem_map.mp hv;rfl)) ?_;cases eY (V.int 7) (ss.map V.int) with
       | true =>
         symm;exact Ta us H2 sD Tr (by lia) _ (.call (-1 - c/36%3)) _ _ _ _ _ (by walk_at"same") (by walk_at"hlk") ⟨_,rfl,by show _=some (HO.tup [V.str (aae "call"),V.int _]);bv_omega⟩ (.inr (.inl ⟨_,rfl⟩))
       | false =>
         symm;exact Ta us H2 sD Tr (by lia) _ (.add (c/9%4) (c/36%8) (c/9%4)) _ _ _ _ _ (by walk_at"same") (by walk_at"hlk") ⟨_,rfl,by show _=some (HO.tup [V.str (aae "add"),V.int _,V.int _,V.int _]);bv_omega⟩ (.inl (by walk_at"A"))
     . symm;rw [hk];symm;refine eA (ar.of aa) rfl rfl ?_;rw [show eY (V.int 6) [V.int 4,V.int 5]=false from by nofun];symm;refine cW (λhh=>?_) (λhh=>?_)
       . symm;refine qp (ok:=iD) aa (aO.cons (r:=.put (c/9%4) (sp)) ⟨_,rfl,by show _=some (HO.tup [V.str (aae "put"),V.int _,V.int _]);bv_omega⟩ (by walk_at"A") (aO.cons (r:=.get (c/9%4) (sp)) ⟨_,rfl,by show _=some (HO.tup [V.str (aae "get"),V.int _,V.int _]);bv_omega⟩ (by walk_at"A") aO.nil)) (by lia) (by show _<((2:Nat):Int);lia) λu r hu ho=>?_;symm;exact Ta us H2 sD Tr (by lia) u r _ _ _ _ _ (by walk_at"same") (by walk_at"hlk") hu (.inl ho)
       . symm;exact Ta us H2 sD Tr (by lia) _ (.set (c/9%4) (c/36%4)) _ _ _ _ _ (by walk_at"same") (by walk_at"hlk") ⟨_,rfl,by show _=some (HO.tup [V.str (aae "set"),V.int _,V.int _]);bv_omega⟩ (.inl (by walk_at"A"))
     . symm;rw [hk];symm;refine eA (ar.of aa) rfl rfl ?_;rw [show eY (V.int 7) [V.int 4,V.int 5]=false from by nofun];symm;repeat (rename @Eq Bool _ _=>Vt;clear Vt)
       rename_i l45 n45 t0 n0 ta na tb nb ll VS;have sX:ao H2 (upd (upd (upd H2 lk (.lst (zs.map V.int))) l45 (.lst [.int 4,.int 5])) t0 (.tup [.str "branch",.int (c/9%4),.int (at_+us.length+2)])):=((ae nlk).trans (ae n45)).trans (ae n0);exact Ta (us++[.ref t0]) (upd (upd (upd (upd H2 lk (.lst (zs.map V.int))) l45 (.lst [.int 4,.int 5])) t0 (.tup [.str "branch",.int (c/9%4),.int (at_+us.length+2)])) lr (.lst (us++[.ref t0]))) (bC (sD.trans sX) Us) (((Tr.same sX).app (aO.one (r:=.branch (c/9%4) (at_+us.length+2)) ⟨_,rfl,aa⟩ (.inl (by walk_at"A")))).off (sX _ _ VL)) (by rw[aab,aaF];lia) (.ref ta) (.set (c/9%4) 3) (upd (upd (upd (upd (upd (upd (upd H2 lk (.lst (zs.map V.int))) l45 (.lst [.int 4,.int 5])) t0 (.tup [.str "branch",.int (c/9%4),.int (at_+us.length+2)])) lr (.lst (us++[.ref t0]))) ta (.tup [.str "set",.int (c/9%4),.int 3])) tb (.tup [.str "drop",.int (c/9%4)])) ll (.lst [.ref ta,.ref tb])) _ _ _ _ (by exact((ae na).trans (ae nb)).trans (ae VS)) (by exact ai (ai (ai aa na) nb) VS) ⟨_,rfl,by exact ai (ai aa nb) VS⟩ (.inl (by walk_at"A"))
     . symm;rw [hk];symm;refine eA (ar.of aa) rfl rfl ?_;rw [show eY (V.int 8) [V.int 4,V.int 5]=false from by nofun];symm;repeat (rename @Eq Bool _ _=>Vt;clear Vt)
       rename_i l45 n45 t0 n0 ta na tb nb ll VS;have sX:ao H2 (upd (upd (upd H2 lk (.lst (zs.map V.int))) l45 (.lst [.int 4,.int 5])) t0 (.tup [.str "branch",.int (c/9%4),.int (at_+us.length+2)])):=((ae nlk).trans (ae n45)).trans (ae n0);exact Ta (us++[.ref t0]) (upd (upd (upd (upd H2 lk (.lst (zs.map V.int))) l45 (.lst [.int 4,.int 5])) t0 (.tup [.str "branch",.int (c/9%4),.int (at_+us.length+2)])) lr (.lst (us++[.ref t0]))) (bC (sD.trans sX) Us) (((Tr.same sX).app (aO.one (r:=.branch (c/9%4) (at_+us.length+2)) ⟨_,rfl,aa⟩ (.inl (by walk_at"A")))).off (sX _ _ VL)) (by rw[aab,aaF];lia) (.ref tb) (.drop (c/9%4)) (upd (upd (upd (upd (upd (upd (upd H2 lk (.lst (zs.map V.int))) l45 (.lst [.int 4,.int 5])) t0 (.tup [.str "branch",.int (c/9%4),.int (at_+us.length+2)])) lr (.lst (us++[.ref t0]))) ta (.tup [.str "set",.int (c/9%4),.int 3])) tb (.tup [.str "drop",.int (c/9%4)])) ll (.lst [.ref ta,.ref tb])) _ _ _ _ (by exact((ae na).trans (ae nb)).trans (ae VS)) (by exact ai (ai (ai aa na) nb) VS) ⟨_,rfl,by exact ai aa VS⟩ (.inl (by walk_at"A"))
   . rintro Z HD ⟨us,v5,v6,v7,v8,rfl,sD,VL,Vu,Tr⟩;rw[aac] at Vu;symm;exact q lr us HD sD VL Vu Tr
theorem vT (T:TX):FE 1 "_law_any_row" GH:=by
 refine bc 0 T.wt mr ?_ ?_;ac_nf
 . obtain ⟨c, m, rfl, m1, m2, q⟩ := h;have tm0:=abj (c/104) (show m≠0 by lia);have tm1:=abb (c/104) (show 0<m by lia);walk_at "h";have nd:=mr.nd;walk_at "v";symm;refine cW (λhh=>?_) (λhh=>?_)
   . symm;refine qp (ok:=iD) aa (aO.cons (r:=.set (c/13%8) (c/104%4294967296)) ⟨_,rfl,by show _=some (HO.tup [V.str (aae "set"),V.int _,V.int _]);bv_omega⟩ (by walk_at"A") (aO.cons (r:=.copy (c/13%8) (c/104%8)) ⟨_,rfl,by show _=some (HO.tup [V.str (aae "copy"),V.int _,V.int _]);bv_omega⟩ (by walk_at"A") (aO.cons (r:=.add (c/13%8) (c/104%8) (c/104/8%8)) ⟨_,rfl,by show _=some (HO.tup [V.str (aae "add"),V.int _,V.int _,V.int _]);bv_omega⟩ (by walk_at"A") aO.nil))) (by lia) (by show _<((3:Nat):Int);lia) λu r hu ho=>?_;exact q u r _ (by walk_at"same") hu ho
   symm;refine cW (λV_=>?_) (λV_=>?_)
   . symm
     with_reducible refine(?_:bJ _ _ _ _ _)
     rcases(show c%13 - 3=0∨c%13 - 3=1 by lia) with hx | hx <;> rw[hx]
     . refine b8 (ar.of aa) (v:=.str "grow") rfl ?_;symm;exact q _ (.grow (c/104%5)) _ (by walk_at"same") ⟨_,rfl,by show _=some (HO.tup [V.str (aae "grow"),V.int _]);bv_omega⟩ (by walk_at"A")
     . refine b8 (ar.of aa) (v:=.str "shrink") rfl ?_;symm;exact q _ (.shrink (c/104%5)) _ (by walk_at"same") ⟨_,rfl,by show _=some (HO.tup [V.str (aae "shrink"),V.int _]);bv_omega⟩ (by walk_at"A")
   symm;refine cW (λhh3=>?_) (λhh3=>?_)
   . symm
     with_reducible refine(?_:bJ _ _ _ _ _)
     rcases(show c%13 - 5=0∨c%13 - 5=1∨c%13 - 5=2 by lia) with hx | hx | hx <;> rw[hx]
     . refine b8 (ar.of aa) (v:=.str "put") rfl ?_;symm;exact q _ (.put (c/13%8) (c/104%5)) _ (by walk_at"same") ⟨_,rfl,by show _=some (HO.tup [V.str (aae "put"),V.int _,V.int _]);bv_omega⟩ (by walk_at"A")
     . refine b8 (ar.of aa) (v:=.str "get") rfl ?_;symm;exact q _ (.get (c/13%8) (c/104%5)) _ (by walk_at"same") ⟨_,rfl,by show _=some (HO.tup [V.str (aae "get"),V.int _,V.int _]);bv_omega⟩ (by walk_at"A")
     . refine b8 (ar.of aa) (v:=.str "put") rfl ?_;symm;exact q _ (.put (c/13%8) (c/104%5)) _ (by walk_at"same") ⟨_,rfl,by show _=some (HO.tup [V.str (aae "put"),V.int _,V.int _]);bv_omega⟩ (by walk_at"A")
   symm;refine cW (λhh4=>?_) (λhh4=>?_)
   . symm
     with_reducible refine(?_:bJ _ _ _ _ _)
     rcases(show c%13 - 8=0∨c%13 - 8=1 by lia) with hx | hx <;> rw[hx]
     . refine b8 (ar.of aa) (v:=.str "jump") rfl ?_;symm;exact q _ (.dr (c/104%m)) _ (by walk_at"same") ⟨_,rfl,by show _=some (HO.tup [V.str (aae "jump"),V.int _]);bv_omega⟩ (by walk_at"A")
     . refine b8 (ar.of aa) (v:=.str "call") rfl ?_;symm;exact q _ (.call (c/104%m)) _ (by walk_at"same") ⟨_,rfl,by show _=some (HO.tup [V.str (aae "call"),V.int _]);bv_omega⟩ (by walk_at"A")
   symm;refine eW (λhh5=>?_) (λhh5=>?_)
   . symm;exact q _ (.branch (c/13%8) (c/104%m)) _ (by walk_at"same") ⟨_,rfl,by show _=some (HO.tup [V.str (aae "branch"),V.int _,V.int _]);bv_omega⟩ (by walk_at"A")
   symm
   with_reducible refine(?_:bJ _ _ _ _ _)
   rcases(show c%13 - 11=0∨c%13 - 11=1 by lia) with hx | hx <;> rw[hx]
   . refine b8 (ar.of aa) (v:=.str "back") rfl ?_;symm;rw [show 12 - c%13=1 by lia,Int.mul_one];rcases (show c/104%2=0∨c/104%2=1 by lia) with hy | hy <;> rw [hy]
     . refine b8 (ar.of aa) (v:=.int _) rfl ?_;symm;exact q _ (.back (c/13%8)) _ (by walk_at"same") ⟨_,rfl,by show _=some (HO.tup [V.str (aae "back"),V.int _]);bv_omega⟩ (by walk_at"A")
     . refine b8 (ar.of aa) (v:=.int 7) rfl ?_;symm;exact q _ (.back (7)) _ (by walk_at"same") ⟨_,rfl,by show _=some (HO.tup [V.str (aae "back"),V.int _]);bv_omega⟩ (by walk_at"A")
   . refine b8 (ar.of aa) (v:=.str "drop") rfl ?_;symm;rw[show 12 - c%13=0 by lia,Int.mul_zero];refine b8 (ar.of aa) (v:=.int _) rfl ?_;symm;exact q _ (.drop (c/13%8)) _ (by walk_at"same") ⟨_,rfl,by show _=some (HO.tup [V.str (aae "drop"),V.int _]);bv_omega⟩ (by walk_at"A")
theorem tH (T:TX):FE 1 "_law_any_entry" (N_ K):=by
 refine bc 0 T.tP jw ?_ ?_;ac_nf
 . obtain ⟨c, rfl, q⟩ := h;walk_at "h";have nd:=jw.nd;walk_at "v";symm;refine eW (λhh=>?_) (λhh=>?_)
   . symm;exact q _ none _ (ao.refl _) rfl (λe z=>by cases z)
   have hh0 : 0<=c/8%6/\c/8%6<=5:=⟨by lia,by lia⟩
   symm;refine⟨_,_,rfl,rfl,⟨by lia,by lia,1,by decide,by decide⟩,?_⟩;show bg 2 (V.int (1*2 ^ (8+c/8%6).toNat)) _ H _;obtain⟨m,em,m0,m1⟩:∃ m:Int,1*(2:Int) ^ (8+c/8%6).toNat=m/\0<m/\m<1073741824:=by
     rcases(show c/8%6=0∨c/8%6=1∨c/8%6=2∨c/8%6=3∨c/8%6=4∨c/8%6=5 by lia) with z | z | z | z | z | z <;> rw[z] <;> exact⟨_,rfl,by decide,by decide⟩
   rw[em];have md:∀ x:Int,0<=x%m:=λx=>abj _ (by lia);have cd:∀ x:Int,Ek x m:=λx=>⟨m0,m1⟩;symm;repeat (refine⟨_,_,rfl,rfl,cd _,?_⟩;symm)
   rename_i t1 n1 t2 n2;exact q _ (some ⟨c/8%6,c/48%m,c/48/m%m,c/48/m/m%m,c/48/m/m/m%m⟩) _ ((ae n1).trans (ae n2)) ⟨t2,rfl,t1,aI.of aa,aI.of (ai aa n2)⟩ (λe z=>by cases z;exact⟨⟨md _,md _,md _,md _⟩,hh0.1,by show c/8%6<=4000;lia⟩)
theorem sV (T:TX):FE 1 "_law_other_row" GH:=by
 refine bc 0 T.s_ ke ?_ ?_;ac_nf
 . obtain⟨c, m, rfl, m1, m2, q⟩ := h;have tm0:=abj (c/104) (show m≠0 by lia);have tm1:=abb (c/104) (show 0<m by lia);walk_at"h";have nd:=ke.nd;walk_at"v";symm;refine qp (ok:=iD) aa (aO.app (aO.app (aO.app (aO.cons (r:=.set (c/13%8) (c/104%9)) ⟨_,rfl,by show _=some (HO.tup [V.str (aae "set"),V.int _,V.int _]);bv_omega⟩ (by walk_at"A") (aO.cons (r:=.copy (c/13%8) (c/104%8)) ⟨_,rfl,by show _=some (HO.tup [V.str (aae "copy"),V.int _,V.int _]);bv_omega⟩ (by walk_at"A") (aO.cons (r:=.grow (c/104%3)) ⟨_,rfl,by show _=some (HO.tup [V.str (aae "grow"),V.int _]);bv_omega⟩ (by walk_at"A") aO.nil))) (aO.cons (r:=.put (c/13%8) (c/104%4)) ⟨_,rfl,by show _=some (HO.tup [V.str (aae "put"),V.int _,V.int _]);bv_omega⟩ (by walk_at"A") (aO.cons (r:=.get (c/13%8) (c/104%4)) ⟨_,rfl,by show _=some (HO.tup [V.str (aae "get"),V.int _,V.int _]);bv_omega⟩ (by walk_at"A") (aO.cons (r:=.dr (c/104%m)) ⟨_,rfl,by show _=some (HO.tup [V.str (aae "jump"),V.int _]);bv_omega⟩ (by walk_at"A") aO.nil)))) (aO.cons (r:=.branch (c/13%8) (c/104%m)) ⟨_,rfl,by show _=some (HO.tup [V.str (aae "branch"),V.int _,V.int _]);bv_omega⟩ (by walk_at"A") (aO.cons (r:=.call (c/104%m)) ⟨_,rfl,by show _=some (HO.tup [V.str (aae "call"),V.int _]);bv_omega⟩ (by walk_at"A") (aO.cons (r:=.back (c/13%8)) ⟨_,rfl,by show _=some (HO.tup [V.str (aae "back"),V.int _]);bv_omega⟩ (by walk_at"A") aO.nil)))) (aO.cons (r:=.shrink (c/104%3)) ⟨_,rfl,by show _=some (HO.tup [V.str (aae "shrink"),V.int _]);bv_omega⟩ (by walk_at"A") (aO.cons (r:=.drop (c/13%8)) ⟨_,rfl,by show _=some (HO.tup [V.str (aae "drop"),V.int _]);bv_omega⟩ (by walk_at"A") (aO.cons (r:=.set (4+c/13%8%4) (1)) ⟨_,rfl,by show _=some (HO.tup [V.str (aae "set"),V.int _,V.int _]);bv_omega⟩ (by walk_at"A") (aO.cons (r:=.copy (c/13%8%4) (7)) ⟨_,rfl,by show _=some (HO.tup [V.str (aae "copy"),V.int _,V.int _]);bv_omega⟩ (by walk_at"A") aO.nil))))) (by lia) (by show c%13<13;lia) λu r h1 h2=>q u r _ (by walk_at"same") h1 h2
theorem Gp {x:Int}{m:Nat}(h : 0<=x) : 0<=adj x (m:Int):=by
 obtain⟨n,rfl⟩:=abd h;show 0<=ady (n:Int) (m:Int) - aaK (n:Int) (m:Int);rw[xX,gR];have h1:n &&& m<=n:=acL;have h2:n<=n ||| m:=Nat.left_le_or
 lia
theorem zk (h:zw 1 j)(q:∀ m:Nat,Q (.int (m:Int)) H):rI zw (λi j=>.int (i*2 ^ j.toNat)) (.int 1) (.int j) H Q:=⟨_,_,rfl,rfl,h,by show Q (V.int (1*2 ^ j.toNat)) H;rw[qR];exact q _⟩
theorem Ng {x:Int}{m:Nat}(h : 0<=x) : 0<=aaK x (m:Int):=by
 obtain⟨n,rfl⟩:=abd h;rw[gR];lia
theorem yp (T:TX):FE 1 "_law_turned" (RL K):=by
 refine bc 0 T.yE oa ?_ ?_;ac_nf
 . obtain⟨u, oe, c, rfl, hu, ho, q⟩ := h;walk_at"h";have nd:=oa.nd;walk_at"v";cases oe with
   | none =>
     cases (show u=V.aC from hu)
     symm;rename_i t1 n1 t2 n2;exact q _ (some ⟨1,256,16,32,64⟩) _ ((ae n1).trans (ae n2)) ⟨t2,rfl,t1,aI.of aa,aI.of (ai aa n2)⟩ (λe z=>by cases z;exact⟨by decide,by decide,by decide,by decide⟩)
   | some e =>
     obtain⟨p,rfl,p2,a1,a2⟩:=hu;obtain⟨⟨nb,n4,n5,n6⟩,e0,e1⟩:=ho e rfl;have hm0:(0:Int)<8+e.h:=by lia
     have z0:=abj (c/4) (show 8+e.h≠0 by lia);have z1:=abb (c/4) hm0;have sh:zw 1 (c/4%(8+e.h)):=qz z0 (by lia);symm;refine eW (λhh=>?_) (λhh=>?_)
     . symm;refine zk sh (λm=>?_);symm;rename_i t2 n2;exact q _ (some ⟨e.h,adj e.b m,e.v4,e.v5,e.v6⟩) _ (ae n2) ⟨t2,rfl,p2,aI.of aa,cm (ae n2) a2⟩ (λe' z=>by cases z;exact⟨Gp nb,n4,n5,n6⟩)
     symm;refine eW (λV_=>?_) (λV_=>?_)
     . symm;refine zk sh (λm=>?_);symm;rename_i t1 n1 t2 n2;exact q _ (some ⟨e.h,e.b,adj e.v4 m,e.v5,e.v6⟩) _ ((ae n1).trans (ae n2)) ⟨t2,rfl,t1,aI.of aa,aI.of (ai aa n2)⟩ (λe' z=>by cases z;exact⟨nb,Gp n4,n5,n6⟩)
     symm;refine eW (λhh3=>?_) (λhh3=>?_)
     . symm;refine zk sh (λm=>?_);symm;rename_i t1 n1 t2 n2;exact q _ (some ⟨e.h,e.b,e.v4,e.v6,aaK e.v5 m⟩) _ ((ae n1).trans (ae n2)) ⟨t2,rfl,t1,aI.of aa,aI.of (ai aa n2)⟩ (λe' z=>by cases z;exact⟨nb,n4,n6,Ng n5⟩)
     symm;rename_i t1 n1 l1 UP;rcases(show c/4%2=0∨c/4%2=1 by lia) with z | z <;> rw[z]
     . refine b8 (ar.of aa) (v:=.ref t1) rfl ?_;exact q _ (some ⟨e.h+1,e.b,e.v4,e.v5,e.v6⟩) _ ((ae n1).trans (ae UP)) ⟨t1,rfl,p2,aI.of (ai aa UP),cm ((ae n1).trans (ae UP)) a2⟩ (λe' z=>by cases z;exact⟨nb,n4,n5,n6⟩)
     . refine b8 (ar.of aa) (v:=.aC) rfl ?_;exact q _ none _ ((ae n1).trans (ae UP)) rfl (λe' z=>by cases z)
theorem a8.CV:∀ {vs:List V} {cs:List bM} {i:Nat} {v:V},a8 H vs cs->vs[i]? = some v->∃ c,cs[i]? = some c/\iO H v c
 | [],cs,i,v,_,e=>by simp at e
 | u::vs,[],i,v,h,_=>h.elim
 | u :: vs, c :: cs, 0, v, h, e => by
   cases e
   exact⟨c,rfl,h.1⟩
 | u::vs,c::cs,i+1,v,h,e=>a8.CV (vs:=vs) (cs:=cs) (i:=i) h.2 (by simpa using e)
theorem wj (T:TX):FE 1 "_law_landing" qJ:=by
 refine bc 0 T.w4 mx ?_ ?_;ac_nf
 . obtain ⟨p, d, aU, us, cs, kvs, rfl, hp, Ve, hu, hd, q⟩ := h;have S4:=Ve.len;walk_at "h";have nd:=mx.nd;refine' aW ?_ ?_;walk_at "g";walk_at "tI";walk_at "tG";walk_at "m";walk_at "f";exact (PW.pt (lX (dO (lW (K:=K) rfl hr.units) (cB (dj (K:=K) rfl) (cB (dj (K:=K) rfl) (pv 0) (pv 3) (λ_ _=>rfl)) aX (λ_ _=>rfl)) (pv 2) (dZ _)) (l6 (Bz (Au (i_ hr) (cQ lZ (cB (dj (K:=K) rfl) (cB (dj (K:=K) rfl) (pv 0) (pv 3) (λ_ _=>rfl)) aX (λ_ _=>rfl)) aX) (pv 1))))));walk_at "tB";exact cL;exact λ_=>rfl;walk_at "m";walk_at "tS";walk_at "s";symm;refine fV (λi Z H2=>(∃ w,Z = [some (.ref p),some (.ref d),some (.int aU),w])/\H2=H/\∀ j c,j<i->cs[j]? = some c->landAt aU kvs c=false) ⟨⟨_,rfl⟩,rfl,λj c hj=>absurd hj (acf _)⟩ ?_ ?_
   . rintro i Z H2 hi ⟨⟨w,rfl⟩,rfl,VJ⟩;have UH:i<us.length:=by lia
     obtain⟨c,hc,U4⟩:=a8.CV Ve (aaa UH);obtain⟨t,q',ex,Vc,hq2⟩:=id U4;have TU:cT us (0+(i:Int))=some (.ref t):=by rw[Int.zero_add];exact bG (by rw[aaa UH,ex])
     have inv:landAt aU kvs c=false->∀ j c',j<i+1->cs[j]? = some c'->landAt aU kvs c'=false:=λhf j c' hj e=>by
       rcases Nat.lt_or_ge j i with z | z
       . exact VJ j c' z e
       . have : j = i := by lia
         subst this;rw[hc] at e;cases e;exact hf
     by_cases hr1:c.r=aU
     . symm;exact⟨⟨_,rfl⟩,rfl,inv (by unfold landAt;rw[decide_eq_false (λz=>z hr1)];rfl)⟩
     . symm;refine DA ?_;symm;refine zM hd ?_;cases hv:cP kvs (.inl (c.r - 1)) with
       | none =>
         symm;exact⟨⟨_,rfl⟩,rfl,inv (by unfold landAt;rw[hv,Bool.and_comm];rfl)⟩
       | some val =>
         have hfi:cs.findIdx? (landAt aU kvs)=some i:=by
           rw[List.findIdx?_eq_some_iff_getElem];have hi2:i<cs.length:=(List.getElem?_eq_some_iff.mp hc).1;have hci:cs[i]=c:=(List.getElem?_eq_some_iff.mp hc).2;refine⟨hi2,?_,λj hj=>?_⟩
           . rw[hci];unfold landAt;rw[hv,decide_eq_true hr1];rfl
           . have hj' : j < cs.length := by lia
             have:=VJ j cs[j] hj (aaa hj')
             rw[this];exact aap
         rw[show jx cs aU kvs=(i:Int)+1 from by unfold jx;rw[hfi]] at q;rw[adE];symm;rw[Int.zero_add];exact q
   . rintro Z H2 ⟨⟨w,rfl⟩,rfl,VJ⟩;have hfi:cs.findIdx? (landAt aU kvs)=none:=by
       rw[List.findIdx?_eq_none_iff];intro c hc;obtain⟨j,hj,e⟩:=List.mem_iff_getElem.mp hc;exact VJ j c (by lia) (by rw[aaa hj,e])
     rw[show jx cs aU kvs=0 from by unfold jx;rw[hfi]] at q;symm;exact q
theorem xI (r:Rw):r.mY.lookup ("goes" : Str)=none:=by
 cases r <;> (show abC _ (au _ _ _)=none;walk_at"nolk")
theorem kX (r:Rw):r.mY.lookup ("height" : Str)=none:=by
 cases r <;> (show abC _ (au _ _ _)=none;walk_at"nolk")
theorem rk (T:TX)(hr:r.here):ME 1 (r.cls a) "goes" (ei a r):=by
 cases r
 . exact(Cb T _ _).mono (by decide)
 . exact(Bb T _ _).mono (by decide)
 . exact(BW T _ _ _).mono (by decide)
 . exact hr.elim
 . exact hr.elim
 . exact hr.elim
 . exact(AK T _).mono (by decide)
 . exact(wV T _).mono (by decide)
 . exact(BJ T _ _).mono (by decide)
 . exact(BP T _ _).mono (by decide)
 . exact(Aw T _).mono (by decide)
 . exact(wK T _ _).mono (by decide)
 . exact(AR T _).mono (by decide)
 . exact(zK T _).mono (by decide)
 . exact(Ag T _).mono (by decide)
theorem iW (T:TX)(hr:r.here):ME 1 (r.cls a) "height" (c_ a r):=by
 cases r
 . exact(yx T _ _).mono (by decide)
 . exact(vS T _ _).mono (by decide)
 . exact(yK T _ _ _).mono (by decide)
 . exact hr.elim
 . exact hr.elim
 . exact hr.elim
 . exact(lT T _).mono (by decide)
 . exact(js T _).mono (by decide)
 . exact(nZ T _ _).mono (by decide)
 . exact(nW T _ _).mono (by decide)
 . exact(w9 T _).mono (by decide)
 . exact(t7 T _ _).mono (by decide)
 . exact(wH T _).mono (by decide)
 . exact(xf T _).mono (by decide)
 . exact(v_ T _).mono (by decide)
theorem lQ (T:TX)(hr:r.here)(h:bD a H p r):∃ t',fF K H (.ref p) t'/\aci K t' (.ref a.aZ)=some r.isCall/\aci K t' (.ref a.ba)=some r.d_:=by
 obtain⟨dx,e⟩:=h;cases r
 . exact⟨_,.ins e T.jP T.ve.1 T.eP T.eM T.ve.2,T.kY,T.lC⟩
 . exact⟨_,.ins e T.gY T.qQ.1 T.eP T.eM T.qQ.2,T.jM,T.jn⟩
 . exact⟨_,.ins e T.kg T.vN.1 T.eP T.eM T.vN.2,T.lD,T.lB⟩
 . exact hr.elim
 . exact hr.elim
 . exact hr.elim
 . exact⟨_,.ins e T.ir T.qF.1 T.eP T.eM T.qF.2,T.jW,T.jt⟩
 . exact⟨_,.ins e T.fh T.kF.1 T.eP T.eM T.kF.2,T.g_,T.g6⟩
 . exact⟨_,.ins e T.kh T.ud.1 T.eP T.eM T.ud.2,T.kU,T.kZ⟩
 . exact⟨_,.ins e T.ka T.uE.1 T.eP T.eM T.uE.2,T.lF,T.k7⟩
 . exact⟨_,.ins e T.hZ T.qO.1 T.eP T.eM T.qO.2,T.j_,T.jR⟩
 . exact⟨_,.ins e T.fb T.kL.1 T.eP T.eM T.kL.2,T.iu,T.ic⟩
 . exact⟨_,.ins e T.ie T.qP.1 T.eP T.eM T.qP.2,T.jl,T.jo⟩
 . exact⟨_,.ins e T.iw T.qw.1 T.eP T.eM T.qw.2,T.jH,T.jy⟩
 . exact⟨_,.ins e T.fX T.jh.1 T.eP T.eM T.jh.2,T.j8,T.jL⟩
theorem G0 (T:TX):FE 2 "filled" A0:=by
 refine bc 1 T.Fe xD ?_ ?_;ac_nf
 . obtain⟨s, p, t, rfl, q⟩ := h;walk_at"h";have nd:=xD.nd;walk_at"v";symm;rw[gR];unfold fo at q;by_cases e:s &&& t=0
   . rw[if_pos e] at q;rw[e,show(((0:Nat):Int) != 0)=false from rfl];symm;exact q
   . rw[if_neg e] at q;rw[show(((s &&& t:Nat):Int) != 0)=true from by simp[e]];symm;refine(?_:Q (V.int _) _);rw[xX];exact q
theorem N4 (T:TX):KE 2 "Set" a.cO (ma a.cO Rw.set):=by
 refine eN 1 T.PR T.PZ si ?_ ?_;ac_nf
 . obtain⟨x, dx, i, j, rfl, ⟨⟨h1, h2⟩, ⟨h3, h4⟩⟩, hx, q⟩ := h;walk_at"h";have nd:=si.nd;walk_at"v";symm;exact q _ oO aa
theorem Cp (T:TX)(b n:Int):ME 2 a.cO "runs" (d6 K a (.set b n)):=by
 refine aB 1 T.jP T.DH rp ?_ ?_;ac_nf
 . obtain⟨x, bo, pi, z, bs, pl, rfl, ⟨dx, hx⟩, hk, hb, h8, hv, hp, S6, q⟩ := h
   change H x=some (.ins a.cO dx (au "number" (.int n) (au "box" (.int b) []))) at hx
   obtain⟨⟨k1,k2⟩,⟨k3,k4⟩⟩:=hk;walk_at"h";have nd:=rp.nd;walk_at"v";symm;exact eZ (by assumption) (by assumption) (by assumption) q
theorem zZ (T:TX)(b n:Int):ME 2 a.cO "keeps" (dD a (.set b n)):=by
 refine aB 1 T.jP T.BY pK ?_ ?_;ac_nf
 . obtain⟨x, s, z, rfl, ⟨dx, hx⟩, hk, z0, z1, hs, q⟩ := h
   change H x=some (.ins a.cO dx (au "number" (.int n) (au "box" (.int b) []))) at hx
   obtain⟨⟨k1,k2⟩,⟨k3,k4⟩⟩:=hk;walk_at"h";have nd:=pK.nd;walk_at"v";symm;exact q
theorem Ma (T:TX):KE 2 "Copy" a.bX (ma a.bX Rw.copy):=by
 refine eN 1 T.Nf T.OQ qd ?_ ?_;ac_nf
 . obtain⟨x, dx, i, j, rfl, ⟨⟨h1, h2⟩, ⟨h3, h4⟩⟩, hx, q⟩ := h;walk_at"h";have nd:=qd.nd;walk_at"v";symm;exact q _ oO aa
theorem BA (T:TX)(b o:Int):ME 2 a.bX "runs" (d6 K a (.copy b o)):=by
 refine aB 1 T.gY T.BM p_ ?_ ?_;ac_nf
 . obtain⟨x, bo, pi, z, bs, pl, rfl, ⟨dx, hx⟩, hk, hb, h8, hv, hp, S6, q⟩ := h
   change H x=some (.ins a.bX dx (au "one" (.int o) (au "box" (.int b) []))) at hx
   obtain⟨⟨k1,k2⟩,⟨k3,k4⟩⟩:=hk;walk_at"h";have nd:=p_.nd;walk_at"v";symm;exact eZ (by assumption) (by assumption) (by assumption) q
theorem N0 (T:TX):KE 2 "Add" a.cI (Fi a.cI Rw.add):=by
 refine eN 1 T.P_ T.P0 i6 ?_ ?_;ac_nf
 . obtain⟨x, dx, i, j, k, rfl, ⟨⟨h1, h2⟩, ⟨h3, h4⟩, ⟨h5, h6⟩⟩, hx, q⟩ := h;walk_at"h";have nd:=i6.nd;walk_at"v";symm;exact q _ Ij aa
theorem A4 (T:TX)(b o t:Int):ME 2 a.cI "keeps" (dD a (.add b o t)):=by
 refine aB 1 T.kg T.CD iF ?_ ?_;ac_nf
 . obtain⟨x, s, z, rfl, ⟨dx, hx⟩, hk, z0, z1, hs, q⟩ := h
   change H x=some (.ins a.cI dx (au "other" (.int t) (au "one" (.int o) (au "box" (.int b) [])))) at hx
   obtain⟨⟨k1,k2⟩,⟨k3,k4⟩,⟨k5,k6⟩⟩:=hk;walk_at"h";have nd:=iF.nd;walk_at"v";symm;exact q
theorem CH (T:TX)(b o t:Int):ME 2 a.cI "runs" (d6 K a (.add b o t)):=by
 refine aB 1 T.kg T.DE su ?_ ?_;ac_nf
 . obtain⟨x, bo, pi, z, bs, pl, rfl, ⟨dx, hx⟩, hk, hb, h8, hv, hp, S6, q⟩ := h
   change H x=some (.ins a.cI dx (au "other" (.int t) (au "one" (.int o) (au "box" (.int b) [])))) at hx
   obtain⟨⟨k1,k2⟩,⟨k3,k4⟩,⟨k5,k6⟩⟩:=hk;walk_at"h";have nd:=su.nd;walk_at"v";symm;exact eZ (by assumption) (by assumption) (by assumption) q
theorem Lg (T:TX):KE 2 "Grow" a.ck (lG a.ck Rw.grow):=by
 refine eN 1 T.NV T.M4 pC ?_ ?_;ac_nf
 . obtain⟨x, dx, i, rfl, ⟨h1, h2⟩, hx, q⟩ := h;walk_at"h";have nd:=pC.nd;walk_at"v";symm;exact q _ lH aa
theorem A1 (T:TX)(m:Int):ME 2 a.ck "runs" (d6 K a (.grow m)):=by
 refine aB 1 T.ir T.B6 pH ?_ ?_;ac_nf
 . obtain⟨x, bo, pi, z, bs, pl, rfl, ⟨dx, hx⟩, hk, hb, h8, hv, hp, S6, q⟩ := h
   change H x=some (.ins a.ck dx (au "many" (.int m) [])) at hx
   obtain⟨k1,k2⟩:=hk;walk_at"h";have nd:=pH.nd;walk_at"v";symm;refine aY hx (by walk_at"nolk") ((lT T m).mono (by decide)) ?_;symm;refine⟨x,_,rfl,⟨dx,hx⟩,?_⟩;have q:gX H Q (if (pl.length:Int)+m > 4000 then none else some (z+1,bs,pl++aau m.toNat 0)):=q;by_cases hh:(pl.length:Int)+m > 4000
   . rw[if_pos hh] at q;rw[show bN (Rw.aE (.grow m) (pl.length:Int))=V.aC from by simp only[Rw.aE];rw[if_pos hh];rfl];symm;exact q _ (by walk_at"same")
   rw[if_neg hh] at q;rw[show bN (Rw.aE (.grow m) (pl.length:Int))=V.int (pl.length+m) from by simp only[Rw.aE];rw[if_neg hh];rfl];symm;walk_at"tf"
theorem FH (T:TX):KE 2 "Shrink" a.bB (lG a.bB Rw.shrink):=by
 refine eN 1 T.Jw T.Hu lY ?_ ?_;ac_nf
 . obtain⟨x, dx, i, rfl, ⟨h1, h2⟩, hx, q⟩ := h;walk_at"h";have nd:=lY.nd;walk_at"v";symm;exact q _ lH aa
theorem wR (T:TX)(m:Int):ME 2 a.bB "runs" (d6 K a (.shrink m)):=by
 refine aB 1 T.fh T.yG mC ?_ ?_;ac_nf
 . obtain⟨x, bo, pi, z, bs, pl, rfl, ⟨dx, hx⟩, hk, hb, h8, hv, hp, S6, q⟩ := h
   change H x=some (.ins a.bB dx (au "many" (.int m) [])) at hx
   obtain⟨k1,k2⟩:=hk;walk_at"h";have nd:=mC.nd;walk_at"v";symm;refine aY hx (by walk_at"nolk") ((js T m).mono (by decide)) ?_;symm;refine⟨x,_,rfl,⟨dx,hx⟩,?_⟩;have q:gX H Q (if (pl.length:Int)<m then none else some (z+1,bs,pl.take (pl.length - m.toNat))):=q;by_cases hh:(pl.length:Int)<m
   . rw[if_pos hh] at q;rw[show bN (Rw.aE (.shrink m) (pl.length:Int))=V.aC from by simp only[Rw.aE];rw[if_pos hh];rfl];symm;exact q _ (by walk_at"same")
   rw[if_neg hh] at q;rw[show bN (Rw.aE (.shrink m) (pl.length:Int))=V.int (pl.length - m) from by simp only[Rw.aE];rw[if_neg hh];rfl];symm;rw[fU _ (by lia),show((pl.length:Int) - m).toNat=pl.length - m.toNat from by lia];walk_at"tf"
theorem uO (T:TX)(m:Int):ME 2 a.bB "keeps" (dD a (.shrink m)):=by
 refine aB 1 T.fh T.wx kM ?_ ?_;ac_nf
 . obtain⟨x, s, z, rfl, ⟨dx, hx⟩, hk, z0, z1, hs, q⟩ := h
   change H x=some (.ins a.bB dx (au "many" (.int m) [])) at hx
   obtain⟨k1,k2⟩:=hk;have hh : ¬ z<m:=λe=>by rw[show Rw.aE (.shrink m) z=none from if_pos e] at hs;cases hs
   walk_at"h";have nd:=kM.nd;walk_at"v";symm;refine E6 (qz (by lia) (by lia)) ?_;symm;rw[qR,show((2 ^ m.toNat:Nat):Int) - 1=((2 ^ m.toNat - 1:Nat):Int) from by have:=Nat.one_le_two_pow (n:=m.toNat);lia];refine E6 ⟨by lia,by lia,m.toNat,by lia,by rw[acS];have:=Nat.one_le_two_pow (n:=m.toNat);lia⟩ ?_;rw[show((2 ^ m.toNat - 1:Nat):Int)*2 ^ (8+z - m).toNat=(((2 ^ m.toNat - 1)*2 ^ (8+z - m).toNat:Nat):Int) from by rw[Int.natCast_mul,Int.natCast_pow];rfl];symm;exact q
theorem M_ (T:TX):KE 2 "Put" a.cN (ma a.cN Rw.put):=by
 refine eN 1 T.Qa T.PQ eF ?_ ?_;ac_nf
 . obtain⟨x, dx, i, j, rfl, ⟨⟨h1, h2⟩, ⟨h3, h4⟩⟩, hx, q⟩ := h;walk_at"h";have nd:=eF.nd;walk_at"v";symm;exact q _ oO aa
theorem Ms (T:TX):KE 2 "Get" a.cM (ma a.cM Rw.get):=by
 refine eN 1 T.Qv T.Qw eF ?_ ?_;ac_nf
 . obtain⟨x, dx, i, j, rfl, ⟨⟨h1, h2⟩, ⟨h3, h4⟩⟩, hx, q⟩ := h;walk_at"h";have nd:=eF.nd;walk_at"v";symm;exact q _ oO aa
theorem Cu (T:TX)(b c:Int):ME 2 a.cN "runs" (d6 K a (.put b c)):=by
 refine aB 1 T.kh T.EX sr ?_ ?_;ac_nf
 . obtain⟨x, bo, pi, z, bs, pl, rfl, ⟨dx, hx⟩, hk, hb, h8, hv, hp, S6, q⟩ := h
   change H x=some (.ins a.cN dx (au "cell" (.int c) (au "box" (.int b) []))) at hx
   obtain⟨⟨k1,k2⟩,⟨k3,k4⟩⟩:=hk;walk_at"h";have nd:=sr.nd;walk_at"v";symm;refine aY hx (by walk_at"nolk") ((nZ T b c).mono (by decide)) ?_;symm;refine⟨x,_,rfl,⟨dx,hx⟩,?_⟩;have q:gX H Q (if (pl.length:Int)<=c then none else some (z+1,bs,sI pl (pl.length - 1 - c) (gI bs b))):=q;by_cases hh:(pl.length:Int)<=c
   . rw[if_pos hh] at q;rw[show bN (Rw.aE (.put b c) (pl.length:Int))=V.aC from by simp only[Rw.aE];rw[if_pos hh];rfl];symm;exact q _ (by walk_at"same")
   rw[if_neg hh] at q;rw[show bN (Rw.aE (.put b c) (pl.length:Int))=V.int pl.length from by simp only[Rw.aE];rw[if_neg hh];rfl];symm;walk_at"tf"
theorem Cv (T:TX)(b c:Int):ME 2 a.cM "runs" (d6 K a (.get b c)):=by
 refine aB 1 T.ka T.D8 rH ?_ ?_;ac_nf
 . obtain⟨x, bo, pi, z, bs, pl, rfl, ⟨dx, hx⟩, hk, hb, h8, hv, hp, S6, q⟩ := h
   change H x=some (.ins a.cM dx (au "cell" (.int c) (au "box" (.int b) []))) at hx
   obtain⟨⟨k1,k2⟩,⟨k3,k4⟩⟩:=hk;walk_at"h";have nd:=rH.nd;walk_at"v";symm;refine aY hx (by walk_at"nolk") ((nW T b c).mono (by decide)) ?_;symm;refine⟨x,_,rfl,⟨dx,hx⟩,?_⟩;have q:gX H Q (if (pl.length:Int)<=c then none else some (z+1,sI bs b (gI pl (pl.length - 1 - c)),pl)):=q;by_cases hh:(pl.length:Int)<=c
   . rw[if_pos hh] at q;rw[show bN (Rw.aE (.get b c) (pl.length:Int))=V.aC from by simp only[Rw.aE];rw[if_pos hh];rfl];symm;exact q _ (by walk_at"same")
   rw[if_neg hh] at q;rw[show bN (Rw.aE (.get b c) (pl.length:Int))=V.int pl.length from by simp only[Rw.aE];rw[if_neg hh];rfl];symm;exact eZ (by assumption) (by assumption) (by assumption) q
theorem Bm (T:TX):FE 2 "looked_up" (Ha K):=by
 refine bc 1 T.Aq o9 ?_ ?_;ac_nf
 . obtain⟨s, pk, pp, kn, pc, rfl, h1, h8, h2, h0, q⟩ := h;walk_at"h";have nd:=o9.nd;walk_at"v";symm;walk_at"cs"
   . symm;rw[show bt s kn pc=.aC from by unfold bt;rw[if_pos hh]] at q;exact q
   have hp : 0<s:=by omega
   have hl:=h0 hp;symm;walk_at"cs"
   . symm;exact b8 h1 (Ir hp hl (by assumption) h8) q
   have h9:=hh;have e:bt s kn pc=if lowP s - 8<pc.length then .int (gI pc (lowP s - 8)) else .aC:=by unfold bt;rw[if_neg (by omega),if_neg h9]
   rw[e] at q;symm;walk_at"cs"
   . have h10 := hh;rw[if_pos h10] at q;symm;exact q
   . have h10 := hh;rw[if_neg h10] at q;symm;exact q
theorem LY (T:TX):KE 2 "Jump" a.cp (lG a.cp Rw.dr):=by
 refine eN 1 T.M0 T.Nu qi ?_ ?_;ac_nf
 . obtain⟨x, dx, i, rfl, ⟨h1, h2⟩, hx, q⟩ := h;walk_at"h";have nd:=qi.nd;walk_at"v";symm;exact q _ lH aa
theorem GQ (T:TX):KE 2 "Branch" a.bz (ma a.bz Rw.branch):=by
 refine eN 1 T.Jx T.IZ mH ?_ ?_;ac_nf
 . obtain⟨x, dx, i, j, rfl, ⟨⟨h1, h2⟩, ⟨h3, h4⟩⟩, hx, q⟩ := h;walk_at"h";have nd:=mH.nd;walk_at"v";symm;exact q _ oO aa
theorem Md (T:TX):KE 2 "Call" a.aZ (lG a.aZ Rw.call):=by
 refine eN 1 T.zr T.OR pN ?_ ?_;ac_nf
 . obtain⟨x, dx, i, rfl, ⟨h1, h2⟩, hx, q⟩ := h;walk_at"h";have nd:=pN.nd;walk_at"v";symm;exact q _ lH aa
theorem AI (T:TX)(t:Int):ME 2 a.aZ "runs" (d6 K a (.call t)):=by
 refine aB 1 T.ie T.Ce pB ?_ ?_;ac_nf
 . obtain⟨x, bo, pi, z, bs, pl, rfl, ⟨dx, hx⟩, hk, hb, h8, hv, hp, S6, q⟩ := h
   change H x=some (.ins a.aZ dx (au "target" (.int t) [])) at hx
   obtain⟨k1,k2⟩:=hk;walk_at"h";have nd:=pB.nd;walk_at"v";symm;exact eZ (by assumption) (by assumption) (by assumption) q
theorem yL (T:TX)(t:Int):ME 2 a.aZ "keeps" (dD a (.call t)):=by
 refine aB 1 T.ie T.AG nH ?_ ?_;ac_nf
 . obtain⟨x, s, z, rfl, ⟨dx, hx⟩, hk, z0, z1, hs, q⟩ := h
   change H x=some (.ins a.aZ dx (au "target" (.int t) [])) at hx
   obtain⟨k1,k2⟩:=hk;walk_at"h";have nd:=nH.nd;walk_at"v";symm;exact xC (p:=143) q
theorem LZ (T:TX):KE 2 "Back" a.ba (lG a.ba Rw.back):=by
 refine eN 1 T.F7 T.OI oU ?_ ?_;ac_nf
 . obtain⟨x, dx, i, rfl, ⟨h1, h2⟩, hx, q⟩ := h;walk_at"h";have nd:=oU.nd;walk_at"v";symm;exact q _ lH aa
theorem KY (T:TX):KE 2 "Drop" a.be (lG a.be Rw.drop):=by
 refine eN 1 T.F8 T.NG oE ?_ ?_;ac_nf
 . obtain⟨x, dx, i, rfl, ⟨h1, h2⟩, hx, q⟩ := h;walk_at"h";have nd:=oE.nd;walk_at"v";symm;exact q _ lH aa
theorem oY (T:TX):FE 2 "has_wrong_place" (LN K):=by
 refine bc 1 T.qm iC ?_ ?_;ac_nf
 . obtain ⟨p, e, rfl, ⟨qe, h1, h2⟩, q⟩ := h;walk_at "h";have nd:=iC.nd;refine' aW ?_ ?_;walk_at "tS";walk_at "c";walk_at "c";walk_at "m";exact (iE (cJ (GY (K:=K) rfl rfl) rfl T.Py QL (aj (fz (own:=["places"]) (fr:=[("beyond",2)]) rfl ⟨rfl,(by walk_at "clok"),(by walk_at "frok"),rfl,(by nofun),(by nofun),rfl⟩ (dP (K:=K) rfl (bp (gB T) (hr.mono (by decide)) b_ rfl (aj (pv 0) aD))) (λ_ _ _ _=>(bS (i:=0) (show aa7 [("places" : Str),("beyond" : Str)] from by nofun) rfl (Or.inl rfl))) (λ_ _ _ _=>c9) (λ_ _ _ _=>(Kz (wL y_ (pv 0) aX (dZ _)) (Gi (wL (lW (K:=K) rfl hr.units) (cQ GD (pv 0) (pv 1)) aX (dZ _)))))) aD)));walk_at "s";symm;refine cW (λhh=>?_) (λhh=>?_)
   . symm;rw[show du e=true from by unfold du;rw[decide_eq_true hh];rfl] at q;exact q _ (ao.refl _)
   symm;refine cW (λV_=>?_) (λV_=>?_)
   . symm;rw[show du e=true from by unfold du;rw[decide_eq_true V_,Bool.true_or,Bool.or_true]] at q;exact q _ (ao.refl _)
   symm;refine⟨p,e,rfl,⟨qe,h1,h2⟩,λt ht=>?_⟩;symm;refine xA (emb:=V.int) (λs=>.bl (jZ e.h s)) (λZ=>∃ v,Z = [v,some (.int (8+e.h))]) (aI.of aa) (by show 4<=aal;decide) ⟨_,rfl⟩ ?_ ?_
   . rintro i x ys Z H1 hx cc ss ⟨v,rfl⟩;symm;refine cW (λh3=>?_) (λh3=>?_)
     . symm;exact cc.next hx (by unfold jZ;rw[decide_eq_true h3];rfl) (by walk_at"same") ⟨_,rfl⟩
     . symm;exact cc.next hx (by unfold jZ;rw[decide_eq_false h3,ac4];congr 2;rw[decide_eq_decide];exact⟨λz=>by injection z,λz=>by rw[z]⟩) (by walk_at"same") ⟨_,rfl⟩
   intro H3 s3;symm;rename_i l nl;refine Mo (bs:=e.dG.map (jZ e.h)) (by rw[abe];exact ar.of aa) ?_;rw[show(e.dG.map (jZ e.h)).any id=du e from by
     unfold du;rw[decide_eq_false hh,decide_eq_false V_,ac4,ac4,List.any_map];rfl]
   exact q _ (by walk_at"same")
theorem wb (T:TX):FE 2 "may_go_back" (NJ K a):=by
 refine bc 1 T.wW lR ?_ ?_;ac_nf
 . obtain⟨x, p, b, e, rfl, ⟨dx, hx⟩, b0, b7, ⟨qe, h1, h2⟩, q⟩ := h
   change H x=some (.ins a.ba dx (au "box" (.int b) [])) at hx
   walk_at"h";have nd:=lR.nd;refine' aW ?_ ?_;walk_at"tS";walk_at"m";exact(iE (cJ (DF (K:=K) rfl rfl) rfl T.P7 Qt (aj (fz (own:=["box","places"]) (fr:=[]) rfl ⟨rfl,(by walk_at"clok"),(by walk_at"frok"),rfl,(by nofun),(by nofun),rfl⟩ (O1 (K:=K) rfl rfl T.yV (aj (gb (v:=.ref a.gk) rfl T.p9 rfl) (aj (cB (dj (K:=K) rfl) (pv 1) aX (λ_ _=>rfl)) aD))) (λ_ _ _ _=>(wO (K:=K) (n:=2) rfl rfl (jG (bS (i:=0) (show aa7 [("box" : Str),("places" : Str)] from by nofun) rfl (Or.inl rfl)) (jG (bS (i:=1) (show aa7 [("box" : Str),("places" : Str)] from by nofun) rfl (Or.inl rfl)) vU)))) (λ_ _ _ _=>c9) (λ_ _ _ _=>(cQ uY (pv 1) (bp (pI T) (hr.mono (by decide)) b_ rfl (aj (pv 0) aD))))) aD)));walk_at"s";symm;refine gL (λhh=>?_) (λhh=>?_)
   . symm;rw[show jA b e=false from by unfold jA;rw[decide_eq_false hh];rfl] at q;exact q _ (ao.refl _)
   symm;unfold jA at q;rw[decide_eq_true hh,Bool.true_and] at q;cases hb:(aaK e.b ((2 ^ b.toNat:Nat):Int) != 0) with
   | false =>
     rw[hb] at q;symm;exact q _ (ao.refl _)
   | true =>
     rw[hb,Bool.true_and] at q;symm;refine⟨a.gk,qe,_,_,rfl,T.jO _,h2,?_⟩;refine E3 (xs:=[((4:Int),e.v4),(5,e.v5),(6,e.v6)]) (e1:=λq=>.int q.1) (e2:=λq=>.int q.2) (λq=>.int (aaK q.2 ((2 ^ q.1.toNat:Nat):Int))) (λZ=>∃ u v,Z = [u,v]) (T.jO _) h2 (by show 3<=aal;decide) ⟨_,_,rfl⟩ ?_ ?_
     . rintro i z ys Z H1 T' hz cc ss ⟨u,v,rfl⟩ nT;have Vt : 0<=z.1/\z.1<=7:=by
         match i,hz with
         | 0,hz=>cases hz;exact⟨by show(0:Int)<=4;decide,by show(4:Int)<=7;decide⟩
         | 1,hz=>cases hz;exact⟨by show(0:Int)<=5;decide,by show(5:Int)<=7;decide⟩
         | 2,hz=>cases hz;exact⟨by show(0:Int)<=6;decide,by show(6:Int)<=7;decide⟩
         | i+3,hz=>simp at hz
       obtain⟨z0,z7⟩:=Vt;symm;exact cc.next hz rfl (by walk_at"same") ⟨_,_,rfl⟩
     intro H3 s3;symm;rename_i l nl;refine Nh (ns:=[aaK e.v4 16,aaK e.v5 32,aaK e.v6 64]) (ar.of aa) ?_;simp only[acF,List.all_nil,Bool.and_true];exact q _ (by walk_at"same")
theorem oz (T:TX):FE 2 "target_complaint" (Na K a):=by
 refine bc 1 T.oy gT ?_ ?_;ac_nf
 . obtain⟨x, l, t, ev, es, rfl, ⟨dx, hx⟩, hl, To, q⟩ := h
   change H x=some (.ins a.aZ dx (au "target" (.int t) [])) at hx
   walk_at"h";have nd:=gT.nd;walk_at"v";symm;refine⟨t,l,ev,rfl,ar.of hl,?_⟩;rw[To.1];by_cases hh : 0<=t/\t<(es.length:Int)
   . rw[decide_eq_true hh];obtain⟨v,oe,TU,Uc,hmem,hv⟩:=To.at hh.1 hh.2;obtain⟨qs,t1,t2⟩:=T.mz;symm;refine Qq oe lL hv.dp (BG (t1 _) (t2 _)) ?_;have q:∀ H',ao H H'->Q (oV (if ko oe lL=true then none else some .start)) H':=λH' s=>by
       have:=q H' s
       unfold eJ at this;rw[if_pos hh,Uc] at this;exact this
     cases hb:ko oe lL with
     | true =>
       rw[hb] at q;symm;exact q _ (ao.refl _)
     | false =>
       rw[hb] at q;symm;exact q _ (ao.refl _)
   . rw[decide_eq_false hh];symm
     have:=q H (ao.refl _)
     unfold eJ at this;rw[if_neg hh] at this;exact this
theorem El (T:TX):FE 2 "ways_on" (Jg K a):=by
 refine bc 1 T.Dr vn ?_ ?_;ac_nf
 . obtain ⟨c, d, i, prs, rs, ls, rfl, hc, Tn, az, hd, UE, hi, q⟩ := h;have S6:=Tn.1;have hri:rs[i]? = some rs[i]:=aaa hi;have hpi:prs[i]? = some prs[i]:=aaa (by rw [S6];exact hi);have Tb:=Tn.2 i _ _ hpi hri;have hoki:=az _ (aaY hi);have hw:dB rs ls i=(rs[i]).dz i++(if (rs[i]).isCall=true/\(i:Int)∈ls.map (·.1) then [lv ls i] else []):=by unfold dB;rw [hri]
   generalize rs[i]=r at hri Tb hoki hw;generalize prs[i]=p0 at hpi Tb;have TU:cT (prs.map V.ref) (i:Int)=some (.ref p0):=bG (by rw[aah,hpi];rfl);obtain⟨dx,UW⟩:=id Tb;walk_at"h";have nd:=vn.nd;refine' aW ?_ ?_;walk_at"tS";walk_at"n";walk_at"f";exact(PW.pt (lX (De (K:=K) rfl (cJ (yd (K:=K) rfl) rfl T.pQ oB (aj (cB (dj (K:=K) rfl) (pv 0) (pv 2) (λ_ _=>rfl)) (aj (gb (v:=.ref a.aZ) rfl T.zr rfl) aD)))) (l6 (Bz (Au (i_ hr) (pv 2) (pv 1))))));walk_at"m";exact(fZ (zY (K:=K) rfl abG PySem.F.slot_list_append PySem.F.type_list_append ye (pv 3) (aj (wC (i_ hr) (pv 1) (pv 2) (λ_ _=>rfl)) aD)));exact cL;walk_at"m";walk_at"tS";walk_at"s";ac_rfl;refine aY UW (xI _) ((rk T hoki.2).mono (by decide)) ?_;ac_rfl;refine⟨p0,i,rfl,Tb,λl nl=>?_⟩;ac_rfl;obtain⟨t',ht1,US,_⟩:=lQ T hoki.2 (Tb.same (ae (o:=.lst ((r.dz i).map V.int)) nl));refine eX (λz=>nomatch z) ht1 US ?_;have hgl:=HL r i;cases T_:r.isCall with
   | false =>
     rw[T_,if_neg (by intro z;cases z.1),aaM] at hw;ac_rfl;exact q l _ (ae nl) nl (by rw[hw];exact aa)
   | true =>
     ac_rfl;refine Q_ ?_;refine DA ?_;ac_rfl;refine zM (kvs:=aw ls) (ai hd nl) ?_;by_cases hm:(i:Int)∈ls.map (·.1)
     . obtain⟨kv, hkv, hke⟩ := List.mem_map.mp hm;obtain⟨hv1,hv2⟩:=hG UE kv hkv;rw[hke] at hv1 hv2;rw[<- hv2] at hv1;rw[hv1];rw[T_,if_pos ⟨rfl,hm⟩] at hw;refine⟨true,rfl,?_⟩;rw[if_pos rfl];ac_rfl;refine Ay ?_;ac_rfl;refine⟨d,_,rfl,hv1 ▸ gq.k (k:=.inl (i:Int)) (ai hd nl),?_⟩;ac_rfl;refine q l _ (λb o e=>by rw[ak (ag e nl),ak (ag e nl)];exact e) nl ?_;rw[aa,hw,aaE];rfl
     . rw[iI hm];rw[if_neg (λz=>hm z.2),aaM] at hw;refine⟨false,rfl,?_⟩;rw[if_neg aap];ac_rfl;exact q l _ (ae nl) nl (by rw[hw];exact aa)
theorem yo (T:TX):iJ P w K mg base (eQ P w) 2 "heights_of" (PL K a):=by
 refine A9 1 T.yw eR ?_ ?_;ac_nf
 . obtain ⟨c, ly, prs, rs, ls, rfl, hc, Tn, az, h0, Ti, Tc, hwy, qe, q⟩ := h;have S6:=Tn.1;walk_at "h";have nd:=eR.nd;refine' aW ?_ ?_;walk_at "x";exact (fu (i:=2) eR.nd rfl rfl (own:=["row"]) (fr:=[]) rfl ⟨rfl,(by walk_at "clok"),(by walk_at "frok"),rfl,(by nofun),(by nofun),rfl⟩ (dP (K:=K) rfl (pv 0)) (λ_ _ _ _=>(bS (i:=0) (show aa7 [("row" : Str)] from by nofun) rfl (Or.inl rfl))) (λ_ _ _ _=>c9) (λ_ _ _ _=>j7));walk_at "n";walk_at "x";walk_at "tS";walk_at "n";exact (fZ (bp (tw T) (hr.mono (by decide)) mB rfl (aj (pv 2) (aj (pv 3) (aj aX (aj (cB (dj (K:=K) rfl) (gb (v:=.ref a.ji) rfl T.l0 rfl) aX (λ_ _=>rfl)) aD))))));walk_at "n"
   (with_reducible refine' jX ?_ ?_ ?_)
   exact adA;walk_at"y";walk_at"tT";walk_at"n";walk_at"x";exact(c8 (i:=4) eR.nd rfl (Or.inl rfl) (wF (K:=K) rfl abG PySem.F.slot_list_pop PySem.F.type_list_pop FL (pv 3)));walk_at"n";walk_at"x";walk_at"tS";walk_at"n";walk_at"f";walk_at"y";walk_at"tT";walk_at"m";exact(nu T.iH rfl (aj (qV (pv 4)) aD));exact cL;walk_at"n";exact(Bj adA rfl (dP (K:=K) rfl (cB (dj (K:=K) rfl) (pv 1) (pv 4) (λ_ _=>rfl))) (bS (i:=6) eR.nd rfl (Or.inl rfl)) (fq (fZ (bp (tw T) (hr.mono (by decide)) mB rfl (aj (pv 2) (aj (pv 3) (aj (pv 6) (aj (pv 5) aD))))))));walk_at"m";walk_at"f";walk_at"y";walk_at"tT";walk_at"m";exact(fZ (bp (tw T) (hr.mono (by decide)) mB rfl (aj (pv 2) (aj (pv 3) (aj (cD (K:=K) rfl (cB (dj (K:=K) rfl) (pv 0) (pv 4) (λ_ _=>rfl))) (aj (cB (dj (K:=K) rfl) (gb (v:=.ref a.ji) rfl T.l0 rfl) aX (λ_ _=>rfl)) aD))))));exact cL;walk_at"m";walk_at"x";walk_at"tS";walk_at"s";ac_rfl;refine fW (K:=K) (a:=c) (xs:=prs.map V.ref) (λi ys Z H1=>(∃ v,Z = [v])/\ao H H1/\ys=(aau i (none:Option Int)).map bN) ⟨⟨_,rfl⟩,ao.refl _,rfl⟩ (λi ys Z H1 hi ⟨_,s1,e⟩=>⟨ar.of (s1 _ _ hc),by rw[e,aac,aaB,aaJ];rw[aac] at hi;lia⟩) ?_ ?_
   . rintro i v ys Z H1 hv ⟨⟨u,rfl⟩,s1,rfl⟩;ac_rfl;exact⟨⟨_,rfl⟩,s1,by rw[List.replicate_succ',aaE];rfl⟩
   rintro ys Z H1 ⟨_,s1,rfl⟩ lh VE;rw[aac,S6];obtain⟨qs',Tg,_⟩:=T.mz;ac_rfl;rename_i lw VB;refine vy (Tg _) (v:=.int 0) rfl ?_;ac_rfl;have nhw:lh≠lw:=λz=>by rw[<- z,aa] at VB;cases VB
   have nlhH:H lh=none:=aG s1 VE;have Wc:H lw=none:=aG s1 (h_ VB).1;have Uu:(aau rs.length (none:Option Int))[0]? = some none:=by rw[abI,if_pos h0]
   refine⟨lh,lw,0,0,aau rs.length none,[],rfl,ai aa VB,aa,by rw[aaB];exact Ti,by decide,by decide,by decide,nhw,λhb=>?RN,λ_ e0=>?RM,λ_ _=>?SY⟩
   case RN =>
     exfalso
     rcases hb with hb | hb | ⟨h2,e2,_⟩
     . lia
     . rw[aaB] at hb;lia
     . rw[show((0:Int).toNat)=0 from rfl,Uu] at e2;cases e2
   case RM=>rw[show((0:Int).toNat)=0 from rfl,Uu] at e0;cases e0
   have I0:HI rs ls ((aau rs.length (none:Option Int)).set 0 (some 0)) ([]++[0]) none:=by
     refine HI.new (n:=0) ⟨aaB,λi h hi=>?_,(λk hk=>by cases hk),λi _ _ h r hi=>?_,by rw[Mq,aaB];exact acw (ado _)⟩ Uu RH.start
     . rw[abI] at hi;split at hi <;> cases hi
     . rw[abI] at hi;split at hi <;> cases hi
   have hst0:((aau rs.length (none:Option Int)).set 0 (some 0))[0]? = some (some 0):=aaO (by rw[aaB];exact h0);rw[show((0:Int).toNat)=0 from rfl];generalize (aau rs.length (none:Option Int)).set 0 (some 0)=hs0 at I0 hst0 ⊢;have sB:ao H (upd (upd (upd (upd H1 lh (.lst ((aau rs.length (none:Option Int)).map bN))) lw (.lst [])) lh (.lst (hs0.map bN))) lw (.lst (([]++[0]:List Nat).map nV))):=λb o e=>by
     rw[ak (ag e Wc),ak (ag e nlhH),ak (ag e Wc),ak (ag e nlhH)];exact s1 _ _ e
   have hlhB:(upd (upd (upd (upd H1 lh (.lst ((aau rs.length (none:Option Int)).map bN))) lw (.lst [])) lh (.lst (hs0.map bN))) lw (.lst (([]++[0]:List Nat).map nV))) lh=some (.lst (hs0.map bN)):=by rw[ak nhw];exact aa
   have hlwB:(upd (upd (upd (upd H1 lh (.lst ((aau rs.length (none:Option Int)).map bN))) lw (.lst [])) lh (.lst (hs0.map bN))) lw (.lst (([]++[0]:List Nat).map nV))) lw=some (.lst (([]++[0]:List Nat).map nV)):=aa;generalize (upd (upd (upd (upd H1 lh (.lst ((aau rs.length (none:Option Int)).map bN))) lw (.lst [])) lh (.lst (hs0.map bN))) lw (.lst (([]++[0]:List Nat).map nV)))=HB at sB hlhB hlwB ⊢;clear s1 VE VB Uu;ac_rfl;refine⟨λj Z HQ=>∃ (Uq:List (Option Int)) (ws2:List Nat) (u v x:Option V),ao H HQ/\Z = [some (.ref c),some (.ref ly),some (.ref lh),some (.ref lw),u,v,x]/\HQ lh=some (.lst (Uq.map bN))/\HQ lw=some (.lst (ws2.map nV))/\HI rs ls Uq ws2 none/\Uq[0]? = some (some 0)/\j=ws2.length+2*nN Uq,⟨_,hs0,[]++[0],_,_,_,sB,rfl,hlhB,hlwB,I0,hst0,rfl⟩,?_⟩;clear sB hlhB hlwB I0 hst0;rintro j Z HQ ⟨Uq,ws2,u1,u2,u3,s2,rfl,hlh2,hlw2,I2,hz2,rfl⟩;have hf2:=I2.J_;have UG:=I2.len;ac_rfl;refine dQ (ar.of hlw2) ?_;rw[aac];rcases List.eq_nil_or_concat ws2 with rfl | ⟨ws3,k,rfl⟩
   . ac_rfl;refine q lh Uq HQ s2 nlhH hlh2 ⟨UG,I2.rh,hz2,λi h r e1 e2=>(I2.cl i (by simp) (by simp) h r e1 e2).1,λi h t e1 e2=>(I2.cl i (by simp) (by simp) h (.call t) e1 e2).2 t rfl⟩
   . rw [List.concat_eq_append] at hlw2 I2 hf2 ⊢;have hwl:(ws3++[k]).length=ws3.length+1:=by rw [aab];rfl
     rw[hwl] at hf2 ⊢;ac_rfl;refine⟨_,λZ' H' h=>h,?_⟩;ac_rfl;refine KJ (xs:=ws3.map nV) (y:=.int (k:Int)) (by rw[hlw2,aaE];rfl) ?_;obtain⟨h,hk⟩:=I2.JF k (aay _ (List.mem_singleton.mpr rfl));have hkl:k<rs.length:=by rw[<- UG];exact(List.getElem?_eq_some_iff.mp hk).1
     have Vb:rs[k]? = some rs[k]:=aaa hkl;have hpk:prs[k]? = some prs[k]:=aaa (by rw[S6];exact hkl);have Tb:=Tn.2 k _ _ hpk Vb;have Uv:=az _ (aaY hkl);generalize rs[k]=r at Vb Tb Uv;generalize prs[k]=p0 at hpk Tb;have hrhk:=I2.rh k h hk;have I3:HI rs ls Uq ws3 (some k):=⟨UG,I2.rh,λm hm=>I2.JF m (aa6 _ hm),λi hi hx=>I2.cl i (λhm=>by
         rcases List.mem_append.mp hm with hm | hm
         . exact hi hm
         . exact hx (by rw[List.mem_singleton.mp hm])) (by simp),by lia⟩
     have s3:ao H (upd HQ lw (.lst (ws3.map nV))):=λb o e=>by rw[ak (ag e Wc)];exact s2 _ _ e
     have hlh3:(upd HQ lw (.lst (ws3.map nV))) lh=some (.lst (Uq.map bN)):=by rw[ak nhw];exact hlh2
     have hlw3:(upd HQ lw (.lst (ws3.map nV))) lw=some (.lst (ws3.map nV)):=aa;generalize (upd HQ lw (.lst (ws3.map nV)))=HC at s3 hlh3 hlw3 ⊢;clear s2 hlh2 hlw2 I2;have TU:cT (prs.map V.ref) (k:Int)=some (.ref p0):=bG (by rw[aah,hpk];rfl);have hat2:cT (Uq.map bN) (k:Int)=some (.int h):=bG (by rw[aah,hk];rfl);have hc3:=s3 _ _ hc;have Wz:=Tb.same s3;obtain⟨dx,UW⟩:=id Wz;obtain⟨T5,hwl0,hwl2,hwl3⟩:=id hwy;have hwl1:=s3 _ _ hwl0;have hwk:T5[k]? = some T5[k]:=aaa (by rw[hwl2];exact hkl);have Um:=hwl3 k _ hwk;generalize T5[k]=pw at hwk Um;have hway:=s3 _ _ Um;have hat3:cT (T5.map V.ref) (k:Int)=some (.ref pw):=bG (by rw[aah,hwk];rfl);have hwb:=Eb (i:=k) az Tc Ti;ac_rfl;refine aY UW (kX _) ((iW T Uv.2).mono (by decide)) ?_;ac_rfl;refine⟨p0,h,rfl,Wz,?_⟩;cases hh:r.aE h with
     | none =>
       show bg 5 V.aC _ _ _;ac_rfl;refine jk ?_;ac_rfl
       try refine qh ?_
       ac_rfl;exact⟨nh (by lia) (by lia),by show 1<=1000;decide,qe ⟨k,h,hrhk,.inr (.inr (.inl ⟨r,by rw[aaD];exact Vb,hh⟩))⟩ _ s3⟩
     | some h' =>
       show bg 5 (V.int h') _ _ _;ac_rfl
       have Up : ∀ {UR : List (Option Int)} {Vn : List Nat} {HD : Hp} {n x : Int} {R : Hp -> Prop}, HI rs ls UR Vn (some k) -> ao H HD -> HD lh = some (.lst (UR.map bN)) -> HD lw = some (.lst (Vn.map nV)) -> RH rs ls n x -> -10000 <= n -> n <= 10000 ->
           (∀ hs5 ws5 HE,HI rs ls hs5 ws5 (some k)->ao H HE->HE lh=some (.lst (hs5.map bN))->HE lw=some (.lst (ws5.map nV))->(∀ (i:Nat) (y:Int),UR[i]? = some (some y)->hs5[i]? = some (some y))->0<=n->hs5[n.toNat]? = some (some x)->ws5.length+2*nN hs5<=Vn.length+2*nN UR->R HE) ->
           CP a [.ref lh,.ref lw,.int n,.int x] HD (λ_ HE=>R HE) E:=by
         intro UR Vn HD n x R I4 s4 T2 Vl rh b1 b2 qq;refine⟨lh,lw,n,x,UR,Vn,rfl,T2,Vl,by rw[I4.len];exact Ti,by have:=I4.J_;have:=I4.len;lia,b1,b2,nhw,λhb=>qe (I4.reach rh hb) _ s4,λp0' e0=>qq UR Vn HD I4 s4 T2 Vl (λ_ _ e=>e) p0' e0 (aag _),λp0' e0=>?_⟩;have hn:=(List.getElem?_eq_some_iff.mp e0).1;have hI5:=I4.new e0 (show RH rs ls ((n.toNat:Nat):Int) x by rw[show((n.toNat:Nat):Int)=n by lia];exact rh);have hcnt:=AW (x:=x) e0;refine qq (UR.set n.toNat (some x)) (Vn++[n.toNat]) _ hI5 (λb o e=>by rw[ak (ag e Wc),ak (ag e nlhH)];exact s4 _ _ e) (by rw[ak nhw];exact aa) aa (λi y e=>gh e0 e) p0' (aaO hn) ?_;rw[aab];show _+1+_<=_;lia
       refine fi (K:=K) (a:=pw) (xs:=(dB rs ls k).map V.int) (λi Z HD=>∃ (UR:List (Option Int)) (Vn:List Nat) (x:Option V),ao H HD/\Z = [some (.ref c),some (.ref ly),some (.ref lh),some (.ref lw),some (.int (k:Int)),some (.int h'),x]/\HD lh=some (.lst (UR.map bN))/\HD lw=some (.lst (Vn.map nV))/\HI rs ls UR Vn (some k)/\UR[0]? = some (some 0)/\UR[k]? = some (some h)/\(∀ w∈(dB rs ls k).take i,0<=w/\UR[w.toNat]? = some (some h'))/\Vn.length+2*nN UR<=ws3.length+2*nN Uq) ⟨Uq,ws3,_,s3,rfl,hlh3,hlw3,I3,hz2,hk,(λw hw=>by rw[List.take_zero] at hw;cases hw),aag _⟩ (λi Z HD _ ⟨_,_,_,s4,_⟩=>ar.of (s4 _ _ Um)) ?_ ?_
       . rintro i v Z HD hv ⟨UR,Vn,x,s4,rfl,T2,Vl,I4,hz4,hk4,hcl4,hm4⟩;obtain⟨w,hx,rfl⟩:∃ w,(dB rs ls k)[i]? = some w/\v=.int w:=by
           rw[aah] at hv;obtain⟨p,hp,e⟩:=Option.map_eq_some_iff.mp hv;exact⟨p,hp,e.symm⟩
         have hwm:=aak hx;ac_rfl;refine Up I4 s4 T2 Vl (RH.way hrhk Vb hh hwm) (hwb w hwm).1 (hwb w hwm).2 λhs5 ws5 HE I5 s5 hlh5 hlw5 mono p0' e5 hm5=>?_;refine⟨hs5,ws5,_,s5,rfl,hlh5,hlw5,I5,mono 0 0 hz4,mono k h hk4,λw' hw'=>?_,by lia⟩;rw[abF,hx,abx] at hw';rcases List.mem_append.mp hw' with hw' | hw'
         . exact⟨(hcl4 w' hw').1,mono _ _ (hcl4 w' hw').2⟩
         . rw[List.mem_singleton.mp hw'];exact⟨p0',e5⟩
       . rintro Z HD ⟨UR,Vn,x,s4,rfl,T2,Vl,I4,hz4,hk4,hcl4,hm4⟩;rw[aac,aa1] at hcl4;have hcD:=s4 _ _ hc;have hrowD:=Tb.same s4;clear hlh3 hlw3 hc3 Wz UW hway hwl1 s3 I3;obtain⟨t',ty1,ty2,_⟩:=lQ T Uv.2 hrowD;ac_rfl;refine eX (λz=>nomatch z) ty1 ty2 ?_;cases hcall:r.isCall with
         | false =>
           ac_rfl;refine⟨_,?_,UR,Vn,_,_,_,s4,rfl,T2,Vl,I4.close λh1 r1 e1 e2=>?_,hz4,rfl⟩
           . lia
           . rw[hk4] at e1;cases e1;rw[Vb] at e2;cases e2;exact⟨⟨h',hh,hcl4⟩,λt ht=>by rw[ht] at hcall;cases hcall⟩
         | true =>
           obtain⟨t,rfl⟩:∃ t,r=.call t:=by
             cases r <;> first | exact⟨_,rfl⟩ | (cases hcall)
           obtain⟨dxD,Ws⟩:=hrowD;have Ws:HD p0=some (.ins a.aZ dxD (au "target" (.int t) [])):=Ws;have htb : 0<=t/\t<=2000:=Uv.1;ac_rfl;refine vy (Tg _) (v:=.int 0) rfl ?_;ac_rfl;refine Up I4 s4 T2 Vl (RH.call hrhk Vb) (by lia) (by lia) λhs5 ws5 HE I5 s5 hlh5 hlw5 mono p0' e5 hm5=>?_;refine⟨_,?_,hs5,ws5,_,_,_,s5,rfl,hlh5,hlw5,I5.close λh1 r1 e1 e2=>?_,mono 0 0 hz4,rfl⟩
           . lia
           . rw[mono k h hk4] at e1;cases e1;rw[Vb] at e2;cases e2;exact⟨⟨h',hh,λw hw=>⟨(hcl4 w hw).1,mono _ _ (hcl4 w hw).2⟩⟩,λt2 US=>by cases US;exact⟨p0',e5⟩⟩
theorem eG (T:TX):ME 2 a.ax "go_on" (OB a):=by
 refine aB 1 T.cq T.vw jY ?_ ?_;ac_nf
 . obtain⟨m, dx, pc, pt, ph, pl, pk, pb, pp, fs, aU, c, n, d, st, rfl, hm, F, q⟩ := h;have f5:=F.aU;have fl:=F.len;have fn:=F.no "word_ahead_of" (by nofun);walk_at"h";have nd:=jY.nd;walk_at"v";symm;refine aY aa (g9 (by nofun) (g9 (by nofun) (g9 (by nofun) fn))) ((cZ T).mono (by decide)) ?_;symm;refine⟨m,dx,_,aU,n,rfl,aa,aJ (by nofun) (aJ (by nofun) (aJ (by nofun) f5)),?_⟩;symm;rw[iK,iK,iK];exact q _ ((((F.E_ n).L5 pb).IK pp).setState _)
theorem Lx {D PP:Addr->Int->Hp->Prop}{G:Prop}(key:∀ l n H3,D l n H3->PP l n H3)(use:(∀ l n H3,D l n H3->PP l n H3)->G):G:=use key
theorem uK (T:TX):FE 2 "_law_function" (Qg K):=by
 refine bc 1 T.uJ cS ?_ ?_;ac_nf
 . obtain ⟨lc, cs, c, at_, rfl, hlc, T_, fM, rC, q⟩ := h;walk_at "h";have nd:=cS.nd;refine' aW ?_ ?_;exact (c8 (i:=3) cS.nd rfl (Or.inr rfl) (fz (own:=["_law_box","_law_bit"]) (fr:=[("_law_cell",0)]) rfl ⟨rfl,(by walk_at "clok"),(by walk_at "frok"),rfl,(by nofun),(by nofun),rfl⟩ (K2 (K:=K) rfl rfl T.yV (aj (lI (aj aX (aj aX (aj aX (aj aX aD))))) (aj (lI (aj aX (aj aX (aj aX (aj aX aD))))) aD))) (λ_ _ _ _=>(wO (K:=K) (n:=2) rfl rfl (jG (bS (i:=0) (show aa7 [("_law_box" : Str),("_law_bit" : Str),("_law_cell" : Str)] from by nofun) rfl (Or.inl rfl)) (jG (bS (i:=1) (show aa7 [("_law_box" : Str),("_law_bit" : Str),("_law_cell" : Str)] from by nofun) rfl (Or.inl rfl)) vU)))) (λ_ _ _ _=>(wM (dO (lW (K:=K) rfl hr.units) (cQ uY (pv 2) (pv 1)) aX (dZ _)))) (λ_ _ _ _=>(pv 0))));walk_at "c";walk_at "c";walk_at "n";exact (c8 (i:=6) cS.nd rfl (Or.inr rfl) (fz (own:=["_law_k"]) (fr:=[("_law_height",4),("_law_turn",5)]) rfl ⟨rfl,(by walk_at "clok"),(by walk_at "frok"),rfl,(by nofun),(by nofun),rfl⟩ (e_ rfl T.f9 (aj aX aD)) (λ_ _ _ _=>(bS (i:=0) (show aa7 [("_law_k" : Str),("_law_height" : Str),("_law_turn" : Str)] from by nofun) rfl (Or.inl rfl))) (λ_ _ _ _=>c9) (λ_ _ _ _=>(cQ vd (cQ (dW (K:=K) rfl) (pv 0) (pv 2)) (cJ (xW rfl) rfl T.JM JI (aj aX (aj (pv 1) aD)))))));walk_at "c";walk_at "c";walk_at "c";walk_at "c";walk_at "c";walk_at "n"
   (refine' c8 (i:=8) ?Sy ?Sd ?Sz ?Sw ?SN ?Sk;(case Sy=>exact cS.nd);(case Sd=>rfl);(case Sz=>exact(Or.inl rfl));(case SN=>rfl);(case Sk=>exact .inl rfl);(case Sw=>(refine' cQ (dW (K:=K) rfl) ?SR ?R9;(case SR=>exact(pv 8));(case R9=>exact(fz (own:=["_law_k"]) (fr:=[("_law_saved",3),("_law_places",6)]) rfl ⟨rfl,(by walk_at"clok"),(by walk_at"frok"),rfl,(by nofun),(by nofun),rfl⟩ (e_ rfl T.f9 (aj (pv 9) aD)) (λ_ _ _ _=>(bS (i:=0) (show aa7 [("_law_k" : Str),("_law_saved" : Str),("_law_places" : Str)] from by nofun) rfl (Or.inl rfl))) (λ_ _ _ _=>c9) (λ_ _ _ _=>(pO (aj gP (aj (cB (dj (K:=K) rfl) (pv 1) (pv 0) (λ_ _=>rfl)) (aj (cB (dj (K:=K) rfl) (pv 2) (pv 0) (λ_ _=>rfl)) aD))))))))))
   walk_at"c";walk_at"n"
   (refine' c8 (i:=8) ?SA ?RT ?Rb ?RQ ?Q8 ?RX;(case SA=>exact cS.nd);(case RT=>rfl);(case Rb=>exact(Or.inl rfl));(case Q8=>rfl);(case RX=>exact .inl rfl);(case RQ=>(refine' cQ (dW (K:=K) rfl) ?Rm ?RF;(case Rm=>exact(pv 8));(case RF=>exact(fz (own:=["_law_k"]) (fr:=[("_law_saved",3),("_law_places",6)]) rfl ⟨rfl,(by walk_at"clok"),(by walk_at"frok"),rfl,(by nofun),(by nofun),rfl⟩ (xS rfl T.f9 (aj (pv 9) (aj (cJ (ez (K:=K) rfl) rfl T.jc jf (aj (pv 3) aD)) aD))) (λ_ _ _ _=>(bS (i:=0) (show aa7 [("_law_k" : Str),("_law_saved" : Str),("_law_places" : Str)] from by nofun) rfl (Or.inl rfl))) (λ_ _ _ _=>c9) (λ_ _ _ _=>(pO (aj gP (aj (cB (dj (K:=K) rfl) (pv 1) (pv 0) (λ_ _=>rfl)) (aj (cB (dj (K:=K) rfl) (pv 2) (pv 0) (λ_ _=>rfl)) aD))))))))))
   walk_at"c";walk_at"c";walk_at"n"
   (refine' c8 (i:=8) ?RD ?Rf ?Rt ?Rx ?Q9 ?RU;(case RD=>exact cS.nd);(case Rf=>rfl);(case Rt=>exact(Or.inl rfl));(case Q9=>rfl);(case RU=>exact .inl rfl);(case Rx=>(refine' cQ (dW (K:=K) rfl) ?Rg ?Rp;(case Rg=>exact(pv 8));(case Rp=>exact(fz (own:=["_law_k"]) (fr:=[("_law_saved",3),("_law_places",6)]) rfl ⟨rfl,(by walk_at"clok"),(by walk_at"frok"),rfl,(by nofun),(by nofun),rfl⟩ (e_ rfl T.f9 (aj (cJ (ez (K:=K) rfl) rfl T.jc jf (aj (pv 3) aD)) aD)) (λ_ _ _ _=>(bS (i:=0) (show aa7 [("_law_k" : Str),("_law_saved" : Str),("_law_places" : Str)] from by nofun) rfl (Or.inl rfl))) (λ_ _ _ _=>c9) (λ_ _ _ _=>(pO (aj gP (aj (cB (dj (K:=K) rfl) (pv 1) (pv 0) (λ_ _=>rfl)) (aj (cB (dj (K:=K) rfl) (pv 2) (pv 0) (λ_ _=>rfl)) aD))))))))))
   walk_at"c";walk_at"c";walk_at"m";walk_at"tS";walk_at"s";symm;refine O8 ?_;symm;rename_i l1 n1 l2 n2;refine⟨_,_,_,_,rfl,ar.of (ai aa n2),ar.of aa,?_⟩;have sB:=(ae n1 (o:=.lst (([7,4,5,6]:List Int).map V.int))).trans (ae n2 (o:=.lst (([1,2,4,8]:List Int).map V.int)));refine GG (K:=K) (xs:=([7,4,5,6]:List Int).map V.int) (ys:=([1,2,4,8]:List Int).map V.int) rfl (λi zs Z H1=>(∃ u v,Z = [u,v,some (.int c)])/\ao (upd (upd H l1 (.lst (([7,4,5,6]:List Int).map V.int))) l2 (.lst (([1,2,4,8]:List Int).map V.int))) H1/\∃ ss:List Int,zs=ss.map V.int/\ss.length<=i/\∀ s∈ss,0<=s/\s<=7) ⟨⟨_,_,rfl⟩,ao.refl _,[],rfl,aag _,λ_ z=>by cases z⟩ (λi zs Z H1 hi ⟨_,s1,ss,e,e2,_⟩=>⟨⟨ar.of (s1 _ _ (ai aa n2)),ar.of (s1 _ _ aa)⟩,by rw[e,aac,aaJ];have z:i<=4:=hi;lia⟩) ?_ ?_
   . rintro i x y tt zs Z H1 hx hy ⟨⟨u,v,rfl⟩,s1,ss,rfl,V9,VT⟩ hT;obtain⟨xi,VG,rfl⟩:∃ c:Int,([7,4,5,6]:List Int)[i]? = some c/\x=.int c:=by
       rw[aah] at hx;obtain⟨c,h1,e⟩:=Option.map_eq_some_iff.mp hx;exact⟨c,h1,e.symm⟩
     obtain⟨yi,hy1,rfl⟩:∃ c:Int,([1,2,4,8]:List Int)[i]? = some c/\y=.int c:=by
       rw[aah] at hy;obtain⟨c,h1,e⟩:=Option.map_eq_some_iff.mp hy;exact⟨c,h1,e.symm⟩
     have hxb : 0<=xi/\xi<=7:=by
       have z:=aak VG;simp only[aaQ,aaS,or_false] at z
       lia
     clear hx hy;have s2:=s1.trans (ae hT (o:=.tup [.int xi,.int yi]));clear s1;symm;refine gL (λhh=>?_) (λhh=>?_)
     . symm
       exact⟨⟨_, _, rfl⟩, s2, ss ++ [xi], by rw[aaE]; rfl, by simp only[aab, aaF]; lia, λy hy => by
         rcases List.mem_append.mp hy with h | h
         . exact VT y h
         . rw[List.mem_singleton.mp h];exact hxb⟩
     . exact⟨⟨_,_,rfl⟩,s2,ss,rfl,Nat.le_succ_of_le V9,VT⟩
   rintro ys Z H1 ⟨_,s1,ss,rfl,V9,VT⟩;have V9:ss.length<=4:=V9;have s0:=sB.trans s1;have hlc1:=aP s0 hlc;clear sB s1 hlc n1 n2;intro ls VC;symm;obtain⟨hg,ehg⟩:∃ hg:Int,(ss.length:Int)+c/16%2=hg:=⟨_,rfl⟩
   have hg0:(ss.length:Int)<=hg/\hg<=ss.length+1:=by lia
   rw[ehg];have s1:=s0.trans (ae VC (o:=.lst (ss.map V.int)));have UK:=aP (ae VC (o:=.lst (ss.map V.int))) hlc1;have hls2:(upd H1 ls (.lst (ss.map V.int))) ls=some (.lst (ss.map V.int)):=aa;have nls0:=aG s0 VC;generalize upd H1 ls (HO.lst (ss.map V.int))=H2 at s1 UK hls2 ⊢;clear s0 hlc1 VC;refine eK (λi ys Z H3=>(∃ v,Z = [v,some (.int hg),some (.int (c/32%5))])/\H3=H2/\∃ ps:List Int,ys=ps.map V.int/\ps.length=i/\∀ p∈ps,0<=p/\p<=4) ⟨⟨_,rfl⟩,rfl,[],rfl,rfl,λ_ z=>by cases z⟩ (λi ys Z H3 hi ⟨_,_,ps,e,e2,_⟩=>by rw[e,aac,e2,aaJ];have z:i<=5:=hi;lia) ?_ ?_
   . rintro i ys Z H3 hi ⟨⟨v,rfl⟩,rfl,ps,rfl,S6,hpb⟩;have hmx : 0<(if hg > 1 then hg else 1)/\(if hg > 1 then hg else 1)<=5:=by split <;> lia
     symm;have e0:=abj (0+(i:Int)+c/32%5) (show(if hg > 1 then hg else 1)≠0 by lia);have e1:=abb (0+(i:Int)+c/32%5) hmx.1
     exact⟨⟨_, rfl⟩, rfl, ps ++ [(0 + (i : Int) + c / 32 % 5) % (if hg > 1 then hg else 1)], by rw[aaE]; rfl, by rw[aab, S6]; rfl, λp hp => by
       rcases List.mem_append.mp hp with h | h
       . exact hpb p h
       . rw[List.mem_singleton.mp h];lia⟩
   rintro ys Z H3 ⟨_,rfl,ps,rfl,S6,hpb⟩;have S6:ps.length=5:=S6;intro lp VD;have s2:=s1.trans (ae VD (o:=.lst (ps.map V.int)));have VQ:=aP (ae VD (o:=.lst (ps.map V.int))) UK;have hls3:(upd H3 lp (.lst (ps.map V.int))) ls=some (.lst (ss.map V.int)):=ai hls2 VD;have hlp3:(upd H3 lp (.lst (ps.map V.int))) lp=some (.lst (ps.map V.int)):=aa;have nlp0:=aG s1 VD;generalize upd H3 lp (HO.lst (ps.map V.int))=H4 at s2 VQ hls3 hlp3 ⊢;clear s1 UK hls2 VD;obtain⟨pz,hpz,hatz⟩:=eB (ns:=ps) (i:=(ss.length:Int)) (by lia) (by lia);have hpz2:=hpb pz hpz;refine' Lx (D:=λlr W9 HX=>ao H4 HX/\H4 lr=none/\(∃ us,HX lr=some (.lst us)/\us.length<=1/\aO fJ HX us)/\-1<=W9/\W9<=5) (PP:=?PP) ?key (λkk=>?use);(case use =>
     have grown:∀ (lr t:Addr) (Us:H4 lr=none) (nt:(upd H4 lr (.lst [])) t=none),0<hg->∃ us,(upd (upd (upd H4 lr (.lst [])) t (.tup [.str "grow",.int hg])) lr (.lst ([]++[.ref t]))) lr=some (.lst us)/\us.length<=1/\aO fJ (upd (upd (upd H4 lr (.lst [])) t (.tup [.str "grow",.int hg])) lr (.lst ([]++[.ref t]))) us:=λlr t Us nt h0=>⟨_,aa,aag _,(aO.one (r:=.grow hg) ⟨_,rfl,aa⟩ (.inl (by walk_at"A"))).off (ai aa nt)⟩;symm;refine cW (λhh=>?_) (λhh=>?_)
     . have h0 : 0 < hg := by lia
       symm;repeat (rename @Eq Bool _ _=>Vt;clear Vt)
       rename_i lr Us _ t nt;have sx:ao H4 (upd (upd (upd H4 lr (.lst [])) t (.tup [.str "grow",.int hg])) lr (.lst ([]++[.ref t]))):=bC ((ae Us).trans (ae nt)) Us;have gx:=grown lr t Us nt h0;generalize upd (upd (upd H4 lr (HO.lst [])) t (HO.tup [V.str (aae "grow"),V.int hg])) lr (HO.lst ([]++[V.ref t]))=HX at sx gx ⊢;obtain⟨W9,hspv⟩:∃ s:Int,pz=s:=⟨_,rfl⟩
       rw[hspv];exact kk lr W9 HX ⟨sx,Us,gx,by lia,by lia⟩
     . obtain⟨W9, hspv⟩ : ∃ s : Int, s = -1 := ⟨_, rfl⟩
       symm;rw[<- hspv];refine cW (λh0=>?_) (λh0=>?_)
       . symm;repeat (rename @Eq Bool _ _=>Vt;clear Vt)
         rename_i lr Us t nt;have sx:ao H4 (upd (upd (upd H4 lr (.lst [])) t (.tup [.str "grow",.int hg])) lr (.lst ([]++[.ref t]))):=bC ((ae Us).trans (ae nt)) Us;have gx:=grown lr t Us nt h0;generalize upd (upd (upd H4 lr (HO.lst [])) t (HO.tup [V.str (aae "grow"),V.int hg])) lr (HO.lst ([]++[V.ref t]))=HX at sx gx ⊢;exact kk lr W9 HX ⟨sx,Us,gx,by lia,by lia⟩
       . symm;repeat (rename @Eq Bool _ _=>Vt;clear Vt)
         rename_i lr Us;have sx:ao H4 (upd H4 lr (.lst [])):=ae Us;have hx:(upd H4 lr (.lst [])) lr=some (.lst []):=aa;generalize upd H4 lr (HO.lst [])=HX at sx hx ⊢;exact kk lr W9 HX ⟨sx,Us,⟨_,hx,by decide,aO.nil⟩,by lia,by lia⟩)
   (case key =>
     intro lr W9 H5 ⟨s5,Us,⟨us,VL,Vu,Tr⟩,sp0,sp1⟩;have hcut : 0<=(ss.length:Int)*(c/160%3)/2/\(ss.length:Int)*(c/160%3)/2<=ss.length:=by
       rcases(show c/160%3=0∨c/160%3=1∨c/160%3=2 by lia) with z | z | z <;> rw[z] <;> lia
     generalize (ss.length:Int)*(c/160%3)/2=cut at hcut ⊢;have s50:=s2.trans s5;have hls5:=s5 _ _ hls3;have hlp5:=s5 _ _ hlp3;have Wn:=aP s5 VQ;clear s2 s5 hls3 hlp3 VQ hatz hpz hpz2 Us;refine⟨by lia,by lia,?_⟩;refine eK (λi ys Z H6=>(∃ v,Z = [v,some (.ref ls),some (.ref lp)])/\ao H5 H6/\ys.length=i/\aO fJ H6 ys) ⟨⟨_,rfl⟩,ao.refl _,rfl,aO.nil⟩ (λi ys Z H6 hi ⟨_,_,e,_⟩=>by rw[e,aaJ];lia) ?_ ?_
     . rintro i ys Z H6 hi ⟨⟨v,rfl⟩,s6,VF,U0⟩;have Wk:=s6 _ _ hls5;have Wl:=s6 _ _ hlp5;obtain⟨sv,hsv,hats⟩:=eB (ns:=ss) (i:=0+(i:Int)) (by lia) (by lia);obtain⟨pv,hpv,hatp⟩:=eB (ns:=ps) (i:=0+(i:Int)) (by lia) (by lia);have hsv2:=VT sv hsv;have hpv2:=hpb pv hpv;clear s50 hls5 hlp5;symm;rename_i t nt;exact⟨⟨_,rfl⟩,s6.trans (ae nt),by rw[aab,VF];rfl,(U0.same (ae nt)).app (aO.one (r:=.put sv pv) ⟨t,rfl,aa⟩ (.inl (by walk_at"A")))⟩
     rintro zs Z H6 ⟨_,s6,hzl,tdz⟩;intro lq W_;have hzl:zs.length=cut.toNat:=hzl;have Wk:=s6 _ _ hls5;have Wl:=s6 _ _ hlp5;have hlc6:=aP s6 Wn;have hlr6:=s6 _ _ VL;have s60:=s50.trans s6;have U0:=(Tr.same s6).app tdz;have hul6:(us++zs).length<=1+cut.toNat:=by rw[aab];lia
     clear s50 s6 hls5 hlp5 Wn VL Tr tdz;symm;rename_i lr2 n2 la na lb nb;have sX:=((ae W_ (o:=.lst zs)).trans (ae n2 (o:=.lst (us++zs)))).trans ((ae na (o:=.lst ((cR cs none (some 1)).map V.int))).trans (ae nb (o:=.lst ((cR ss none (some cut)).map V.int))));have W3:(cR cs none (some 1)).length<=1:=by rw[fU _ (by decide),aaz];exact Nat.min_le_left _ _
     have hc2:(cR ss none (some cut)).length<=ss.length:=zX _ _ _;refine⟨la,lb,cR cs none (some 1),cR ss none (some cut),-1,_,rfl,ar.of (ai aa nb),by lia,ar.of aa,by lia,λs hs=>VT s (by rw[fU _ (by lia)] at hs;exact abY hs),by decide,by decide,by lia,by lia,λlb1 W7 H7 s7 hlb hub tdb=>?_⟩;have hlr7:H7 lr2=some (.lst (us++zs)):=s7 _ _ (ai (ai aa na) nb);have s8:=sX.trans s7;have hls7:=s8 _ _ Wk;have hlp7:=s8 _ _ Wl;have hlc7:=aP s8 hlc6;have s70:=s60.trans s8;have tds7:=(U0.same s8).app tdb;generalize us++zs=ur at hul6 hlr7 tds7 ⊢;clear s60 s7 s8 sX Wk Wl hlc6 hlr6 U0 tdb n2 na nb W_;have hul7:(ur++W7).length<=1+2*(cR cs none (some 1)).length+cut.toNat:=by rw[aab];lia
     symm;rename_i lr3 n3;have hlr8:(upd H7 lr3 (.lst (ur++W7))) lr3=some (.lst (ur++W7)):=aa;have sX:ao H7 (upd H7 lr3 (.lst (ur++W7))):=ae n3;generalize upd H7 lr3 (HO.lst (ur++W7))=H8 at hlr8 sX ⊢;have hls8:=sX _ _ hls7;have hlp8:=sX _ _ hlp7;have hlc8:=aP sX hlc7;have s80:=s70.trans sX;have tds8:=tds7.same sX;generalize ur++W7=ur2 at hul7 hlr8 tds8 ⊢;clear sX n3 s70 hls7 hlp7 hlc7 hlr7 tds7;refine⟨cut,ss.length,rfl,⟨by lia,by lia,by lia,by lia⟩,?_⟩;refine eK (λi ys Z H6=>(∃ v,Z = [v,some (.ref ls),some (.ref lp)])/\ao H8 H6/\ys.length=i/\aO fJ H6 ys) ⟨⟨_,rfl⟩,ao.refl _,rfl,aO.nil⟩ (λi ys Z H6 hi ⟨_,_,e,_⟩=>by rw[e,aaJ];lia) ?_ ?_
     . rintro i ys Z H6 hi ⟨⟨v,rfl⟩,s6,VF,U0⟩;have Wk:=s6 _ _ hls8;have Wl:=s6 _ _ hlp8;obtain⟨sv,hsv,hats⟩:=eB (ns:=ss) (i:=cut+(i:Int)) (by lia) (by lia);obtain⟨pv,hpv,hatp⟩:=eB (ns:=ps) (i:=cut+(i:Int)) (by lia) (by lia);have hsv2:=VT sv hsv;have hpv2:=hpb pv hpv;clear s80 hls8 hlp8;symm;rename_i t nt;exact⟨⟨_,rfl⟩,s6.trans (ae nt),by rw[aab,VF];rfl,(U0.same (ae nt)).app (aO.one (r:=.put sv pv) ⟨t,rfl,aa⟩ (.inl (by walk_at"A")))⟩
     rintro zs Z H6 ⟨_,s6,hzl,tdz⟩;intro lq W_;have hzl:zs.length=((ss.length:Int) - cut).toNat:=hzl;have hls9:=s6 _ _ hls8;have hlp9:=s6 _ _ hlp8;have hlc9:=aP s6 hlc8;have hlr9:=s6 _ _ hlr8;have s90:=s80.trans s6;have tds9:=(tds8.same s6).app tdz;have hul9:(ur2++zs).length<=1+2*(cR cs none (some 1)).length+ss.length:=by rw[aab];lia
     clear s80 s6 hls8 hlp8 hlc8 hlr8 tds8 tdz;symm;rename_i lr4 n4 la na;have sX:=((ae W_ (o:=.lst zs)).trans (ae n4 (o:=.lst (ur2++zs)))).trans (ae na (o:=.lst ((cR cs (some 1) none).map V.int)));have W3:(cR cs (some 1) none).length<=cs.length:=zX _ _ _;have hct:=KQ cs;have hul9b:=hul9;refine⟨la,ls,cR cs (some 1) none,ss,W9,_,rfl,ar.of aa,by lia,ar.of (sX _ _ hls9),by lia,VT,by lia,by lia,by lia,by lia,λlb2 us2 HA sA hlb hub tdb=>?_⟩;have hlrA:HA lr4=some (.lst (ur2++zs)):=sA _ _ (ai aa na);have s8:=sX.trans sA;have hlsA:=s8 _ _ hls9;have hlpA:=s8 _ _ hlp9;have sA0:=s90.trans s8;have tdsA:=(tds9.same s8).app tdb;generalize ur2++zs=ur3 at hul9 hlrA tdsA ⊢;clear s90 sA s8 sX hls9 hlp9 hlc9 hlr9 tds9 tdb n4 na W_;have hulA:(ur3++us2).length<=1+2*cs.length+ss.length:=by rw[aab];lia
     have hatb : 0<=at_/\at_<=400:=⟨fM,rC⟩
     clear fM rC sp0 sp1;symm;rename_i lr5 n5;have hlrB:(upd HA lr5 (.lst (ur3++us2))) lr5=some (.lst (ur3++us2)):=aa;have sX:ao HA (upd HA lr5 (.lst (ur3++us2))):=ae n5;generalize upd HA lr5 (HO.lst (ur3++us2))=HB at hlrB sX ⊢;have hlsB:=sX _ _ hlsA;have hlpB:=sX _ _ hlpA;have sB0:=sA0.trans sX;have tdsB:=tdsA.same sX;generalize ur3++us2=ur4 at hulA hlrB tdsB ⊢;clear sX n5 sA0 hlsA hlpA hlrA tdsA;refine eK (λi ys Z H6=>(∃ v,Z = [v,some (.ref ls),some (.ref lp)])/\ao HB H6/\ys.length=i/\aO fJ H6 ys) ⟨⟨_,rfl⟩,ao.refl _,rfl,aO.nil⟩ (λi ys Z H6 hi ⟨_,_,e,_⟩=>by rw[e,aaJ];lia) ?_ ?_
     . rintro i ys Z H6 hi ⟨⟨v,rfl⟩,s6,VF,U0⟩;have Wk:=s6 _ _ hlsB;have Wl:=s6 _ _ hlpB;obtain⟨sv,hsv,hats⟩:=eB (ns:=ss) (i:=0+(i:Int)) (by lia) (by lia);obtain⟨pv,hpv,hatp⟩:=eB (ns:=ps) (i:=0+(i:Int)) (by lia) (by lia);have hsv2:=VT sv hsv;have hpv2:=hpb pv hpv;clear sB0 hlsB hlpB;symm;rename_i t nt;exact⟨⟨_,rfl⟩,s6.trans (ae nt),by rw[aab,VF];rfl,(U0.same (ae nt)).app (aO.one (r:=.get sv pv) ⟨t,rfl,aa⟩ (.inl (by walk_at"A")))⟩
     rintro zs Z H6 ⟨_,s6,hzl,tdz⟩;intro lq W_;have hzl:zs.length=((ss.length:Int)).toNat:=hzl;have hlrC:=s6 _ _ hlrB;have sC0:=sB0.trans s6;have tdsC:=(tdsB.same s6).app tdz;have hulC:(ur4++zs).length<=1+2*cs.length+2*ss.length:=by rw[aab];lia
     clear sB0 s6 hlsB hlpB hlrB tdsB tdz;symm;rename_i Uy n6;have sX:=(ae W_ (o:=.lst zs)).trans (ae n6 (o:=.lst (ur4++zs)));have VP:(upd (upd H6 lq (.lst zs)) Uy (.lst (ur4++zs))) Uy=some (.lst (ur4++zs)):=aa;have Wd:=aG (sC0.trans (ae W_ (o:=.lst zs))) n6;generalize upd (upd H6 lq (HO.lst zs)) Uy (HO.lst (ur4++zs))=HF at sX VP ⊢;have sF:=sC0.trans sX;have tdF:=tdsC.same sX;generalize ur4++zs=uf at hulC VP tdF ⊢;clear sX sC0 tdsC hlrC W_ n6;refine cW (λh0=>?_) (λh0=>?_)
     . symm;rename_i ts nts;have sY:ao H (upd (upd HF ts (.tup [.str "shrink",.int hg])) Uy (.lst (uf++[.ref ts]))):=bC (sF.trans (ae nts)) Wd;have hY:(upd (upd HF ts (.tup [.str "shrink",.int hg])) Uy (.lst (uf++[.ref ts]))) Uy=some (.lst (uf++[.ref ts])):=aa;have tdY:aO fJ (upd (upd HF ts (.tup [.str "shrink",.int hg])) Uy (.lst (uf++[.ref ts]))) (uf++[.ref ts]):=((tdF.same (ae nts)).app (aO.one (r:=.shrink hg) ⟨ts,rfl,aa⟩ (.inl ⟨⟨by simp only [Rw.ok,aH,isVal,aF,aN];lia,aan⟩,by simp only [bO];lia⟩))).off (ai VP nts);have VF:(uf++[V.ref ts]).length<=2*cs.length+10:=by rw [aab,aaF];lia
       generalize upd (upd HF ts (HO.tup [V.str (aae "shrink"),V.int hg])) Uy (HO.lst (uf++[V.ref ts]))=HY at sY hY tdY ⊢;generalize uf++[V.ref ts]=uy at hY tdY VF ⊢;clear sF VP tdF nts;refine eW (λhj=>?_) (λhj=>?_)
       . symm;rename_i tj U_ tt TF;have sZ:ao H (upd (upd HY tj (.tup [.str "jump",.int (-1 - c/1920%3)])) Uy (.lst (uy++[.ref tj]))):=bC (sY.trans (ae U_)) Wd;have tZ:aO fJ (upd (upd HY tj (.tup [.str "jump",.int (-1 - c/1920%3)])) Uy (.lst (uy++[.ref tj]))) (uy++[.ref tj]):=((tdY.same (ae U_)).app (aO.one (r:=.dr (-1 - c/1920%3)) ⟨tj,rfl,aa⟩ (.inr (.inr ⟨_,rfl⟩)))).off (ai hY U_);exact q tt Uy (uy++[.ref tj]) _ _ (sZ.trans (ae TF)) aa (ai aa TF) (by rw[aab];exact ads _ _) (by rw[aab,aaF];lia) (tZ.same (ae TF)) (by lia) (by lia)
       . symm;rename_i tj U_ tt TF;have sZ:ao H (upd (upd HY tj (.tup [.str "back",.int 7])) Uy (.lst (uy++[.ref tj]))):=bC (sY.trans (ae U_)) Wd;have tZ:aO fJ (upd (upd HY tj (.tup [.str "back",.int 7])) Uy (.lst (uy++[.ref tj]))) (uy++[.ref tj]):=((tdY.same (ae U_)).app (aO.one (r:=.back 7) ⟨tj,rfl,aa⟩ (.inl (by walk_at"A")))).off (ai hY U_);exact q tt Uy (uy++[.ref tj]) _ _ (sZ.trans (ae TF)) aa (ai aa TF) (by rw[aab];exact ads _ _) (by rw[aab,aaF];lia) (tZ.same (ae TF)) (by lia) (by lia)
     . symm;refine eW (λhj=>?_) (λhj=>?_)
       . symm;rename_i tj U_ tt TF;have sZ:ao H (upd (upd HF tj (.tup [.str "jump",.int (-1 - c/1920%3)])) Uy (.lst (uf++[.ref tj]))):=bC (sF.trans (ae U_)) Wd;have tZ:aO fJ (upd (upd HF tj (.tup [.str "jump",.int (-1 - c/1920%3)])) Uy (.lst (uf++[.ref tj]))) (uf++[.ref tj]):=((tdF.same (ae U_)).app (aO.one (r:=.dr (-1 - c/1920%3)) ⟨tj,rfl,aa⟩ (.inr (.inr ⟨_,rfl⟩)))).off (ai VP U_);exact q tt Uy (uf++[.ref tj]) _ _ (sZ.trans (ae TF)) aa (ai aa TF) (by rw[aab];exact ads _ _) (by rw[aab,aaF];lia) (tZ.same (ae TF)) (by lia) (by lia)
       . symm;rename_i tj U_ tt TF;have sZ:ao H (upd (upd HF tj (.tup [.str "back",.int 7])) Uy (.lst (uf++[.ref tj]))):=bC (sF.trans (ae U_)) Wd;have tZ:aO fJ (upd (upd HF tj (.tup [.str "back",.int 7])) Uy (.lst (uf++[.ref tj]))) (uf++[.ref tj]):=((tdF.same (ae U_)).app (aO.one (r:=.back 7) ⟨tj,rfl,aa⟩ (.inl (by walk_at"A")))).off (ai VP U_);exact q tt Uy (uf++[.ref tj]) _ _ (sZ.trans (ae TF)) aa (ai aa TF) (by rw[aab];exact ads _ _) (by rw[aab,aaF];lia) (tZ.same (ae TF)) (by lia) (by lia))
theorem uu (T:TX):FE 2 "_law_any_code" (Gx K 12):=by
 refine bc 1 T.uo gD ?_ ?_;ac_nf
 . obtain ⟨a0, ns, rfl, hS, U6, q⟩ := h;walk_at "h";have nd:=gD.nd;refine' aW ?_ ?_;walk_at "tS";walk_at "n";exact (fu (i:=2) gD.nd rfl rfl (own:=["_law_k"]) (fr:=[("_law_script",0),("_law_many",1)]) rfl ⟨rfl,(by walk_at "clok"),(by walk_at "frok"),rfl,(by nofun),(by nofun),rfl⟩ (e_ rfl T.f9 (aj (pv 1) aD)) (λ_ _ _ _=>(bS (i:=0) (show aa7 [("_law_k" : Str),("_law_script" : Str),("_law_many" : Str)] from by nofun) rfl (Or.inl rfl))) (λ_ _ _ _=>c9) (λ_ _ _ _=>(bp (vT T) (hr.mono (by decide)) b_ rfl (aj (bp (hU T) (hr.mono (by decide)) b_ rfl (aj (pv 1) (aj (cQ (dW (K:=K) rfl) aX (pv 0)) aD))) (aj (pv 2) aD)))));walk_at "c";walk_at "n";walk_at "g";walk_at "tI";walk_at "tG";walk_at "m";exact (xk (i_ hr) (pv 3) (cQ vd (pv 4) (pv 1)) (cQ vd (cQ CT (pv 4) (pv 1)) (pv 1)) rfl);exact λ_=>rfl;walk_at "m";walk_at "tS";walk_at "s";symm;have hm0 : 1<=1+cellAt ns 0/2%12/\1+cellAt ns 0/2%12<=12:=⟨by lia,by lia⟩
   generalize 1+cellAt ns 0/2%12=m at hm0 ⊢;refine eK (λi ys Z H1=>(∃ v,Z = [v,some (.ref a0),some (.int m)])/\ao H H1/\ys.length=i/\aO iD H1 ys) ⟨⟨_,rfl⟩,ao.refl _,rfl,aO.nil⟩ (λi ys Z H1 hi h=>by rw[h.2.2.1,aaJ];lia) ?_ ?_
   . rintro i ys Z H1 hi ⟨⟨v,rfl⟩,s1,VF,Tr⟩;have hS1:=aP s1 hS;symm;exact⟨_,_,rfl,by lia,by lia,λu r H2 s2 hu ho=>⟨⟨_,rfl⟩,s1.trans s2,by rw[aab,VF];rfl,(Tr.same s2).app (aO.one hu ho)⟩⟩
   rintro ys Z H1 ⟨_,s1,VF,Tr⟩;have hS1:=aP s1 hS;have hk : 0<=cellAt ns 0/24%3/\cellAt ns 0/24%3<3:=⟨by lia,by lia⟩
   have T_:=Bh ns (j:=30) (k:=cellAt ns 0/24%3) (by decide) hk.1;symm;rename_i ll VS d nd lx WI;generalize cR ns (some 30) (some (30+cellAt ns 0/24%3))=cs at T_ WI ⊢;have nd0:(upd H1 ll (.lst ys)) d=none:=nd;refine fi (K:=K) (a:=lx) (xs:=cs.map V.int) (λi Z HD=>∃ (ls:List (Int×Int)) (v:Option V),ao (upd H1 ll (.lst ys)) HD/\HD lx=some (.lst (cs.map V.int))/\Z = [some (.ref a0),some (.int m),some (.ref ll),some (.ref d),v]/\HD d=some (.dK (aw ls))/\dN ls/\ls.length<=i) ⟨[],none,(ae nd).trans (ae WI),aa,rfl,ai aa WI,⟨adx,by decide,λp hp=>by cases hp⟩,aag _⟩ (λi Z HD _ ⟨_,_,_,h,_⟩=>ar.of h) ?_ ?_
   . rintro i x Z HD hx ⟨ls,v,s3,hlx,rfl,hd,Tc,hli⟩;obtain⟨cl,hcl2,rfl⟩:∃ c:Int,cs[i]? = some c/\x=.int c:=by
       rw[aah] at hx;obtain⟨c,h1,e⟩:=Option.map_eq_some_iff.mp hx;exact⟨c,h1,e.symm⟩
     have hi:=(List.getElem?_eq_some_iff.mp hcl2).1;have v0:=abj (cl/m) (show m≠0 by lia);have v1:=abb (cl/m) (show 0<m by lia);have cd:Ek cl m:=⟨by lia,by lia⟩
     symm;refine⟨_,_,rfl,rfl,cd,?_⟩;symm;obtain⟨V6,e',L',n'⟩:=LF (c:=cl%m) (r:=cl/m%m) Tc (by lia) (by lia) (by lia);refine jj hd (by unfold aw;rw[aac,aaJ];lia) ?_;rw[e'];exact⟨V6,_,bC s3 nd0,by rw[ak (λz=>by rw[z,hd] at hlx;cases hlx)];exact hlx,rfl,aa,L',by lia⟩
   . rintro Z HD ⟨ls,v,s3,hlx,rfl,hd,Tc,hli⟩;symm;rename_i tt TF;exact q tt ll d ys ls _ ((s1.trans (ae VS)).trans (s3.trans (ae TF))) aa (aG s1 VS) (aG (s1.trans (ae VS)) nd0) (λz=>by rw[z,aa] at nd0;cases nd0) (ai (s3 _ _ aa) TF) (by lia) (by lia) (Tr.same ((ae VS).trans (s3.trans (ae TF)))) (ai hd TF) Tc
theorem G6 (r:Rw):r.mY.lookup ("runs" : Str)=none:=by
 cases r <;> (show abC _ (au _ _ _)=none;walk_at"nolk")
theorem BV (T:TX)(hr:r.here):ME 2 (r.cls a) "runs" (d6 K a r):=by
 cases r
 . exact(Cp T _ _).mono (by decide)
 . exact(BA T _ _).mono (by decide)
 . exact(CH T _ _ _).mono (by decide)
 . exact hr.elim
 . exact hr.elim
 . exact hr.elim
 . exact(A1 T _).mono (by decide)
 . exact(wR T _).mono (by decide)
 . exact(Cu T _ _).mono (by decide)
 . exact(Cv T _ _).mono (by decide)
 . exact(Bk T _).mono (by decide)
 . exact(wd T _ _).mono (by decide)
 . exact(AI T _).mono (by decide)
 . exact(A5 T _).mono (by decide)
 . exact(zl T _).mono (by decide)
theorem wD (T:TX)(hr:r.here)(h:bD a H p r):∃ t',fF K H (.ref p) t'/\aci K t' (.ref a.be)=some r.dS/\aci K t' (.ref a.aZ)=some r.isCall/\aci K t' (.ref a.ba)=some r.d_:=by
 obtain⟨dx,e⟩:=h;cases r
 . exact⟨_,.ins e T.jP T.ve.1 T.eP T.eM T.ve.2,T.rO,T.kY,T.lC⟩
 . exact⟨_,.ins e T.gY T.qQ.1 T.eP T.eM T.qQ.2,T.oG,T.jM,T.jn⟩
 . exact⟨_,.ins e T.kg T.vN.1 T.eP T.eM T.vN.2,T.rf,T.lD,T.lB⟩
 . exact hr.elim
 . exact hr.elim
 . exact hr.elim
 . exact⟨_,.ins e T.ir T.qF.1 T.eP T.eM T.qF.2,T.qk,T.jW,T.jt⟩
 . exact⟨_,.ins e T.fh T.kF.1 T.eP T.eM T.kF.2,T.mD,T.g_,T.g6⟩
 . exact⟨_,.ins e T.kh T.ud.1 T.eP T.eM T.ud.2,T.rX,T.kU,T.kZ⟩
 . exact⟨_,.ins e T.ka T.uE.1 T.eP T.eM T.uE.2,T.r6,T.lF,T.k7⟩
 . exact⟨_,.ins e T.hZ T.qO.1 T.eP T.eM T.qO.2,T.pA,T.j_,T.jR⟩
 . exact⟨_,.ins e T.fb T.kL.1 T.eP T.eM T.kL.2,T.mL,T.iu,T.ic⟩
 . exact⟨_,.ins e T.ie T.qP.1 T.eP T.eM T.qP.2,T.pE,T.jl,T.jo⟩
 . exact⟨_,.ins e T.iw T.qw.1 T.eP T.eM T.qw.2,T.qg,T.jH,T.jy⟩
 . exact⟨_,.ins e T.fX T.jh.1 T.eP T.eM T.jh.2,T.jz,T.j8,T.jL⟩
theorem yA (T:TX)(b o:Int):ME 3 a.bX "keeps" (dD a (.copy b o)):=by
 refine aB 2 T.gY T.zA nA ?_ ?_;ac_nf
 . obtain⟨x, s, z, rfl, ⟨dx, hx⟩, hk, z0, z1, hs, q⟩ := h
   change H x=some (.ins a.bX dx (au "one" (.int o) (au "box" (.int b) []))) at hx
   obtain⟨⟨k1,k2⟩,⟨k3,k4⟩⟩:=hk;walk_at"h";have nd:=nA.nd;walk_at"v";symm;exact q
theorem Ab (T:TX)(b c:Int):ME 3 a.cN "keeps" (dD a (.put b c)):=by
 refine aB 2 T.kh T.CA pG ?_ ?_;ac_nf
 . obtain⟨x, s, z, rfl, ⟨dx, hx⟩, hk, z0, z1, hs, q⟩ := h
   change H x=some (.ins a.cN dx (au "cell" (.int c) (au "box" (.int b) []))) at hx
   obtain⟨⟨k1,k2⟩,⟨k3,k4⟩⟩:=hk;have hh : ¬ z<=c:=λe=>by rw[show Rw.aE (.put b c) z=none from if_pos e] at hs;cases hs
   walk_at"h";have nd:=pG.nd;walk_at"v";symm;exact q
theorem Ah (T:TX)(b c:Int):ME 3 a.cM "keeps" (dD a (.get b c)):=by
 refine aB 2 T.ka T.BS pD ?_ ?_;ac_nf
 . obtain⟨x, s, z, rfl, ⟨dx, hx⟩, hk, z0, z1, hs, q⟩ := h
   change H x=some (.ins a.cM dx (au "cell" (.int c) (au "box" (.int b) []))) at hx
   obtain⟨⟨k1,k2⟩,⟨k3,k4⟩⟩:=hk;have hh : ¬ z<=c:=λe=>by rw[show Rw.aE (.get b c) z=none from if_pos e] at hs;cases hs
   walk_at"h";have nd:=pD.nd;walk_at"v";symm;exact q
theorem sJ (T:TX):iJ P w K mg base (eu P w) 3 "newest_caller" (Nd K a.dI):=by
 refine G7 2 T.sR fP ?_ ?_;ac_nf
 . obtain ⟨pe, pk, pp, at', ev, es, kn, pl, rfl, hpe, To, hk, hkn, S6, hpo, Tf, q, hE⟩ := h;have hel:=To.1;have h8:=hkn.1;walk_at "h";have nd:=fP.nd;refine' aW ?_ ?_;walk_at "f";walk_at "y";walk_at "tT";walk_at "m";exact (kD (gE T) (hr.mono (by decide)) rfl (aj (pv 1) aD));exact cL;walk_at "n";walk_at "x";walk_at "tS";walk_at "n";walk_at "x";walk_at "tS";walk_at "n";walk_at "f";walk_at "y";walk_at "tT";walk_at "m";exact (kD (gE T) (hr.mono (by decide)) rfl (aj (pv 1) aD));exact cL;walk_at "n";walk_at "x";walk_at "tS";walk_at "n";walk_at "x";exact (fu (i:=7) fP.nd rfl rfl (own:=["places"]) (fr:=[("known",2),("piece",6)]) rfl ⟨rfl,(by walk_at "clok"),(by walk_at "frok"),rfl,(by nofun),(by nofun),rfl⟩ (dP (K:=K) rfl (bp (gB T) (hr.mono (by decide)) b_ rfl (aj (pv 4) aD))) (λ_ _ _ _=>(bS (i:=0) (show aa7 [("places" : Str),("known" : Str),("piece" : Str)] from by nofun) rfl (Or.inl rfl))) (λ_ _ _ _=>c9) (λ_ _ _ _=>(bp (Bm T) (hr.mono (by decide)) b_ rfl (aj (pv 0) (aj (pv 1) (aj (pv 2) aD))))));walk_at "n";walk_at "f";walk_at "y";walk_at "tT";walk_at "m";exact (kD (gE T) (hr.mono (by decide)) rfl (aj (pv 1) aD));exact cL;walk_at "m";walk_at "x";walk_at "tS";walk_at "s";by_cases h0:at'<0
   . symm;refine⟨fg (by have:=Tf.1;lia) (by have:=Tf.2;lia),λd hd=>?_⟩;exact hE (by unfold dX;rw[if_neg (by lia)]) d _ (by walk_at"same") aa
   by_cases h1:(ev.length:Int)<=at'
   . symm;refine⟨fg (by have:=Tf.1;lia) (by have:=Tf.2;lia),λd hd=>?_⟩;exact hE (by unfold dX;rw[if_neg (by lia)]) d _ (by walk_at"same") aa
   have hi:at'.toNat<es.length:=by lia
   obtain⟨v,e1,e2⟩:=To.2 at'.toNat _ (aaa hi);have TU:cT ev at'=some v:=by
     rw[show at'=((at'.toNat:Nat):Int) from by lia];exact bG e1
   have Tg:dX es at' kn pl=Fq es[at'.toNat] kn pl:=by
     unfold dX;rw[if_pos (by lia),aar,aaa hi];rfl
   rw[Tg] at q hE;generalize es[at'.toNat]=oe at e2 q hE;clear Tg;cases oe with
   | none =>
     cases e2
     symm;refine⟨fg (by have:=Tf.1;lia) (by have:=Tf.2;lia),λd hd=>?_⟩;exact hE rfl d _ (by walk_at"same") aa
   | some e =>
     obtain⟨p,rfl,⟨qe,he1,he2⟩⟩:=e2;have hup:Fq (some e) kn pl=if 0<=e.h/\e.h<=pl.length then gF e kn pl else none:=rfl;rw[hup] at q hE;by_cases h2 : 0<=e.h/\e.h<=pl.length
     . rw [if_pos h2] at q hE;symm;rename_i lp hlp;rw [GX pl (by lia) (by lia)];refine ⟨p,e,rfl,⟨qe,by walk_at "sqt",by walk_at "sqt"⟩,λt ht=>?_⟩;symm;refine xA (λs=>bt s kn (pl.drop ((pl.length:Int) - e.h).toNat)) (λZ=>∃ v,Z = [v,some (.ref pk),some (.ref lp)]) (aI.of aa) (by show 4<=aal;decide) ⟨_,rfl⟩ ?_ ?_
       . rintro i x ys Z H1 hx cc ss ⟨v,rfl⟩;symm;refine MV (by walk_at"sql") h8 (by walk_at"sql") (λz=>Gk z) ?_;exact cc.next hx rfl (by walk_at"same") ⟨_,rfl⟩
       intro H3 s5 f hf;rw[show e.dG.map (λs=>bt s kn (pl.drop ((pl.length:Int) - e.h).toNat))=[bt e.b kn (pl.drop ((pl.length:Int) - e.h).toNat),bt e.v4 kn (pl.drop ((pl.length:Int) - e.h).toNat),bt e.v5 kn (pl.drop ((pl.length:Int) - e.h).toNat),bt e.v6 kn (pl.drop ((pl.length:Int) - e.h).toNat)] from rfl];have o1:=f_ (s:=e.b) hkn (hpo.drop ((pl.length:Int) - e.h).toNat);have o2:=f_ (s:=e.v4) hkn (hpo.drop ((pl.length:Int) - e.h).toNat);have o3:=f_ (s:=e.v5) hkn (hpo.drop ((pl.length:Int) - e.h).toNat);have o4:=f_ (s:=e.v6) hkn (hpo.drop ((pl.length:Int) - e.h).toNat);symm
       with_reducible refine(?_:xF _ _ _ _ _ _)
       refine JK (ar.of aa) rfl (G4 o1 o2 o3 o4) ?_;rw[if_neg aap];rcases CK o1 o2 o3 o4 with ⟨WR,VJ⟩ | ⟨WR,r,a1,b1,c1,g1,g2,g3,g4,_⟩
       . rw[WR];symm;refine⟨fg (by have:=Tf.1;lia) (by have:=Tf.2;lia),λd hd=>?_⟩;exact hE (A7 VJ) d _ (by walk_at"same") aa
       . rw[WR,g1,g2,g3,g4];symm;rename_i t2 US t3 ht3;exact q _ _ _ (Bs g1 g2 g3 g4) (by walk_at"same") ⟨t3,t2,rfl,by rw[aa],ai aa ht3⟩
     . rw[if_neg h2] at q hE;by_cases h3:(pl.length:Int) - e.h<0
       . symm;refine⟨fg (by have:=Tf.1;lia) (by have:=Tf.2;lia),λd hd=>?_⟩;exact hE rfl d _ (by walk_at"same") aa
       . symm;refine⟨fg (by have:=Tf.1;lia) (by have:=Tf.2;lia),λd hd=>?_⟩;exact hE rfl d _ (by walk_at"same") aa
theorem sW (T:TX):FE 3 "own_complaint" (O_ K a):=by
 refine bc 2 T.tJ jK ?_ ?_;ac_nf
 . obtain⟨x, p, r, e, rfl, ⟨dx, hx⟩, ok, hh, he, q⟩ := h;obtain⟨qe,h1,h2⟩:=id he;walk_at"h";have nd:=jK.nd;walk_at"v";symm;refine⟨p,e,rfl,he,λH1 s1=>?_⟩;have VG:=s1 _ _ hx;have h11:=cm s1 h1;have he1:=he.same s1;unfold d9 at q;cases hw:du e with
   | true =>
     rw[hw,if_pos rfl] at q;symm;exact q _ s1
   | false =>
     rw[hw,if_neg (by decide)] at q;symm;refine aY VG (kX _) ((iW T hh).mono (by decide)) ?_;symm;refine⟨x,e.h,rfl,⟨dx,VG⟩,?_⟩;symm;cases hg:r.aE e.h with
     | none =>
       rw[hg,if_pos rfl] at q;show pP V.aC V.aC _ _;symm;exact q _ s1
     | some z =>
       rw[hg,if_neg (λz=>by cases z)] at q;show pP (V.int z) V.aC _ _;symm;obtain⟨t',ty,kc,kb⟩:=lQ T hh ⟨dx,VG⟩;cases r with
       | back b =>
         with_reducible refine(?_:iU _ _ _ _)
         refine eX (b:=true) (λz=>by cases z) ty kb ?_;symm;refine⟨x,p,b,e,rfl,⟨dx,VG⟩,ok.1,ok.2,he1,λH2 s2=>?_⟩;have q:∀ H',ao H H'->Q (oV (if jA b e=true then none else some .back)) H':=q;cases hm:jA b e with
         | true =>
           rw[hm] at q;symm;exact q _ (s1.trans s2)
         | false =>
           rw[hm] at q;symm;exact q _ (s1.trans s2)
       | _ =>
         with_reducible refine(?_:iU _ _ _ _)
         refine eX (b:=false) (λz=>by cases z) ty kb ?_;symm;exact q _ s1
theorem Cz (T:TX):KE 3 "Machine" a.ax (lU a)/\J0 P w K mg base cb 3 "Machine" a.ax (.int 0) (lU a):=by
 refine KO 2 T.Gj T.GL kq ?_ ?_;ac_nf
 . obtain ⟨x, dx, c, t, b, dt, l, d, start, prs, rs, bs, es, kvs, rfl, hx, hc, Tn, hpx, ht, htx, hl, hd, hb, h7, hm, q⟩ := h;have cx:c≠x:=λz=>by rw [z,hx] at hc;cases hc
   have bx:b≠x:=λz=>by rw[z,hx] at hb;cases hb
   have lx:l≠x:=λz=>by rw[z,hx] at hl;cases hl
   have ddx:d≠x:=λz=>by rw[z,hx] at hd;cases hd
   have S4:=Tn.1;unfold fR at ht;walk_at"h";have nd:=kq.nd;walk_at"v";symm;rename_i pc hpc;have npx:pc≠x:=(ag hx hpc).symm;intro xt dxt V4 U1 nne;refine' uG (kvs:=kvs) (xs:=es) V4 U1 ?h1 ?h2 ?q;(case h1=>exact ar.of (cu lx (ai hl hpc)))
   (case h2=>exact .inr ⟨d,rfl,cu ddx (ai hd hpc)⟩)
   (case q =>
     intro l2 dk2 H2 s2 nl2 nd2 n12 nxl WH WK UG UJ;refine⟨rfl,?_⟩;have e1:H2 x=some (.ins a.ax dx (au "code" (.ref pc) [])):=s2 _ _ aa;have e2:H2 pc=some (.lst (prs.map V.ref)):=s2 _ _ (cu npx aa);have kp:∀ b o,H b=some o->b≠x->H2 b=some o:=λb o e ne=>s2 _ _ (by rw[ak ne,ak (ag e hpc)];exact e);have fr:∀ q,H2 q=none->H q=none:=λq e=>by
       cases h:H q with
       | none=>rfl
       | some o =>
         by_cases z:q=x
         . rw[z,e1] at e;cases e
         . rw[kp q o h z] at e;cases e
     have eb:H2 b=some (.lst (bs.map V.int)):=kp _ _ hb bx;have h7b:∀ y:Int,(bs++[y]).length=8:=λy=>by rw[aab,h7];rfl
     have qx1:x≠xt:=ag aa V4;have qx2:=qx1.symm;have ql1:x≠l2:=ag aa nl2;have ql2:=ql1.symm;have fl2:H l2=none:=(bw (bw nl2).1).1;have fd2:H dk2=none:=(bw (bw nd2).1).1;have qd1:x≠dk2:=ag aa nd2;have qd2:=qd1.symm;clear s2 nl2 nd2 V4 U1 nne hx hc hb hl hd ht;symm;generalize hH:((abX V.ref prs).length:Int)=aU at *;have hH':aU=rs.length:=by rw[<- hH,aac,S4]
     subst hH';generalize hL:abX V.int bs++[V.int (rs.length:Int)]=L at *;have hL':L=(bs++[(rs.length:Int)]).map V.int:=by rw[<- hL,aaE];rfl
     subst hL';clear hL;symm;rename_i lb lh ph pl nlb VE nph npl kt nkt t2 nt2 pk npk;refine aY aa (by walk_at"nolk") ((cZ T).mono (by decide)) ?_;symm;refine⟨x,dx,_,(rs.length:Int),start,rfl,aa,by walk_at"lk",?_⟩;symm;have Wv:∀ {y:Addr},H2 y=none->H y=none/\y≠x/\y≠pc:=λ{y} e=>⟨fr y e,(λz=>by rw[z,e1] at e;cases e),(λz=>by rw[z,e2] at e;cases e)⟩;have d1:H2 ph=none:=by have h:=nph;(repeat replace h:=f7 h);exact h
     have d2:H2 pl=none:=by have h:=npl;(repeat replace h:=f7 h);exact h
     have d3:H2 kt=none:=by have h:=nkt;(repeat replace h:=f7 h);exact h
     have d4:H2 t2=none:=by have h:=nt2;(repeat replace h:=f7 h);exact h
     have d5:H2 pk=none:=by have h:=npk;(repeat replace h:=f7 h);exact h
     obtain⟨g1,i1,j1⟩:=Wv d1;obtain⟨g2,i2,j2⟩:=Wv d2;obtain⟨g3,i3,j3⟩:=Wv d3;obtain⟨g4,i4,j4⟩:=Wv d4;obtain⟨g5,i5,j5⟩:=Wv d5;have key:∀ HF:Hp,(∀ b o,H b=some o->b≠x->HF b=some o)->gc a HF x pk dx pc xt ph pl (au "state" (.str (aK rs.length start)) (au "dropped" .aC (au "calls" (.ref pk) (au "cells" (.ref pl) (au "held" (.ref ph) (au "coming" (.int start) (au "home" (.int (rs.length:Int)) (au "table" (.ref xt) (au "code" (.ref pc) []))))))))) prs [.ref t2] (hJ rs bs start)->Bc a H HF xt pk es kvs->Q .aC HF:=λHF k M TT=>q pk pc xt ph pl _ [.ref t2] HF g5 hpc g1 g2 k M TT;refine' key _ (λb o e ne=>?kf) ⟨aa,MF.start pc xt ph pl pk _ _ _,by walk_at"L",Tn.to (λp hp o e=>by (have e3:=kp p o e (hpx p hp));(have ne:=hpx p hp);walk_at"L"),by walk_at"L",by walk_at"L",by walk_at"L",⟨rfl,λi v c ev ec=>?_⟩,j5,?_,?_,hpx⟩ ⟨dxt,l2,dk2,(show _=some (HO.ins a.b3 dxt (au "landings" (.ref dk2) (au "entries" (.ref l2) []))) from by walk_at"L"),by walk_at"L",by walk_at"L",ag UG d5,fl2,fd2⟩
     . have e3 := kp b o e ne
       walk_at"L"
     . cases i with
       | zero =>
         cases ev
         cases ec
         exact⟨t2,kt,rfl,by walk_at"L",by walk_at"L"⟩
       | succ i=>simp at ev
     . exact(ag (show _=some (HO.lst ((bs++[(rs.length:Int)]).map V.int)) from by walk_at"L") npk).symm
     . exact(ag (show _=some (HO.lst []) from by walk_at"L") npk).symm)
theorem BR (T:TX):J0 P w K mg base cb 3 "Machine" a.ax (.int 0) (lU a):=(Cz T).2
theorem yI (T:TX):ME 3 a.ax "do" (RS a):=by
 refine aB 2 T.cq T.Bv ou ?_ ?_;ac_nf
 . obtain ⟨m, p, pk, pt, r, S, rfl, ⟨dx, pc, ph, pl, fs, prs, cs, M⟩, O, ⟨dxr, Tb⟩, hmem, UE, pm, S9, T_, q⟩ := h;have f1:=M.f.av;have f2:=M.f.held;have f3:=M.f.cells;have f4:=M.f.calls;have f5:=M.f.aU;have fl:=M.f.len;have fn:=M.f.no;have hm:=M.hm;have hh:=M.hh;have hl:=M.hl;have hk:=M.hk;have h8:=O.h8;have hcs:cs.length<=50000:=by rw [M.calls.1];exact T_
   have x1:=M.QO;have x2:=M.Q4;have x3:=M.QV;have x4:=M.n2;have x5:=M.n3;have x6:p≠pk:=λz=>by rw[z,hk] at Tb;cases Tb
   obtain⟨rok,rh0⟩:=O.ok r hmem;have rh:=rh0 UE;walk_at"h";have nd:=ou.nd;walk_at"v";symm;refine aY Tb (G6 _) ((BV T rh).mono (by decide)) ?_;symm;refine⟨p,ph,pl,_,_,_,rfl,⟨dxr,Tb⟩,rok,ar.of hh,O.h8,O.hv,ar.of hl,O.cl,?_⟩;unfold MS.bU at q;cases Th:r.run S.av S.held S.cells with
   | none =>
     rw[Th] at q;intro H1 s1;have Uz:=s1 _ _ hm;symm;exact q _ (aQ.m_ (aQ.of_same s1)) (M.qT s1 _)
   | some tt =>
     obtain⟨n,bs,pp⟩:=tt;rw[Th] at q;dsimp only at q;intro t b' p' H1 s1 nt nb np e1 e2 e3 ht hb hp;have Uz:=s1 _ _ hm;have hrow1:=s1 _ _ Tb;have hk1:=s1 _ _ hk;have hh1:=s1 _ _ hh;have hl1:=s1 _ _ hl;have y1:pk≠b':=ag hk nb;have y2:pk≠p':=ag hk np;symm;refine aY Uz (fn _ (by nofun)) ((cZ T).mono (by decide)) ?_;symm;refine⟨m,dx,fs,_,n,rfl,Uz,f5,?_⟩;by_cases hw:V.str (aK S.rows.length n)=V.str "fault"
     . have hw' : aK S.rows.length n = "fault" := by injection hw
       rw[if_pos hw'] at q;symm;exact q _ (aQ.m_ (aQ.of_same s1)) (M.qT s1 _)
     . have hw' : ¬ aK S.rows.length n = "fault" := λz => hw (by rw [z]);rw [if_neg hw'] at q;unfold MS.mh at q;symm;obtain ⟨t1,ty1,_,kc,kb⟩:=wD T rh ⟨dxr,hrow1⟩
       with_reducible refine(?_:iU _ _ _ _)
       refine eX (λz=>by cases z) ty1 kc ?_;cases hC:r.isCall with
       | true =>
         have hB:r.d_=false:=by cases r <;> first | rfl | cases hC
         rw[hC] at q;symm;rename_i k2 UA t2 US;have nk2:=bw US;obtain⟨t3,ty3,_,_,kb3⟩:=wD T rh (H:=upd (upd (upd H1 k2 (.tup [.int (gI S.held 4),.int (gI S.held 5),.int (gI S.held 6)])) t2 (.tup [.int (S.av+1),.ref k2,.int (S.cells.length:Int)])) pk (.lst (cs++[.ref t2]))) ⟨dxr,by bv_omega⟩
         with_reducible refine(?_:iU _ _ _ _)
         refine eX (λz=>by cases z) ty3 kb3 ?_;rw[hB];symm;refine aY (by walk_at"hlk") (fn _ (by nofun)) ((eG T).mono (by decide)) ?_;symm;refine⟨m,dx,pc,pt,ph,pl,pk,b',p',fs,_,_,n,_,_,rfl,by bv_omega,M.f,λU7 F'=>?_⟩;symm;have z1:t2≠pk:=(ag hk1 nk2.1).symm;have z2:k2≠pk:=(ag hk1 UA).symm;have sm:ao H1 (upd (upd H1 k2 (.tup [.int (gI S.held 4),.int (gI S.held 5),.int (gI S.held 6)])) t2 (.tup [.int (S.av+1),.ref k2,.int (S.cells.length:Int)])):=(ae UA).trans (ae US);refine q _ (aQ.m_ (aQ.Hw (aQ.of_same (s1.trans sm)))) ⟨dx,pc,b',p',U7,prs,cs++[.ref t2],?_⟩;refine M.we (calls':=S.calls++[(S.av+1,gI S.held 4,gI S.held 5,gI S.held 6,(S.cells.length:Int))]) (aQ.Hw (aQ.of_same (s1.trans sm))) (by walk_at"hlk") (by walk_at"hlk") (by walk_at"hlk") aa (ClsAt.snoc ?_ ⟨t2,k2,rfl,?_,?_⟩) y1 y2 F'
         . exact M.clsAt (aQ.Hw (aQ.of_same (s1.trans sm)))
         . rw[ak z1,aa]
         . rw[ak z2,ak nk2.2.symm,aa]
       | false =>
         rw[hC] at q;symm
         with_reducible refine(?_:iU _ _ _ _)
         refine eX (λz=>by cases z) ty1 kb ?_;cases hB:r.d_ with
         | true =>
           rw[hB] at q;symm;refine aY Uz (fn _ (by nofun)) ((i9 T).mono (by decide)) ?_;symm;refine⟨m,dx,pk,fs,1,cs,rfl,Uz,f4,hk1,by decide,by omega,λH2 UA UB=>?_⟩;have T7:H2 m=some (.ins a.ax dx fs):=by rw[UB m x1.symm];exact Uz
           have US:H2 t=some (.tup [.int n,.ref b',.ref p']):=by rw[UB t (ag hk nt).symm];exact ht
           have kp2:aQ m pk H H2:=λb o e n1 n2=>by rw[UB b n2];exact s1 b o e
           symm;refine aY T7 (fn _ (by nofun)) ((eG T).mono (by decide)) ?_;symm;refine⟨m,dx,pc,pt,ph,pl,pk,b',p',fs,_,_,n,_,_,rfl,T7,M.f,λU7 F'=>?_⟩;symm;refine q _ (aQ.m_ kp2) ⟨dx,pc,b',p',U7,prs,cs.take (cs.length - 1),?_⟩;refine M.we (calls':=S.calls.take (S.calls.length - 1)) kp2 T7 (by rw[UB b' y1.symm];exact hb) (by rw[UB p' y2.symm];exact hp) UA ?_ y1 y2 F';rw[M.calls.1];exact(M.clsAt kp2).take _
         | false =>
           rw[hB] at q;symm;refine aY Uz (fn _ (by nofun)) ((eG T).mono (by decide)) ?_;symm;refine⟨m,dx,pc,pt,ph,pl,pk,b',p',fs,_,_,n,_,_,rfl,Uz,M.f,λU7 F'=>?_⟩;symm;refine q _ (aQ.m_ (aQ.of_same s1)) ⟨dx,pc,b',p',U7,prs,cs,?_⟩;exact M.we (calls':=S.calls) (aQ.of_same s1) Uz hb hp hk1 (M.clsAt (aQ.of_same s1)) y1 y2 F'
theorem PJ {bs:List Int}(h:bs.length=8):cR bs (some 1) (some 4)=[gI bs 1,gI bs 2,gI bs 3]:=by
 match bs,h with | [x0,x1,x2,x3,x4,x5,x6,x7],_=>rfl
theorem Fc {H8 HX:Hp}{R:Hp->Prop}{b:Addr}(h:ao H8 HX)(hb:HX b=some (.lst xs))(k:∀ H9,ao H8 H9->H9 b=some (.lst xs)->R H9):R HX:=k HX h hb
theorem uH (T:TX):ME 3 a.ax "land" (Mx K a):=by
 refine aB 2 T.cq T.vQ gw ?_ ?_;ac_nf
 . obtain⟨m, pk, pt, t, v, n, k, c, S, es, kvs, rfl, MM, O, ⟨ev, TI, EV⟩, U4, V0, T_, hval, q⟩ := h;obtain⟨dx,pc,ph,pl,fs,prs,cs,M⟩:=id MM;have ptm:=TI.ne M.hm M.f.code;obtain⟨dt,l,d,ht,hl,hd,WN⟩:=TI;unfold fR at ht;obtain⟨t',q',et,Vc,hq2⟩:=U4;cases et
   have f1:=M.f.av;have f2:=M.f.held;have f3:=M.f.cells;have f4:=M.f.calls;have f5:=M.f.aU;have f6:=M.f.table;have fl:=M.f.len;have fn:=M.f.no;have hm:=M.hm;have hh:=M.hh;have Tc:=M.hl;have hk:=M.hk;have h8:=O.h8;have hcs:cs.length<=50000:=by rw[M.calls.1];exact T_
   have x1:=M.QO;have x2:=M.Q4;have x3:=M.QV;have x4:=M.n2;have x5:=M.n3;unfold MS.landed at q;walk_at"h";have nd:=gw.nd;refine' aW ?_ ?_;exact(c8 (i:=4) gw.nd rfl (Or.inl rfl) (wC (i_ hr) (cD (K:=K) rfl (cD (K:=K) rfl (pv 0))) (cQ lZ (cB (dj (K:=K) rfl) (pv 2) aX (λ_ _=>rfl)) aX) (λ_ _=>rfl)));walk_at"c";walk_at"c";walk_at"c";walk_at"m";walk_at"tS";walk_at"s";symm;refine Ay ?_;symm;have dg:=gq.k (k:=.inl (c.r - 1)) hd;rw[hval] at dg;refine⟨d,_,rfl,dg,?_⟩;symm;refine aY hm (fn _ (by nofun)) ((cZ T).mono (by decide)) ?_;symm;refine⟨m,dx,fs,_,n,rfl,hm,f5,?_⟩;by_cases hw:V.str (aK S.rows.length n)=V.str "fault"
   . have hw' : aK S.rows.length n = "fault" := by injection hw
     rw[if_pos hw'] at q;symm;exact q _ (aQ.m_ aQ.refl) (M.qT (ao.refl _) _)
   . have hw' : ¬ aK S.rows.length n = "fault" := λz => hw (by rw [z]);rw [if_neg hw'] at q;symm;refine aY hm (fn _ (by nofun)) ((i9 T).mono (by decide)) ?_;symm;refine ⟨m,dx,pk,fs,(k:Int),cs,rfl,hm,f4,hk,by lia,by lia,λH2 UA UB=>?_⟩;have T7:H2 m=some (.ins a.ax dx fs):=by rw [UB m x1.symm];exact hm
     have V_:H2 ph=some (.lst (S.held.map V.int)):=by rw[UB ph x4.symm];exact hh
     have UG:H2 pl=some (.lst (S.cells.map V.int)):=by rw[UB pl x5.symm];exact Tc
     have hq12:H2 t=some (.tup [.int c.r,.ref q',.int c.n]):=by rw[UB t (λz=>by rw[z,hk] at Vc;cases Vc)];exact Vc
     have hq22:H2 q'=some (.tup [.int c.a,.int c.b,.int c.c]):=by rw[UB q' (λz=>by rw[z,hk] at hq2;cases hq2)];exact hq2
     have kp2:aQ m pk H H2:=λb o e n1 n2=>by rw[UB b n2];exact e
     symm;rw[PJ h8];symm;rename_i e1 z1 e2 z2 e3 z3 e4 z4 e5 z5 e6 z6 bx zb;rw[aaD] at UA;have nb:H2 bx=none:=by have h:=zb;(repeat replace h:=f7 h);exact h
     have y1:pk≠bx:=ag UA nb;refine Fc (H8:=H2) (b:=bx) (R:=λHx=>Dy _ _ _ _ _ _ _ _ _ _ _ _ Hx _) (by walk_at"same") aa (λH9 s9 hbx=>?_);clear z1 z2 z3 z4 z5 z6 zb;have hm9:=s9 _ _ T7;have hk9:=s9 _ _ UA;have hl9:=s9 _ _ UG;have hq9:=s9 _ _ hq12;refine aY hm9 (fn _ (by nofun)) ((eG T).mono (by decide)) ?_;symm;rename_i px zx;rw[fU _ V0];refine⟨m,dx,pc,pt,ph,pl,pk,bx,px,fs,_,_,n,_,_,rfl,by bv_omega,M.f,λU7 F'=>?_⟩;symm;have y2:pk≠px:=ag hk9 zx;have kp9:aQ m pk H (upd H9 px (.lst ((S.cells.take c.n.toNat).map V.int))):=kp2.trans (aQ.of_same (s9.trans (ae zx)));refine q _ (aQ.m_ kp9) ⟨dx,pc,bx,px,U7,prs,cs.take (cs.length - k),?_⟩;refine M.we (bs:=[v,gI S.held 1,gI S.held 2,gI S.held 3,c.a,c.b,c.c,gI S.held 7]) (pp:=S.cells.take c.n.toNat) (calls':=S.calls.take (S.calls.length - k)) kp9 (ai hm9 zx) (ai hbx zx) aa (ai hk9 zx) ?_ y1 y2 F';rw[M.calls.1];exact(M.clsAt kp9).take _
theorem Ct (T:TX):FE 3 "_law_code" (Gx K 450):=by
 refine bc 2 T.Cw rW ?_ ?_;ac_nf
 . obtain ⟨a0, ns, rfl, hS, U6, q⟩ := h;walk_at "h";have nd:=rW.nd;refine' aW ?_ ?_;walk_at "tS";walk_at "c";walk_at "c";walk_at "c";walk_at "n";walk_at "g";walk_at "tI";walk_at "tG";walk_at "c";walk_at "c";walk_at "n";walk_at "g";walk_at "tI";walk_at "tG";walk_at "c";walk_at "m";walk_at "f";walk_at "tT";walk_at "m";exact (xk (i_ hr) (pv 4) (cQ (dW (K:=K) rfl) (cJ (ez (K:=K) rfl) rfl T.jc jf (aj (pv 2) aD)) (pv 8)) (cB (dj (K:=K) rfl) (lI (aj aX (aj (cQ (dW (K:=K) rfl) (cQ (dW (K:=K) rfl) (cJ (ez (K:=K) rfl) rfl T.jc jf (aj (pv 2) aD)) (pv 8)) aX) (aj (pv 7) (aj (pv 7) aD))))) (pv 9) (λ_ _=>rfl)) rfl);exact cL;exact λ_=>rfl;walk_at "m";walk_at "tS";exact λ_=>rfl;walk_at "c";walk_at "c";walk_at "m";walk_at "tS";walk_at "s";have hm0 : 1<=1+cellAt ns 0%3/\1+cellAt ns 0%3<=3:=⟨by lia,by lia⟩
   symm;generalize 1+cellAt ns 0%3=m at hm0 ⊢;rename_i lr0 We ls VC d nd;refine fV (λi Z HD=>∃ (lr:Addr) (us:List V) (ts:List Int) (lns:List (Int×Int)) (v5 v6 v7 v8 v9:Option V),Z = [some (.ref a0),some (.int m),some (.ref lr),some (.ref ls),some (.ref d),v5,v6,v7,v8,v9,none,none]/\ao H HD/\lr≠ls/\HD lr=some (.lst us)/\HD ls=some (.lst (ts.map V.int))/\HD d=some (.dK (aw lns))/\dN lns/\lns.length<=21*i/\us.length<=21*i/\i<=us.length/\ts.length=i/\(∀ t∈ts,0<=t/\t<=63)/\aO fJ HD us) ⟨lr0,[],[],[],_,_,_,_,_,rfl,((ae We).trans (ae VC)).trans (ae nd),(λz=>by rw[<- z,aa] at VC;cases VC),ai (ai aa VC) nd,ai aa nd,aa,⟨adx,by decide,λp hp=>by cases hp⟩,aag _,aag _,aag _,rfl,λ_ z=>(by cases z),aO.nil⟩ ?_ ?_
   . rintro i Z HD hi ⟨lr,us,ts,lns,v5,v6,v7,v8,v9,rfl,sD,T6,VL,Tc,hd,WO,hln,Vu,hui,htl,htb,Tr⟩;symm;have nls0:H ls=none:=aG (ae We) VC;have sE:ao H (upd HD ls (.lst (abX V.int ts++[.int us.length]))):=bC sD nls0;have hlrE:(upd HD ls (.lst (abX V.int ts++[.int us.length]))) lr=some (.lst us):=by rw [ak T6];exact VL
     have hlsE:(upd HD ls (.lst (abX V.int ts++[.int us.length]))) ls=some (.lst ((ts++[(us.length:Int)]).map V.int)):=by rw[aa,aaE];rfl
     have hdE:(upd HD ls (.lst (abX V.int ts++[.int us.length]))) d=some (.dK (aw lns)):=by rw[ak (λz=>by rw[z,Tc] at hd;cases hd)];exact hd
     have tdE:=Tr.off (o:=.lst (abX V.int ts++[.int us.length])) Tc;generalize upd HD ls (HO.lst (abX V.int ts++[V.int us.length]))=HE at sE hlrE hlsE hdE tdE ⊢;have hSE:=aP sE hS;clear sD VL Tc hd Tr;have T_:(cR ns (some (13+6*(0+(i:Int)))) (some (18+6*(0+(i:Int))))).length<=5:=by
       rw[show 18+6*(0+(i:Int))=13+6*(0+(i:Int))+5 from by lia];exact Bh ns (by lia) (by decide)
     symm;rename_i lx WI;refine⟨lx,_,_,_,rfl,ar.of aa,by lia,by lia,by lia,λtq lq uq e HG sG htq hlq Vc hq2 tdq e0 e1=>?_⟩;have sX:=(ae WI (o:=.lst ((cR ns (some (13+6*(0+(i:Int)))) (some (18+6*(0+(i:Int))))).map V.int))).trans sG;have hlrG:=sX _ _ hlrE;have hlsG:=sX _ _ hlsE;have hdG:=sX _ _ hdE;have tdG:=tdE.same sX;have hSG:=aP sX hSE;have sH:=sE.trans sX;have huq:uq.length<=21:=by lia
     have he : 0<=e/\e<=1000:=⟨e0,e1⟩
     clear sX sG sE hlrE hlsE hdE tdE hSE WI hq2 T_ e0 e1;symm;have nd0:H d=none:=aG ((ae We).trans (ae VC)) nd;refine fV (λj Z HI=>∃ (Vj:List (Int×Int)) (v8 v9:Option V),Z = [some (.ref a0),some (.int m),some (.ref lr),some (.ref ls),some (.ref d),some (.int (0+(i:Int))),some (.ref lq),some (.int e),v8,v9,none,none]/\ao H HI/\HI lr=some (.lst us)/\HI ls=some (.lst ((ts++[(us.length:Int)]).map V.int))/\HI lq=some (.lst uq)/\HI d=some (.dK (aw Vj))/\dN Vj/\Vj.length<=21*i+j/\aO fJ HI us/\aO fJ HI uq) ⟨lns,_,_,rfl,sH,hlrG,hlsG,hlq,hdG,WO,hln,tdG,tdq⟩ ?_ ?_
     . clear sH hlrG hlsG hlq hdG WO hln tdG tdq htq hSG;rintro j Z HI hj ⟨ln2,v8,v9,rfl,sI,hlrI,hlsI,hlqI,hdI,hlgI,hlnI,tdI,tqI⟩;have hSI:=aP sI hS;have cd:Ek (cellAt ns (30+(0+(i:Int)))) (1+5*(0+(j:Int))):=⟨by lia,by lia⟩
       symm;refine⟨_,_,rfl,rfl,cd,?_⟩;symm;refine qp hlqI tqI (by lia) (by lia) λu r ⟨p,hup,hp⟩ ho=>?_;subst hup;symm;refine vy (aI.of hp) (v:=.str r.eU.1) (show cT (V.str r.eU.1::r.eU.2.map V.int) ((0:Nat):Int)=_ from bG rfl) ?_;symm;have hw : 0<=cellAt ns (30+(0+(i:Int)))/(1+5*(0+(j:Int)))%4/\cellAt ns (30+(0+(i:Int)))/(1+5*(0+(j:Int)))%4<4:=⟨by lia,by lia⟩
       generalize cellAt ns (30+(0+(i:Int)))/(1+5*(0+(j:Int)))%4=way at hw ⊢;have same:∃ (Vj:List (Int×Int)) (v8 v9:Option V),[some (.ref a0),some (.int m),some (.ref lr),some (.ref ls),some (.ref d),some (.int (0+(i:Int))),some (.ref lq),some (.int e),some (.int (0+(j:Int))),some (.int way),none,none]=[some (.ref a0),some (.int m),some (.ref lr),some (.ref ls),some (.ref d),some (.int (0+(i:Int))),some (.ref lq),some (.int e),v8,v9,none,none]/\ao H HI/\HI lr=some (.lst us)/\HI ls=some (.lst ((ts++[(us.length:Int)]).map V.int))/\HI lq=some (.lst uq)/\HI d=some (.dK (aw Vj))/\dN Vj/\Vj.length<=21*i+(j+1)/\aO fJ HI us/\aO fJ HI uq:=⟨ln2,_,_,rfl,sI,hlrI,hlsI,hlqI,hdI,hlgI,by lia,tdI,tqI⟩
       refine cW (λhc=>?_) (λhc=>?_)
       . symm;refine cW (λhw1=>?_) (λhw1=>?_)
         . obtain⟨tv, htv, hatv⟩ := eB (ns := [0, (us.length : Int) + (0 + (j : Int)) + 1, e, e]) (i := way) hw.1 hw.2;have hatv:cT [V.int 0,V.int ((us.length:Int)+(0+(j:Int))+1),V.int e,V.int e] way=some (.int tv):=hatv;have htv2 : -10000<=tv/\tv<=10000:=by
             clear same;simp only[aaQ,aaS,or_false] at htv
             lia
           clear same;symm;rename_i l9 n9;obtain⟨V6,e',L',n'⟩:=Lr (c:=(us.length:Int)+(0+(j:Int))) (r:=tv) hlgI (by lia) htv2.1 htv2.2;have hd9:(upd HI l9 (.lst [.int 0,.int ((us.length:Int)+(0+(j:Int))+1),.int e,.int e])) d=some (.dK (aw ln2)):=ai hdI n9;refine jj hd9 (by unfold aw;rw[aac,aaJ];lia) ?_;rw[e'];exact⟨V6,_,_,rfl,bC (sI.trans (ae n9)) nd0,pR (ai hlrI n9) hd9,pR (ai hlsI n9) hd9,pR (ai hlqI n9) hd9,aa,L',by lia,(tdI.same (ae n9)).NO hd9,(tqI.same (ae n9)).NO hd9⟩
         . symm;exact same
       . symm;exact same
     . clear sH hlrG hlsG hlq hdG WO hln tdG tdq htq hSG;rintro Z HI ⟨ln2,v8,v9,rfl,sI,hlrI,hlsI,hlqI,hdI,hlgI,hlnI,tdI,tqI⟩;have hlnI:ln2.length<=21*i+uq.length:=hlnI;symm;rename_i l9 n9
       exact⟨l9, us ++ uq, ts ++ [(us.length : Int)], ln2, _, _, _, _, _, rfl, sI.trans (ae n9), (λz => by rw[z, hlsI] at n9; cases n9), aa, ai hlsI n9, ai hdI n9, hlgI, by lia, by rw[aab]; lia, by rw[aab]; lia, by rw[aab, htl]; rfl, λt ht => by
         rcases List.mem_append.mp ht with z | z
         . exact htb t z
         . rw[List.mem_singleton.mp z];lia,(tdI.app tqI).same (ae n9)⟩
   . rintro Z HD ⟨lr,us,ts,lns,v5,v6,v7,v8,v9,rfl,sD,T6,VL,Tc,hd,WO,hln,Vu,hui,htl,htb,Tr⟩;have hi3:m.toNat<=3:=by lia
     symm;rename_i lf Vr;have nls0:H ls=none:=aG (ae We) VC;have sE:=sD.trans (ae Vr (o:=.lst []));refine fi (K:=K) (a:=lr) (xs:=us) (λi Z HF=>∃ (uf:List V) (V2:Option V),Z = [some (.ref a0),some (.int m),some (.ref lr),some (.ref ls),some (.ref d),v5,v6,v7,v8,v9,some (.ref lf),V2]/\ao HD HF/\HF lf=some (.lst uf)/\uf.length=i/\aO iD HF uf) ⟨[],_,rfl,ae Vr,aa,rfl,aO.nil⟩ (λi Z HF _ ⟨_,_,_,s,_⟩=>ar.of (s _ _ VL)) ?_ ?_
     . rintro i x Z HF hx ⟨uf,V2,rfl,sF,Vd,WS,tdf⟩;obtain⟨r,⟨p,rfl,hp⟩,hr⟩:=Tr x (aak hx);have hi:=(List.getElem?_eq_some_iff.mp hx).1;have hpF:=sF _ _ hp;have hlsF:=sF _ _ Tc;clear sE sD VL Tc hd hp;by_cases hc:(∃ t,r=.call t)∨∃ t,r=.dr t
       . obtain⟨t0, ht0⟩ : ∃ t, r = .call t ∨ r = .dr t := by
           rcases hc with ⟨t,e⟩ | ⟨t,e⟩
           . exact⟨t,.inl e⟩
           . exact⟨t,.inr e⟩
         have Uz : 0<m:=by lia
         have z0:=abj (-1 - t0) (show m≠0 by lia);have z1:=abb (-1 - t0) Uz;obtain⟨tv,htv,hatv⟩:=eB (ns:=ts) (i:=(-1 - t0)%m) z0 (by lia);have htv2:=htb tv htv;rcases ht0 with rfl | rfl
         . have hpF : HF p = some (.tup [.str "call", .int t0]) := hpF;symm;refine eA (ar.of aa) rfl rfl ?_;rw[show eY (V.str (aae "call")) [V.str (aae "call"),V.str (aae "jump")]=true from by nofun];symm;rename_i l9 n9 t9 nt9;have tZ:aO iD (upd (upd (upd HF l9 (.lst [.str "call",.str "jump"])) t9 (.tup [.str "call",.int tv])) lf (.lst (uf++[.ref t9]))) (uf++[.ref t9]):=((tdf.same ((ae n9).trans (ae nt9))).app (aO.one (r:=.call tv) ⟨t9,rfl,aa⟩ (by walk_at"A"))).off (ai (ai Vd n9) nt9);exact⟨uf++[.ref t9],_,rfl,bC (sF.trans ((ae n9).trans (ae nt9))) Vr,aa,by rw[aab,WS];rfl,tZ⟩
         . have hpF : HF p = some (.tup [.str "jump", .int t0]) := hpF;symm;refine eA (ar.of aa) rfl rfl ?_;rw[show eY (V.str (aae "jump")) [V.str (aae "call"),V.str (aae "jump")]=true from by nofun];symm;rename_i l9 n9 t9 nt9;have tZ:aO iD (upd (upd (upd HF l9 (.lst [.str "call",.str "jump"])) t9 (.tup [.str "jump",.int tv])) lf (.lst (uf++[.ref t9]))) (uf++[.ref t9]):=((tdf.same ((ae n9).trans (ae nt9))).app (aO.one (r:=.dr tv) ⟨t9,rfl,aa⟩ (by walk_at"A"))).off (ai (ai Vd n9) nt9);exact⟨uf++[.ref t9],_,rfl,bC (sF.trans ((ae n9).trans (ae nt9))) Vr,aa,by rw[aab,WS];rfl,tZ⟩
       . have WR : eY (V.str r.eU.1) [V.str (aae "call"), V.str (aae "jump")] = false := by
           cases r <;> first | exact absurd (.inl ⟨_,rfl⟩) hc | exact absurd (.inr ⟨_,rfl⟩) hc | (simp only[Rw.eU];nofun)
         have hokr:iD r:=by
           rcases hr with z | z | z
           . exact z
           . exact absurd (.inl z) hc
           . exact absurd (.inr z) hc
         symm;refine vy (aI.of hpF) (v:=.str r.eU.1) (show cT (V.str r.eU.1::r.eU.2.map V.int) ((0:Nat):Int)=_ from bG rfl) ?_;symm;refine eA (ar.of aa) rfl rfl ?_;rw[WR];symm;rename_i l9 n9;exact⟨uf++[.ref p],_,rfl,bC (sF.trans (ae n9)) Vr,aa,by rw[aab,WS];rfl,((tdf.same (ae n9)).app (aO.one (r:=r) ⟨p,rfl,ai hpF n9⟩ hokr)).off (ai Vd n9)⟩
     . rintro Z HF ⟨uf,V2,rfl,sF,Vd,WS,tdf⟩;have hdF:=sF _ _ hd;symm;rename_i tt TF;exact q tt lf d uf lns _ ((sD.trans sF).trans (ae TF)) aa (aG sD Vr) (aG ((ae We).trans (ae VC)) nd) (λz=>by rw[z,hdF] at Vd;cases Vd) (ai Vd TF) (by lia) (by lia) (tdf.same (ae TF)) (ai hdF TF) WO
theorem gG (r:Rw):r.mY.lookup ("keeps" : Str)=none:=by
 cases r <;> (show abC _ (au _ _ _)=none;walk_at"nolk")
theorem fe (T:TX)(hr:r.here):ME 3 (r.cls a) "keeps" (dD a r):=by
 cases r
 . exact(zZ T _ _).mono (by decide)
 . exact(yA T _ _).mono (by decide)
 . exact(A4 T _ _ _).mono (by decide)
 . exact hr.elim
 . exact hr.elim
 . exact hr.elim
 . exact(yT T _).mono (by decide)
 . exact(uO T _).mono (by decide)
 . exact(Ab T _ _).mono (by decide)
 . exact(Ah T _ _).mono (by decide)
 . exact(yP T _).mono (by decide)
 . exact(vK T _ _).mono (by decide)
 . exact(yL T _).mono (by decide)
 . exact(yH T _).mono (by decide)
 . exact(yl T _).mono (by decide)
theorem uR (T:TX):iJ P w K mg base (eu P w) 4 "callers" (Lo K a):=by
 refine G7 3 T.DG nj ?_ ?_;ac_nf
 . obtain⟨x, dx, l, d, pk, pp, fM, ev, es, kn0, pl0, rfl, hx, hl, To, hk, hkn0, S6, hpo0, hn0, q, hE⟩ := h;have hel:=To.1;walk_at"h";have nd:=nj.nd;refine' aW ?_ ?_;walk_at"x";walk_at"tS";walk_at"n";walk_at"x";walk_at"tS";walk_at"n";walk_at"x";walk_at"tS";walk_at"n";walk_at"x";walk_at"tS";walk_at"n";walk_at"x";walk_at"tS";walk_at"n"
   (with_reducible refine' jX ?_ ?_ ?_)
   exact adA;walk_at"y";walk_at"tT";walk_at"n";walk_at"f";walk_at"y";walk_at"tT";walk_at"m";exact(kD (gE T) (hr.mono (by decide)) rfl (aj (pv 6) aD));exact cL;walk_at"n";exact(c8 (i:=9) nj.nd rfl (Or.inl rfl) (bp (sJ T) (hr.mono (by decide)) Iq rfl (aj (cD (K:=K) rfl (pv 0)) (aj (pv 6) (aj (pv 7) (aj (pv 8) aD))))));walk_at"n";walk_at"x";walk_at"tS";walk_at"n";walk_at"x";walk_at"tS";walk_at"n";walk_at"x";walk_at"tS";walk_at"m";walk_at"x";walk_at"tS";walk_at"m";walk_at"x";walk_at"tS";walk_at"s";unfold fR at hx;symm;rename_i pt hpt p1 T9 p2 UT;have n1:=bw T9;have n2:=bw UT;have n3:=bw n2.1;generalize hW:bq es 5000 fM kn0 pl0=W at q hE
   refine ⟨λm Z H'=>∃ (at':Int) (kn:List V) (pl:List Int) (vs:List V) (ds:List bM) (pk' Tu:Addr) (cv:Option V),ds.length+m=5000/\W=(ds++(bq es m at' kn pl).1,(bq es m at' kn pl).2)/\Z = [some (.ref x),some (.int fM),some (.ref pk),some (.ref pp),some (.int ev.length),some (.ref pt),some (.int at'),some (.ref pk'),some (.ref Tu),cv]/\ao H H'/\H' pt=some (.lst vs)/\a8 H' vs ds /\
     H' pk'=some (.lst kn)/\tO kn/\H' Tu=some (.lst (pl.map V.int))/\fN pl/\near at'/\pt≠pk'/\pt≠Tu,⟨5000,fM,kn0,pl0,[],[],p1,p2,none,rfl,hW.symm.trans (K5 _),rfl,by walk_at"same",by bv_omega,aan,by bv_omega,hkn0,by bv_omega,hpo0,hn0,n1.2.symm,n3.2.symm⟩,?_⟩
   clear hW;rintro m Z H' ⟨at',kn,pl,vs,ds,pk',Tu,cv,hf,hw,rfl,sH,hvs,Ve,hk',hkn,hl',hpo,Tf,ne1,ne2⟩;have S4:=Ve.len;by_cases hhome:at'=ev.length
   . rw[xK (by lia)] at hw;subst hhome;symm;rw[aaM] at hw;subst hw;exact q rfl _ _ _ sH hpt hvs Ve
   have T6:at'≠es.length:=by lia
   symm;refine⟨_,λZ' H' h=>h,?_⟩;by_cases hfull:m=0
   . symm;refine⟨fg (by have:=Tf.1;lia) (by have:=Tf.2;lia),λd hd=>?_⟩;exact hE at' (by rw[hw,yf T6 (.inl hfull)]) d _ (by walk_at"same") aa
   obtain⟨m,rfl⟩:∃ m',m=m'+1:=⟨m - 1,by lia⟩
   symm;refine⟨_,_,_,at',ev,es,kn,pl,rfl,by walk_at"sql",To.same (by walk_at"same"),by walk_at"sql",hkn,by walk_at"sql",hpo,Tf,λc v H2 Tg s2 U4=>?_,λTg d H2 s2 hd=>?_⟩
   . obtain ⟨t, qq, rfl, ht, hqq⟩ := id U4;obtain ⟨o1,o2,o3,o4⟩:=K8 hkn hpo Tg;have hvs2:=s2 _ _ hvs;have net:pt≠t:=λz=>by subst z;rw [hvs2] at ht;cases ht
     have neq:pt≠qq:=λz=>by subst z;rw[hvs2] at hqq;cases hqq
     have sH2:ao H H2:=sH.trans s2;have UA:=s2 _ _ hk';have UG:=s2 _ _ hl';have hcv2:a8 H2 vs ds:=Ve.same s2;symm;rw[fU _ o3];refine⟨m,by lia,c.r,iq c,pl.take c.n.toNat,vs++[.ref t],ds++[c],_,_,_,by rw[aab,aaF];lia,Fp T6 Tg hw,rfl,by walk_at"same",by bv_omega,?_,by bv_omega,o2,by bv_omega,hpo.take _,o1,by walk_at"ne",by walk_at"ne"⟩;refine a8.same (H:=upd H2 pt (.lst (vs++[.ref t]))) (by walk_at"same") (a8.snoc ?_ ?_)
     . exact⟨t,qq,rfl,by rw[ak net.symm];exact ht,by rw[ak neq.symm];exact hqq⟩
     . exact a8.upd hvs2 hcv2
   . exact hE at' (by rw[hw,yf T6 (.inr Tg)]) d H2 (sH.trans s2) hd
theorem jv (T:TX):FE 4 "way_complaint" (Mr K a):=by
 refine bc 3 T.sQ jC ?_ ?_;ac_nf
 . obtain ⟨x, p, l, c, r, e, ev, es, rfl, ⟨dx, hx⟩, ok, hh, he, nn, e0, e4, hs, hl, To, hnn, q⟩ := h;obtain ⟨qe,h1,h2⟩:=id he;unfold fE at q;walk_at "h";have nd:=jC.nd;refine' aW ?_ ?_;walk_at "tS";walk_at "c";walk_at "c";walk_at "c";walk_at "n";walk_at "g";exact (Pj (K:=K) rfl rfl T.yV (aj (gb (v:=.ref a.iz) rfl T.rm rfl) (aj (bp (gB T) (hr.mono (by decide)) b_ rfl (aj (pv 1) aD)) (aj (bp (gB T) (hr.mono (by decide)) b_ rfl (aj (pv 4) aD)) aD))));walk_at "tG";walk_at "tB";exact λ_=>rfl;walk_at "m";walk_at "tS";walk_at "s";symm;refine ⟨c,l,ev,rfl,ar.of hl,?_⟩;rw [To.1];by_cases hc : 0<=c/\c<(es.length:Int)
   . rw[decide_eq_true hc];rw[if_pos hc] at q;obtain⟨v,oe,TU,Uc,hmem,hv⟩:=To.at hc.1 hc.2;rw[Uc,Option.join_some] at q;symm;cases oe with
     | none =>
       cases hv
       symm;exact q _ (ao.refl _)
     | some t =>
       obtain⟨pt,rfl,qt,t1,t2⟩:=id hv;have tn:=hnn t hmem;symm;refine aY hx (kX _) ((iW T hh).mono (by decide)) ?_;symm;refine⟨x,e.h,rfl,⟨dx,hx⟩,?_⟩;obtain⟨z,hg⟩:=Option.isSome_iff_exists.mp hs;have q:∀ H',ao H H'->Q (oV (if r.aE e.h=some t.h then nv r e t else some .aE)) H':=q;rw[hg] at q ⊢;show gm K (V.int t.h) (V.int z) _ _;symm;refine gL (λhz=>?_) (λhz=>?_)
       . rw[if_neg (λy=>hz (aax y).symm)] at q;symm;exact q _ (ao.refl _)
       rw[if_pos (by rw[hz])] at q;symm;refine⟨p,e,rfl,he,λta nta=>?_⟩;symm;refine⟨pt,t,rfl,iy.same ⟨qt,t1,t2⟩ (ae nta),λtb ntb=>?_⟩;symm;have sX:ao H (upd (upd H ta (.tup (e.dG.map V.int))) tb (.tup (t.dG.map V.int))):=(ae nta).trans (ae ntb);have ha:aI K (upd (upd H ta (.tup (e.dG.map V.int))) tb (.tup (t.dG.map V.int))) ta (e.dG.map V.int):=aI.of (ai aa ntb);have hb:aI K (upd (upd H ta (.tup (e.dG.map V.int))) tb (.tup (t.dG.map V.int))) tb (t.dG.map V.int):=aI.of aa;clear nta ntb;generalize (upd (upd H ta (.tup (e.dG.map V.int))) tb (.tup (t.dG.map V.int)))=HX at sX ha hb ⊢;refine⟨a.iz,ta,tb,_,_,_,rfl,T.lu _,ha,hb,?_⟩;unfold nv at q;refine IH (xs:=[.str "back",.int 4,.int 5,.int 6]) (ys:=e.dG.map V.int) (zs:=t.dG.map V.int) rfl rfl (λi Z H2=>(∃ u1 u2 u3,Z = [some (.ref x),some (.ref p),some (.int c),some (.ref l),some (.ref pt),u1,u2,u3])/\ao HX H2/\(0<i->Bt.wo t.b.toNat (r.keep e.b.toNat e.h)=0)/\(1<i->Bt.wo t.v4.toNat (r.keep e.v4.toNat e.h)=0)/\(2<i->Bt.wo t.v5.toNat (r.keep e.v5.toNat e.h)=0)/\(3<i->Bt.wo t.v6.toNat (r.keep e.v6.toNat e.h)=0)) ⟨⟨_,_,_,rfl⟩,ao.refl _,(λz=>absurd z (by decide)),(λz=>absurd z (by decide)),(λz=>absurd z (by decide)),(λz=>absurd z (by decide))⟩ (λi Z H2 _ ⟨_,s2,_⟩=>⟨T.lu _,cm s2 ha,cm s2 hb⟩) ?_ ?_
       . rintro i v1 v2 v3 T' Z H2 w1 w2 w3 ⟨⟨u1,u2,u3,rfl⟩,s2,z0,z1,z2,z3⟩ nT;have Va:=(sX.trans s2) _ _ hx;have h12:=cm (sX.trans s2) h1;have s0:=sX.trans s2;clear sX ha hb t1 t2 h1 h2 hl To hv he
         match i,w1,w2,w3 with
         | 0,w1,w2,w3 =>
           cases w1;cases w2;cases w3
           have eb:aaK t.b (aav ((r.keep e.b.toNat e.h:Nat):Int))=((Bt.wo t.b.toNat (r.keep e.b.toNat e.h):Nat):Int):=by rw[<- fT,aa2 tn.1]
           symm;refine aY (ai Va nT) (gG _) ((fe T hh).mono (by decide)) ?_;symm;refine⟨x,e.b.toNat,e.h,by rw[aa2 nn.1],⟨dx,ai Va nT⟩,ok,e0,e4,hs,?_⟩;symm;rw[eb];by_cases hw:Bt.wo t.b.toNat (r.keep e.b.toNat e.h)=0
           . rw[hw, show(((0 : Nat) : Int) != 0) = false from rfl];symm;exact⟨⟨_,_,_,rfl⟩,s2.trans (ae nT),(λ_=>rfl),(λz=>absurd z (by decide)),(λz=>absurd z (by decide)),(λz=>absurd z (by decide))⟩
           . rw[show((((Bt.wo t.b.toNat (r.keep e.b.toNat e.h) : Nat) : Int)) != 0) = true from by simp[hw]];symm;rw[if_pos hw] at q;exact q _ (s0.trans (ae nT))
         | 1,w1,w2,w3 =>
           cases w1;cases w2;cases w3
           have eb:aaK t.v4 (aav ((r.keep e.v4.toNat e.h:Nat):Int))=((Bt.wo t.v4.toNat (r.keep e.v4.toNat e.h):Nat):Int):=by rw[<- fT,aa2 tn.2.1]
           symm;refine aY (ai Va nT) (gG _) ((fe T hh).mono (by decide)) ?_;symm;refine⟨x,e.v4.toNat,e.h,by rw[aa2 nn.2.1],⟨dx,ai Va nT⟩,ok,e0,e4,hs,?_⟩;symm;rw[eb];by_cases hw:Bt.wo t.v4.toNat (r.keep e.v4.toNat e.h)=0
           . rw[hw, show(((0 : Nat) : Int) != 0) = false from rfl];symm;exact⟨⟨_,_,_,rfl⟩,s2.trans (ae nT),(λ_=>z0 (by decide)),(λ_=>rfl),(λz=>absurd z (by decide)),(λz=>absurd z (by decide))⟩
           . rw[show((((Bt.wo t.v4.toNat (r.keep e.v4.toNat e.h) : Nat) : Int)) != 0) = true from by simp[hw]];symm;rw[if_neg (λz=>z (z0 (by decide))),if_pos hw] at q;exact q _ (s0.trans (ae nT))
         | 2,w1,w2,w3 =>
           cases w1;cases w2;cases w3
           have eb:aaK t.v5 (aav ((r.keep e.v5.toNat e.h:Nat):Int))=((Bt.wo t.v5.toNat (r.keep e.v5.toNat e.h):Nat):Int):=by rw[<- fT,aa2 tn.2.2.1]
           symm;refine aY (ai Va nT) (gG _) ((fe T hh).mono (by decide)) ?_;symm;refine⟨x,e.v5.toNat,e.h,by rw[aa2 nn.2.2.1],⟨dx,ai Va nT⟩,ok,e0,e4,hs,?_⟩;symm;rw[eb];by_cases hw:Bt.wo t.v5.toNat (r.keep e.v5.toNat e.h)=0
           . rw[hw, show(((0 : Nat) : Int) != 0) = false from rfl];symm;exact⟨⟨_,_,_,rfl⟩,s2.trans (ae nT),(λ_=>z0 (by decide)),(λ_=>z1 (by decide)),(λ_=>rfl),(λz=>absurd z (by decide))⟩
           . rw[show((((Bt.wo t.v5.toNat (r.keep e.v5.toNat e.h) : Nat) : Int)) != 0) = true from by simp[hw]];symm;rw[if_neg (λz=>z (z0 (by decide))),if_neg (λz=>z (z1 (by decide))),if_pos hw] at q;exact q _ (s0.trans (ae nT))
         | 3,w1,w2,w3 =>
           cases w1;cases w2;cases w3
           have eb:aaK t.v6 (aav ((r.keep e.v6.toNat e.h:Nat):Int))=((Bt.wo t.v6.toNat (r.keep e.v6.toNat e.h):Nat):Int):=by rw[<- fT,aa2 tn.2.2.2]
           symm;refine aY (ai Va nT) (gG _) ((fe T hh).mono (by decide)) ?_;symm;refine⟨x,e.v6.toNat,e.h,by rw[aa2 nn.2.2.2],⟨dx,ai Va nT⟩,ok,e0,e4,hs,?_⟩;symm;rw[eb];by_cases hw:Bt.wo t.v6.toNat (r.keep e.v6.toNat e.h)=0
           . rw[hw, show(((0 : Nat) : Int) != 0) = false from rfl];symm;exact⟨⟨_,_,_,rfl⟩,s2.trans (ae nT),(λ_=>z0 (by decide)),(λ_=>z1 (by decide)),(λ_=>z2 (by decide)),(λ_=>rfl)⟩
           . rw[show((((Bt.wo t.v6.toNat (r.keep e.v6.toNat e.h) : Nat) : Int)) != 0) = true from by simp[hw]];symm;rw[if_neg (λz=>z (z0 (by decide))),if_neg (λz=>z (z1 (by decide))),if_neg (λz=>z (z2 (by decide))),if_pos hw] at q;exact q _ (s0.trans (ae nT))
         | i+4,w1,w2,w3=>simp at w1
       . rintro Z H2 ⟨⟨u1,u2,u3,rfl⟩,s2,z0,z1,z2,z3⟩;have z0:=z0 (by decide);have z1:=z1 (by decide);have z2:=z2 (by decide);have z3:=z3 (by decide);rw[if_neg (λz=>z z0),if_neg (λz=>z z1),if_neg (λz=>z z2),if_neg (λz=>z z3)] at q;symm;exact q _ (sX.trans s2)
   . rw[decide_eq_false hc];rw[if_neg hc] at q;symm;exact q _ (ao.refl _)
theorem A_ (T:TX):FE 4 "places_of" (Qy K a):=by
 refine bc 3 T.zB gO ?_ ?_;ac_nf
 . obtain ⟨c, ly, lh, prs, rs, ls, hs, first, rfl, hc, Tn, az, h0, Ti, Tc, hwy, hlh, HO', hf, q⟩ := h;have S6:=Tn.1;have hhl:=HO'.len;walk_at "h";have nd:=gO.nd;refine' aW ?_ ?_;exact (fu (i:=4) gO.nd rfl rfl (own:=["row"]) (fr:=[]) rfl ⟨rfl,(by walk_at "clok"),(by walk_at "frok"),rfl,(by nofun),(by nofun),rfl⟩ (dP (K:=K) rfl (pv 0)) (λ_ _ _ _=>(bS (i:=0) (show aa7 [("row" : Str)] from by nofun) rfl (Or.inl rfl))) (λ_ _ _ _=>c9) (λ_ _ _ _=>j7));walk_at "c";walk_at "c";walk_at "n"
   (with_reducible refine' jX ?_ ?_ ?_)
   exact acx;exact(dO KA (cJ E9 rfl T.jc jf (aj (pv 5) aD)) aX (dZ _));walk_at"n";exact(c8 (i:=6) gO.nd rfl (Or.inl rfl) (qc (Ef rfl) rfl T.zC Ba (aj (pv 5) aD)));walk_at"c";walk_at"m";walk_at"tS";walk_at"m";walk_at"tS";walk_at"s";ac_rfl;refine fW (K:=K) (a:=c) (xs:=prs.map V.ref) (λi ys Z H1=>(∃ v,Z = [v])/\ao H H1/\ys=(aau i (none:Option Nat)).map cy) ⟨⟨_,rfl⟩,ao.refl _,rfl⟩ (λi ys Z H1 hi ⟨_,s1,e⟩=>⟨ar.of (s1 _ _ hc),by rw[e,aac,aaB,aaJ];rw[aac] at hi;lia⟩) ?_ ?_
   . rintro i v ys Z H1 hv ⟨⟨u,rfl⟩,s1,rfl⟩;ac_rfl;exact⟨⟨_,rfl⟩,s1,by rw[List.replicate_succ',aaE];rfl⟩
   rintro ys Z H1 ⟨_,s1,rfl⟩ lx WI;rw[aac,S6];have nlxH:H lx=none:=aG s1 WI
   have TC : ∀ {ss : List (Option Nat)} {ks : List Nat} {HD : Hp} {dc : Addr} {n p : Nat} {Ub : Nat -> Prop} {R : Hp -> Prop}, PI rs ls hs first ss Ub -> ao H HD -> HD lx = some (.lst (ss.map cy)) -> HD dc = some (.dK (bP ks)) -> ks.Nodup -> H dc = none -> (∀ k ∈ ks, ∃ s, ss[k]? = some (some s)) -> (∃ h, hs[n]? = some (some h)) -> p < 2 ^ 4100 -> (∀ g, Cons rs ls hs first g -> Sub (g n) p) ->
       (∀ Tv TQ HE,PI rs ls hs first Tv (λi=>Ub i∨i∈TQ)->fB ss Tv->(∀ (i s:Nat),ss[i]? = some (some s)->Tv[i]? = some (some s)∨i∈TQ)->ao H HE->(∀ b o,HD b=some o->b≠lx->b≠dc->HE b=some o)->HE lx=some (.lst (Tv.map cy))->HE dc=some (.dK (bP TQ))->TQ.Nodup->(∀ k∈ks,k∈TQ)->(∀ k∈TQ,∃ s,Tv[k]? = some (some s))->(∃ s,Tv[n]? = some (some s)/\Sub s p)->bZ Tv<=bZ ss->(TQ=ks∨bZ Tv<bZ ss)->R HE) ->
       zg [.ref lx,.ref dc,.int (n:Int),.int (p:Int)] HD (λ_ HE=>R HE) E0:=by
     intro ss ks HD dc n p Ub R I s2 hx hd UE ndc hkk hh hp hg qq;have hn:n<ss.length:=by
       obtain⟨h,e⟩:=hh;rw[I.len,<- hhl];exact(List.getElem?_eq_some_iff.mp e).1
     have ho:ss[n]? = some ss[n]:=aaa hn;have hkl:ks.length<=2000:=by
       have h1:=vM rs.length ks UE λk hk=>by
         obtain⟨s,e⟩:=hkk k hk;rw[<- I.len];exact(List.getElem?_eq_some_iff.mp e).1
       lia
     refine⟨lx,dc,n,p,ss,ks,ss[n],rfl,hx,hd,by rw[I.len];exact Ti,hkl,UE,ho,λe=>?_,λe=>?_⟩
     . refine qq ss ks HD (I.weak λi k => .inl k) (fB.refl _) (λi s e => .inl e) s2 (λb o e _ _ => e) hx hd UE (λk hk => hk) hkk ⟨je ss[n] p, by rw[ho, <- e], ?_⟩ (aag _) (.inl rfl);cases ss[n] with
       | none=>exact Sub.refl p
       | some s=>exact Sub.right s p
     . have WH : lx ≠ dc := λz => by rw [z, hd] at hx; cases hx
       refine qq _ (ki ks n) _ ((I.narrow ho hh hp hg).weak λi k=>?_) (Az ho) (λi s e1=>?_) (λb o e1=>?_) (λb o e1 n1 n2=>by rw[ak n2,ak n1];exact e1) (by rw[ak WH];exact aa) aa (Lq UE n) (λk hk=>by unfold ki;split;exact hk;exact aa6 _ hk) (λk hk=>?_) ⟨_,aaO hn,?_⟩ (adp (Dc ho e hp)) (.inr (Dc ho e hp))
       . rcases k with k | k
         . exact .inl k
         . refine .inr ?_;unfold ki;split
           . rename_i z;rw[k];exact z
           . rw[k];exact aay _ (List.mem_singleton.mpr rfl)
       . by_cases z:n=i
         . refine .inr ?_;unfold ki;split
           . rename_i z2;rw[<- z];exact z2
           . rw[<- z];exact aay _ (List.mem_singleton.mpr rfl)
         . exact .inl (by rw[aaP z];exact e1)
       . rw[ak (ag e1 ndc),ak (ag e1 nlxH)];exact s2 _ _ e1
       . by_cases z:n=k
         . rw[<- z];exact⟨_,aaO hn⟩
         . rw[aaP z];refine hkk k ?_;unfold ki at hk;split at hk
           . exact hk
           . rcases List.mem_append.mp hk with hk | hk
             . exact hk
             . exact absurd (List.mem_singleton.mp hk).symm z
       . cases ss[n] with
         | none=>exact Sub.refl p
         | some s=>exact Sub.right s p
   ac_rfl;rename_i dc ndc;have Uu:∀ (i s:Nat),(aau rs.length (none:Option Nat))[i]? ≠ some (some s):=λi s e=>by rw[abI] at e;split at e <;> cases e
   have I0:PI rs ls hs first (aau rs.length (none:Option Nat)) (λ_=>False):=⟨aaB,λi s e=>absurd e (Uu i s),λi s e=>absurd e (Uu i s),λi _ s h r e=>absurd e (Uu i s),λg _ i s e=>absurd e (Uu i s)⟩
   refine TC (ks:=[]) (n:=0) (p:=first) I0 (s1.trans ((ae WI).trans (ae ndc))) (ai aa ndc) aa adx (aG s1 (h_ ndc).1) (λk hk=>by cases hk) ⟨0,HO'.start⟩ hf (λg cg=>cg.1) λTv TQ HE I2 _ _ s2 _ Va UJ nd2 _ hkk2 W8 _ _=>?_;have ndcH:H dc=none:=aG s1 (h_ ndc).1;clear I0 s1 WI ndc Uu;ac_rfl;refine⟨λj Z HQ=>∃ (ss:List (Option Nat)) (ks:List Nat) (dc:Addr) (u6 u7 u8 u9:Option V),ao H HQ/\Z = [some (.ref c),some (.ref ly),some (.ref lh),some (.int (first:Int)),some (.ref lx),some (.ref dc),u6,u7,u8,u9]/\HQ lx=some (.lst (ss.map cy))/\HQ dc=some (.dK (bP ks))/\ks.Nodup/\H dc=none/\(∀ k∈ks,∃ s,ss[k]? = some (some s))/\PI rs ls hs first ss (λi=>i∈ks)/\(∃ s0,ss[0]? = some (some s0)/\Sub s0 first)/\j=2*bZ ss+(if ks=[] then 0 else 1),⟨_,Tv,TQ,dc,_,_,_,_,s2,rfl,Va,UJ,nd2,ndcH,hkk2,I2.weak (λi k=>k.resolve_left (λz=>z)),W8,rfl⟩,?_⟩;clear s2 Va UJ nd2 hkk2 I2 W8;rintro j Z HQ ⟨ss,ks,dc,u6,u7,u8,u9,s2,rfl,hx,hd,UE,ndc',hkk,I,st,rfl⟩;ac_rfl;refine⟨dc,bP ks,rfl,hd,?_⟩;have hkl:=vM rs.length ks UE λk hk=>by
     obtain⟨s,e⟩:=hkk k hk;rw[<- I.len];exact(List.getElem?_eq_some_iff.mp e).1
   have htl:(bP ks).length=ks.length:=by unfold bP;rw[aac]
   rw[htl];by_cases hz:ks=[]
   . subst hz;ac_rfl;exact q lx ss HQ s2 nlxH hx ⟨I.weak (λi k=>by cases k),st⟩
   . have U3 : 0 < ks.length := List.length_pos_iff.mpr hz;rw [if_neg hz];ac_rfl;refine ⟨_,λZ' H' h=>h,?_⟩;ac_rfl;refine LW hd (Gy ks) λlw VB=>?_;ac_rfl;rename_i dn ndn;have Wc:H lw=none:=aG s2 VB;have ndnH:H dn=none:=aG s2 (h_ ndn).1;have nwd:lw≠dn:=λz=>(h_ ndn).2 z.symm;have nwx:lw≠lx:=λz=>by rw [z,hx] at VB;cases VB
     have ndx:dn≠lx:=λz=>by have:=(h_ ndn).1;rw[z,hx] at this;cases this
     have s3:=s2.trans ((ae (o:=.lst ((ks.map λk:Nat=>(k:Int)).map V.int)) VB).trans (ae (o:=.dK []) ndn));have hx3:=ai (o:=.dK []) (ai (o:=.lst ((ks.map λk:Nat=>(k:Int)).map V.int)) hx VB) ndn;have hw3:=ai (o:=.dK []) (aa (H:=HQ) (a:=lw) (o:=.lst ((ks.map λk:Nat=>(k:Int)).map V.int))) ndn;have WV:(upd (upd HQ lw (.lst ((ks.map λk:Nat=>(k:Int)).map V.int))) dn (.dK [])) dn=some (.dK (bP [])):=aa;generalize (upd (upd HQ lw (.lst ((ks.map λk:Nat=>(k:Int)).map V.int))) dn (.dK []))=HF at s3 hx3 hw3 WV ⊢;clear s2 hx hd ndn VB;refine fi (K:=K) (a:=lw) (xs:=(ks.map λk:Nat=>(k:Int)).map V.int) (λi Z HD=>∃ (Tv:List (Option Nat)) (TQ:List Nat) (u7 u8 u9:Option V),ao H HD/\HD lw=some (.lst ((ks.map λk:Nat=>(k:Int)).map V.int))/\Z = [some (.ref c),some (.ref ly),some (.ref lh),some (.int (first:Int)),some (.ref lx),some (.ref dn),some (.ref lw),u7,u8,u9]/\HD lx=some (.lst (Tv.map cy))/\HD dn=some (.dK (bP TQ))/\TQ.Nodup/\(∀ k∈TQ,∃ s,Tv[k]? = some (some s))/\PI rs ls hs first Tv (λi'=>i'∈TQ∨i'∈ks.drop i)/\fB ss Tv/\(∃ s0,Tv[0]? = some (some s0)/\Sub s0 first)/\bZ Tv<=bZ ss/\(TQ=[]∨bZ Tv<bZ ss)) ⟨ss,[],_,_,_,s3,hw3,rfl,hx3,WV,adx,(λk hk=>by cases hk),I.weak (λi k=>.inr k),fB.refl _,st,aag _,.inl rfl⟩ (λi Z HD _ ⟨_,_,_,_,_,_,e,_⟩=>ar.of e) ?_ ?_
     . rintro i v Z HD hv ⟨Tv,TQ,u7,u8,u9,s4,hw4,rfl,hx4,hd4,nd4,hkk4,I4,le4,st4,tt4,hor4⟩;obtain⟨k,hki,rfl⟩:∃ k:Nat,ks[i]? = some k/\v=.int (k:Int):=by
         rw[aah,aah] at hv;obtain⟨p,hp,e⟩:=Option.map_eq_some_iff.mp hv;obtain⟨k,hk,e2⟩:=Option.map_eq_some_iff.mp hp;exact⟨k,hk,by rw[<- e,<- e2]⟩
       have hil:=(List.getElem?_eq_some_iff.mp hki).1;have hdrop:ks.drop i=k::ks.drop (i+1):=by
         rw[<- (List.getElem?_eq_some_iff.mp hki).2,List.getElem_cons_drop]
       obtain⟨s0',e0'⟩:=hkk k (aak hki);obtain⟨s,hsk,_⟩:=le4 k s0' e0';obtain⟨h,hhk⟩:=I4.rd k s hsk;have hkl2:k<rs.length:=by rw[<- hhl];exact(List.getElem?_eq_some_iff.mp hhk).1
       have Vb:rs[k]? = some rs[k]:=aaa hkl2;have hpk:prs[k]? = some prs[k]:=aaa (by rw[S6];exact hkl2);have Tb:=Tn.2 k _ _ hpk Vb;have Uv:=az _ (aaY hkl2);generalize rs[k]=r at Vb Tb Uv;generalize prs[k]=p0 at hpk Tb;obtain⟨h',hh',hcl'⟩:=HO'.cl k h r hhk Vb;have Vw:=PF az (HO'.rh k h hhk);have WQ:=Lf (r:=r) Uv.1 Vw.1 Vw.2 (I4.bd k s hsk);obtain⟨T5,hwl0,hwl2,hwl3⟩:=id hwy;have hwk:T5[k]? = some T5[k]:=aaa (by rw[hwl2];exact hkl2);have Um:=hwl3 k _ hwk;generalize T5[k]=pw at hwk Um;have TU:cT (prs.map V.ref) (k:Int)=some (.ref p0):=bG (by rw[aah,hpk];rfl);have hat2:cT (hs.map bN) (k:Int)=some (.int h):=bG (by rw[aah,hhk];rfl);have hat3:cT (T5.map V.ref) (k:Int)=some (.ref pw):=bG (by rw[aah,hwk];rfl);have hat4:cT (Tv.map cy) (k:Int)=some (.int (s:Int)):=bG (by rw[aah,hsk];rfl);have hc4:=s4 _ _ hc;have T2:=s4 _ _ hlh;have hwl4:=s4 _ _ hwl0;have hway4:=s4 _ _ Um;have Wy:=Tb.same s4;obtain⟨dx,UW⟩:=id Wy;ac_rfl;refine aY UW (gG _) ((fe T Uv.2).mono (by decide)) ?_;ac_rfl;refine⟨p0,s,h,rfl,Wy,Uv.1,Vw.1,Vw.2,by rw[hh'];rfl,?_⟩;have hcg:∀ g,Cons rs ls hs first g->∀ w∈dB rs ls k,Sub (g w.toNat) (r.keep s h):=λg cg w hw=>((cg.2 k h r hhk Vb).1 w hw).trans (IT r h (I4.up g cg k s hsk))
       generalize hkept:r.keep s h=kept at WQ hcg ⊢;clear hv hx3 hw3 WV s3;ac_rfl;refine fi (K:=K) (a:=pw) (xs:=(dB rs ls k).map V.int) (λm Z HE=>∃ (Vp:List (Option Nat)) (WJ:List Nat) (u9:Option V),ao H HE/\HE lw=some (.lst ((ks.map λk:Nat=>(k:Int)).map V.int))/\Z = [some (.ref c),some (.ref ly),some (.ref lh),some (.int (first:Int)),some (.ref lx),some (.ref dn),some (.ref lw),some (.int (k:Int)),some (.int (kept:Int)),u9]/\HE lx=some (.lst (Vp.map cy))/\HE dn=some (.dK (bP WJ))/\WJ.Nodup/\(∀ k∈WJ,∃ s,Vp[k]? = some (some s))/\PI rs ls hs first Vp (λi'=>i'∈WJ∨i'∈ks.drop i)/\fB Tv Vp/\(∀ (i' s':Nat),Tv[i']? = some (some s')->Vp[i']? = some (some s')∨i'∈WJ)/\(∀ w∈(dB rs ls k).take m,∃ s',Vp[w.toNat]? = some (some s')/\Sub s' kept)/\bZ Vp<=bZ Tv/\(WJ=TQ∨bZ Vp<bZ Tv)) ⟨Tv,TQ,_,s4,hw4,rfl,hx4,hd4,nd4,hkk4,I4,fB.refl _,λi' s' e=>.inl e,(λw hw=>by rw[List.take_zero] at hw;cases hw),aag _,.inl rfl⟩ (λm Z HE _ ⟨_,_,_,s5,_⟩=>ar.of (s5 _ _ Um)) ?_ ?_
       . rintro m v Z HE hv ⟨Vp,WJ,u9,s5,hw5,rfl,hx5,WU,nd5,hkk5,I5,le5,un5,cl5,tt5,hor5⟩;obtain⟨w,hxw,rfl⟩:∃ w,(dB rs ls k)[m]? = some w/\v=.int w:=by
           rw[aah] at hv;obtain⟨p,hp,e⟩:=Option.map_eq_some_iff.mp hv;exact⟨p,hp,e.symm⟩
         have hwm:=aak hxw;obtain⟨hw0,hwh⟩:=hcl' w hwm;ac_rfl;rw[show w=((w.toNat:Nat):Int) by lia];refine TC I5 s5 hx5 WU nd5 ndnH hkk5 ⟨_,hwh⟩ WQ (λg cg=>hcg g cg w hwm) λVo ks6 HG I6 le6 un6 s6 kp6 hx6 hd6 nd6 Vh Wp cl6 tt6 Wi=>?_;refine⟨Vo,ks6,_,s6,kp6 _ _ hw5 nwx nwd,by rw[show((w.toNat:Nat):Int)=w by lia],hx6,hd6,nd6,Wp,I6.weak (λi' k'=>?_),le5.trans le6,λi' s' e=>?_,λw' hw'=>?_,aaL tt6 tt5,?_⟩
         . rcases k' with (k' | k') | k'
           . exact .inl (Vh _ k')
           . exact .inr k'
           . exact .inl k'
         . rcases un5 i' s' e with e | e
           . exact un6 i' s' e
           . exact .inr (Vh _ e)
         . rw[abF,hxw,abx] at hw';rcases List.mem_append.mp hw' with hw' | hw'
           . obtain⟨s', e1, e2⟩ := cl5 w' hw';obtain⟨s'',f1,f2⟩:=le6 _ _ e1;exact⟨s'',f1,f2.trans e2⟩
           . rw[List.mem_singleton.mp hw'];exact cl6
         . rcases Wi with e | e
           . rcases hor5 with e2 | e2
             . exact .inl (e.trans e2)
             . exact .inr (by lia)
           . exact .inr (by lia)
       . rintro Z HE ⟨Vp,WJ,u9,s5,hw5,rfl,hx5,WU,nd5,hkk5,I5,le5,un5,cl5,tt5,hor5⟩;rw[aac,aa1] at cl5;have hc5:=s5 _ _ hc;have hrow5:=Tb.same s5;clear hc4 T2 hwl4 hway4 Wy UW;obtain⟨t',ty1,ty2,_⟩:=lQ T Uv.2 hrow5
         have Ta : ∀ {Vo : List (Option Nat)} {ks6 : List Nat} {HG : Hp} {u8 u9 : Option V}, PI rs ls hs first Vo (λi' => i' ∈ ks6 ∨ i' ∈ ks.drop i) -> fB Vp Vo -> (∀ (i' s' : Nat), Vp[i']? = some (some s') -> Vo[i']? = some (some s') ∨ i' ∈ ks6) -> (∀ k' ∈ WJ, k' ∈ ks6) -> ao H HG -> HG lw = some (.lst ((ks.map λk : Nat => (k : Int)).map V.int)) -> HG lx = some (.lst (Vo.map cy)) -> HG dn = some (.dK (bP ks6)) -> ks6.Nodup -> (∀ k ∈ ks6, ∃ s, Vo[k]? = some (some s)) -> bZ Vo <= bZ Vp -> (ks6 = WJ ∨ bZ Vo < bZ Vp) -> (∀ t, r = .call t -> ∃ s', Vo[t.toNat]? = some (some s') /\ Sub s' first) ->
             ∃ (Tv:List (Option Nat)) (TQ:List Nat) (u7' u8' u9':Option V),ao H HG/\HG lw=some (.lst ((ks.map λk:Nat=>(k:Int)).map V.int))/\[some (V.ref c),some (.ref ly),some (.ref lh),some (.int (first:Int)),some (.ref lx),some (.ref dn),some (.ref lw),some (.int (k:Int)),u8,u9]=[some (.ref c),some (.ref ly),some (.ref lh),some (.int (first:Int)),some (.ref lx),some (.ref dn),some (.ref lw),u7',u8',u9']/\HG lx=some (.lst (Tv.map cy))/\HG dn=some (.dK (bP TQ))/\TQ.Nodup/\(∀ k∈TQ,∃ s,Tv[k]? = some (some s))/\PI rs ls hs first Tv (λi'=>i'∈TQ∨i'∈ks.drop (i+1))/\fB ss Tv/\(∃ s0,Tv[0]? = some (some s0)/\Sub s0 first)/\bZ Tv<=bZ ss/\(TQ=[]∨bZ Tv<bZ ss):=by
           intro Vo ks6 HG u8 u9 I6 le6 un6 Vh s6 hw6 hx6 hd6 nd6 Wp tt6 Wi tg6;refine⟨Vo,ks6,_,_,_,s6,hw6,rfl,hx6,hd6,nd6,Wp,I6.done (λi' UH=>?_),(le4.trans le5).trans le6,?_,by lia,?_⟩
           . by_cases z:i'=k
             . subst z;refine .inr λs1 h1 r1 e1 e2 e3=>?_;rw[hhk] at e2;cases e2;rw[Vb] at e3;cases e3;have T6:i' ∉ ks6:=λz=>UH (.inl z);have e4:Vo[i']? = some (some s):=by
                 rcases un5 i' s hsk with e | e
                 . exact(un6 i' s e).resolve_right T6
                 . exact absurd (Vh _ e) T6
               rw[e4] at e1;cases e1;refine⟨λw hw=>?_,tg6⟩;obtain⟨s',f1,f2⟩:=cl5 w hw;obtain⟨s'',g1,g2⟩:=le6 _ _ f1;exact⟨s'',g1,by rw[hkept];exact g2.trans f2⟩
             . refine .inl λhp=>UH ?_;rcases hp with hp | hp
               . exact .inl hp
               . rw[hdrop] at hp;exact .inr ((List.mem_cons.mp hp).resolve_left z)
           . obtain⟨a0, b0, c0⟩ := st4;obtain⟨a1,b1,c1⟩:=(le5.trans le6) _ _ b0;exact⟨a1,b1,c1.trans c0⟩
           . rcases Wi with e | e
             . rcases hor5 with e2 | e2
               . rcases hor4 with e3 | e3
                 . exact .inl (by rw[e,e2,e3])
                 . exact .inr (by lia)
               . exact .inr (by lia)
             . exact .inr (by lia)
         ac_rfl;refine eX (λz=>nomatch z) ty1 ty2 ?_;cases hcall:r.isCall with
         | false =>
           ac_rfl;exact Ta I5 (fB.refl _) (λi' s' e=>.inl e) (λk' h=>h) s5 hw5 hx5 WU nd5 hkk5 (aag _) (.inl rfl) (λt ht=>by rw[ht] at hcall;cases hcall)
         | true =>
           obtain⟨t,rfl⟩:∃ t,r=.call t:=by
             cases r <;> first | exact⟨_,rfl⟩ | (cases hcall)
           obtain⟨dxD,Ws⟩:=hrow5;have Ws:HE p0=some (.ins a.aZ dxD (au "target" (.int t) [])):=Ws;obtain⟨ht0,hth⟩:=HO'.tg k h t hhk Vb;ac_rfl;rw[show t=((t.toNat:Nat):Int) by lia];refine TC I5 s5 hx5 WU nd5 ndnH hkk5 ⟨_,hth⟩ hf (λg cg=>(cg.2 k h (.call t) hhk Vb).2 t rfl) λVo ks6 HG I6 le6 un6 s6 kp6 hx6 hd6 nd6 Vh Wp cl6 tt6 Wi=>?_;refine Ta (I6.weak (λi' k'=>?_)) le6 un6 Vh s6 (kp6 _ _ hw5 nwx nwd) hx6 hd6 nd6 Wp tt6 Wi (λt2 US=>by cases US;exact cl6);rcases k' with (k' | k') | k'
           . exact .inl (Vh _ k')
           . exact .inr k'
           . exact .inl k'
     . rintro Z HD ⟨Tv,TQ,u7,u8,u9,s4,hw4,rfl,hx4,hd4,nd4,hkk4,I4,le4,st4,tt4,hor4⟩;rw [aac,aac,List.drop_length] at I4;refine ⟨2*bZ Tv+(if TQ=[] then 0 else 1),?_,Tv,TQ,dn,_,_,_,_,s4,rfl,hx4,hd4,nd4,ndnH,hkk4,I4.weak (λi k=>k.resolve_right (by simp)),st4,rfl⟩;split
       . lia
       . rename_i T6
         have:=hor4.resolve_left T6
         lia
end
section
theorem kB (x:V)(r:List V):fS (x::r) (some 1) none=r:=by
 unfold fS;have e1:HT.bh (x::r).length 0 (some 1)=1:=by
   rw[show HT.bh (x::r).length 0 (some 1)=min 1 (x::r).length from HT.jg _ _ 1,aaH];lia
 have e2:HT.bh (x::r).length (x::r).length none=(x::r).length:=rfl;rw[e1,e2,aaH,List.drop_succ_cons,List.drop_zero,Nat.add_sub_cancel,aa1]
theorem gA (x:V)(r:List V) : ¬ (HT.bh (x::r).length 0 (some 1)=0/\HT.bh (x::r).length (x::r).length none=(x::r).length):=by
 intro z;have e1:HT.bh (x::r).length 0 (some 1)=1:=by
   rw[show HT.bh (x::r).length 0 (some 1)=min 1 (x::r).length from HT.jg _ _ 1,aaH];lia
 rw[e1] at z;exact absurd z.1 (by decide)
local macro_rules | `(tactic| walk_at "gt") => `(tactic| repeat (first | (with_reducible refine wQ ?_) | (with_reducible refine AB ?_) | (refine' r_gN ?x ?_; (case x => simp only [List.set_cons_succ, List.set_cons_zero]; rfl))))
theorem Dx (T:TX):FE 4 "_law_row" (Gq a):=by
 refine bc 3 T.D2 vq ?_ ?_;ac_nf
 . obtain⟨u, r, rfl, ⟨p, rfl, hp⟩, ⟨⟨ok, here⟩, gz⟩, q⟩ := h;clear gz;walk_at"h";have nd:=vq.nd;walk_at"v";cases r
   all_goals (try exact aaW here)
   case set b n =>
     have Tw:H p=some (.tup [.str "set",.int b,.int n]):=hp;clear hp;symm;rename_i l1 n1;refine bT (b:=true) aa rfl rfl (by nofun) λH1 s1=>?_;have S1:ao H H1:=((ae n1).trans s1)
     have T9:=S1 _ _ Tw;clear s1 n1;symm;refine y0 (aI.of T9) (gA _ _) (λlt S9=>?_);rw[kB];have S2:=S1.trans (ae S9 (o:=.tup [V.int b,V.int n]));clear S1;symm;exact Br (a:=a) ok rfl (λx H5 s np z=>q x H5 (S2.trans s) (aG S2 np) z)
   case copy b n =>
     have Tw:H p=some (.tup [.str "copy",.int b,.int n]):=hp;clear hp;symm;rename_i l1 n1;refine bT (b:=true) aa rfl rfl (by nofun) λH1 s1=>?_;have S1:ao H H1:=((ae n1).trans s1)
     have T9:=S1 _ _ Tw;clear s1 n1;symm;refine y0 (aI.of T9) (gA _ _) (λlt S9=>?_);rw[kB];have S2:=S1.trans (ae S9 (o:=.tup [V.int b,V.int n]));clear S1;symm;exact Br (a:=a) ok rfl (λx H5 s np z=>q x H5 (S2.trans s) (aG S2 np) z)
   case add b n m =>
     have Tw:H p=some (.tup [.str "add",.int b,.int n,.int m]):=hp;clear hp;symm;rename_i l1 n1;refine bT (b:=false) aa rfl rfl (by nofun) λH1 s1=>?_;have S1:ao H H1:=((ae n1).trans s1)
     have T9:=S1 _ _ Tw;clear s1 n1;symm;exact Nb (a:=a) ok rfl (λx H5 s np z=>q x H5 (S1.trans s) (aG S1 np) z)
   case grow b =>
     have Tw:H p=some (.tup [.str "grow",.int b]):=hp;clear hp;symm;rename_i l1 n1;refine bT (b:=false) aa rfl rfl (by nofun) λH1 s1=>?_;have S1:ao H H1:=((ae n1).trans s1)
     have T9:=S1 _ _ Tw;clear s1 n1;symm;rename_i l2 n2;refine bT (b:=true) aa rfl rfl (by nofun) λH2 s2=>?_;have S2:ao H H2:=S1.trans ((ae n2).trans s2);have UT:=S2 _ _ Tw;clear s2 n2 S1 T9;symm;have U9:=ok;simp only[Rw.ok,aH,aF,aN] at U9;intro r7 Uk m7 g7 _;refine⟨r7,Uk,_,rfl,⟨by first | decide | lia,by first | decide | lia⟩,aa,λH7 Ug Ui=>⟨rfl,?_⟩⟩;have s7:ao H2 H7:=λb o e=>Ug b o (by rw[ak (ag e m7),ak (ag e g7)];exact e) (ag e m7);have w7:bD a H7 r7 (.grow _):=⟨Uk,Ui⟩
     clear Ug Ui;symm;intro r8 Uj m8 g8 _;refine⟨r8,Uj,_,rfl,⟨by first | decide | lia,by first | decide | lia⟩,aa,λH8 Ue Uh=>⟨rfl,?_⟩⟩;have s8:ao H7 H8:=λb o e=>Ue b o (by rw[ak (ag e m8),ak (ag e g8)];exact e) (ag e m8);have w8:bD a H8 r8 (.shrink _):=⟨Uj,Uh⟩
     clear Ue Uh;symm;rename_i l9 n9;rw[show decide (V.str (aae "grow")=V.str (aae "shrink"))=false from by nofun];refine .inr ⟨_,rfl,?_⟩;rw[if_neg (show ¬ (false=true) by decide)];refine b8 (ar.of aa) (v:=.ref r7) rfl ?_;exact q r7 _ (S2.trans (s7.trans (s8.trans (ae n9)))) (aG S2 m7) (w7.same (s8.trans (ae n9)))
   case shrink b =>
     have Tw:H p=some (.tup [.str "shrink",.int b]):=hp;clear hp;symm;rename_i l1 n1;refine bT (b:=false) aa rfl rfl (by nofun) λH1 s1=>?_;have S1:ao H H1:=((ae n1).trans s1)
     have T9:=S1 _ _ Tw;clear s1 n1;symm;rename_i l2 n2;refine bT (b:=true) aa rfl rfl (by nofun) λH2 s2=>?_;have S2:ao H H2:=S1.trans ((ae n2).trans s2);have UT:=S2 _ _ Tw;clear s2 n2 S1 T9;symm;have U9:=ok;simp only[Rw.ok,aH,aF,aN] at U9;intro r7 Uk m7 g7 _;refine⟨r7,Uk,_,rfl,⟨by first | decide | lia,by first | decide | lia⟩,aa,λH7 Ug Ui=>⟨rfl,?_⟩⟩;have s7:ao H2 H7:=λb o e=>Ug b o (by rw[ak (ag e m7),ak (ag e g7)];exact e) (ag e m7);have w7:bD a H7 r7 (.grow _):=⟨Uk,Ui⟩
     clear Ug Ui;symm;intro r8 Uj m8 g8 _;refine⟨r8,Uj,_,rfl,⟨by first | decide | lia,by first | decide | lia⟩,aa,λH8 Ue Uh=>⟨rfl,?_⟩⟩;have s8:ao H7 H8:=λb o e=>Ue b o (by rw[ak (ag e m8),ak (ag e g8)];exact e) (ag e m8);have w8:bD a H8 r8 (.shrink _):=⟨Uj,Uh⟩
     clear Ue Uh;symm;rename_i l9 n9;rw[show decide (V.str (aae "shrink")=V.str (aae "shrink"))=true from by nofun];refine .inr ⟨_,rfl,?_⟩;rw[if_pos rfl];refine b8 (ar.of aa) (v:=.ref r8) rfl ?_;exact q r8 _ (S2.trans (s7.trans (s8.trans (ae n9)))) (aG (S2.trans s7) m8) (w8.same (ae n9))
   case put b n =>
     have Tw:H p=some (.tup [.str "put",.int b,.int n]):=hp;clear hp;symm;rename_i l1 n1;refine bT (b:=true) aa rfl rfl (by nofun) λH1 s1=>?_;have S1:ao H H1:=((ae n1).trans s1)
     have T9:=S1 _ _ Tw;clear s1 n1;symm;refine y0 (aI.of T9) (gA _ _) (λlt S9=>?_);rw[kB];have S2:=S1.trans (ae S9 (o:=.tup [V.int b,V.int n]));clear S1;symm;have U9:=ok;simp only[Rw.ok,aH,aF,aN] at U9;intro r7 Uk m7 g7 _;refine⟨r7,Uk,_,_,rfl,⟨⟨by first | decide | lia,by first | decide | lia⟩,⟨by first | decide | lia,by first | decide | lia⟩⟩,aa,λH7 Ug Ui=>⟨rfl,?_⟩⟩;have s7:ao (upd H1 lt (.tup [V.int b,V.int n])) H7:=λb o e=>Ug b o (by rw[ak (ag e m7),ak (ag e g7)];exact e) (ag e m7);have w7:bD a H7 r7 (.put _ _):=⟨Uk,Ui⟩
     clear Ug Ui;symm;intro r8 Uj m8 g8 _;refine⟨r8,Uj,_,_,rfl,⟨⟨by first | decide | lia,by first | decide | lia⟩,⟨by first | decide | lia,by first | decide | lia⟩⟩,aa,λH8 Ue Uh=>⟨rfl,?_⟩⟩;have s8:ao H7 H8:=λb o e=>Ue b o (by rw[ak (ag e m8),ak (ag e g8)];exact e) (ag e m8);have w8:bD a H8 r8 (.get _ _):=⟨Uj,Uh⟩
     clear Ue Uh;symm;rename_i l9 n9;rw[show decide (V.str (aae "put")=V.str (aae "get"))=false from by nofun];refine .inr ⟨_,rfl,?_⟩;rw[if_neg (show ¬ (false=true) by decide)];refine b8 (ar.of aa) (v:=.ref r7) rfl ?_;exact q r7 _ (S2.trans (s7.trans (s8.trans (ae n9)))) (aG S2 m7) (w7.same (s8.trans (ae n9)))
   case get b n =>
     have Tw:H p=some (.tup [.str "get",.int b,.int n]):=hp;clear hp;symm;rename_i l1 n1;refine bT (b:=true) aa rfl rfl (by nofun) λH1 s1=>?_;have S1:ao H H1:=((ae n1).trans s1)
     have T9:=S1 _ _ Tw;clear s1 n1;symm;refine y0 (aI.of T9) (gA _ _) (λlt S9=>?_);rw[kB];have S2:=S1.trans (ae S9 (o:=.tup [V.int b,V.int n]));clear S1;symm;have U9:=ok;simp only[Rw.ok,aH,aF,aN] at U9;intro r7 Uk m7 g7 _;refine⟨r7,Uk,_,_,rfl,⟨⟨by first | decide | lia,by first | decide | lia⟩,⟨by first | decide | lia,by first | decide | lia⟩⟩,aa,λH7 Ug Ui=>⟨rfl,?_⟩⟩;have s7:ao (upd H1 lt (.tup [V.int b,V.int n])) H7:=λb o e=>Ug b o (by rw[ak (ag e m7),ak (ag e g7)];exact e) (ag e m7);have w7:bD a H7 r7 (.put _ _):=⟨Uk,Ui⟩
     clear Ug Ui;symm;intro r8 Uj m8 g8 _;refine⟨r8,Uj,_,_,rfl,⟨⟨by first | decide | lia,by first | decide | lia⟩,⟨by first | decide | lia,by first | decide | lia⟩⟩,aa,λH8 Ue Uh=>⟨rfl,?_⟩⟩;have s8:ao H7 H8:=λb o e=>Ue b o (by rw[ak (ag e m8),ak (ag e g8)];exact e) (ag e m8);have w8:bD a H8 r8 (.get _ _):=⟨Uj,Uh⟩
     clear Ue Uh;symm;rename_i l9 n9;rw[show decide (V.str (aae "get")=V.str (aae "get"))=true from by nofun];refine .inr ⟨_,rfl,?_⟩;rw[if_pos rfl];refine b8 (ar.of aa) (v:=.ref r8) rfl ?_;exact q r8 _ (S2.trans (s7.trans (s8.trans (ae n9)))) (aG (S2.trans s7) m8) (w8.same (ae n9))
   case dr b =>
     have Tw:H p=some (.tup [.str "jump",.int b]):=hp;clear hp;symm;rename_i l1 n1;refine bT (b:=false) aa rfl rfl (by nofun) λH1 s1=>?_;have S1:ao H H1:=((ae n1).trans s1)
     have T9:=S1 _ _ Tw;clear s1 n1;symm;rename_i l2 n2;refine bT (b:=false) aa rfl rfl (by nofun) λH2 s2=>?_;have S2:ao H H2:=S1.trans ((ae n2).trans s2);have UT:=S2 _ _ Tw;clear s2 n2 S1 T9;symm;rename_i l3 n3;refine bT (b:=false) aa rfl rfl (by nofun) λH3 s3=>?_;have S3:ao H H3:=S2.trans ((ae n3).trans s3);have hp3:=S3 _ _ Tw;clear s3 n3 S2 UT;symm;have U9:=ok;simp only[Rw.ok,aH,aF,aN] at U9;intro r7 Uk m7 g7 _;refine⟨r7,Uk,_,rfl,⟨by first | decide | lia,by first | decide | lia⟩,aa,λH7 Ug Ui=>⟨rfl,?_⟩⟩;have s7:ao H3 H7:=λb o e=>Ug b o (by rw[ak (ag e m7),ak (ag e g7)];exact e) (ag e m7);have w7:bD a H7 r7 (.dr _):=⟨Uk,Ui⟩
     clear Ug Ui;symm;intro r8 Uj m8 g8 _;refine⟨r8,Uj,_,rfl,⟨by first | decide | lia,by first | decide | lia⟩,aa,λH8 Ue Uh=>⟨rfl,?_⟩⟩;have s8:ao H7 H8:=λb o e=>Ue b o (by rw[ak (ag e m8),ak (ag e g8)];exact e) (ag e m8);have w8:bD a H8 r8 (.call _):=⟨Uj,Uh⟩
     clear Ue Uh;symm;rename_i l9 n9;rw[show decide (V.str (aae "jump")=V.str (aae "call"))=false from by nofun];refine .inr ⟨_,rfl,?_⟩;rw[if_neg (show ¬ (false=true) by decide)];refine b8 (ar.of aa) (v:=.ref r7) rfl ?_;exact q r7 _ (S3.trans (s7.trans (s8.trans (ae n9)))) (aG S3 m7) (w7.same (s8.trans (ae n9)))
   case branch b n =>
     have Tw:H p=some (.tup [.str "branch",.int b,.int n]):=hp;clear hp;symm;rename_i l1 n1;refine bT (b:=false) aa rfl rfl (by nofun) λH1 s1=>?_;have S1:ao H H1:=((ae n1).trans s1)
     have T9:=S1 _ _ Tw;clear s1 n1;symm;exact Br (a:=a) ok rfl (λx H5 s np z=>q x H5 (S1.trans s) (aG S1 np) z)
   case call b =>
     have Tw:H p=some (.tup [.str "call",.int b]):=hp;clear hp;symm;rename_i l1 n1;refine bT (b:=false) aa rfl rfl (by nofun) λH1 s1=>?_;have S1:ao H H1:=((ae n1).trans s1)
     have T9:=S1 _ _ Tw;clear s1 n1;symm;rename_i l2 n2;refine bT (b:=false) aa rfl rfl (by nofun) λH2 s2=>?_;have S2:ao H H2:=S1.trans ((ae n2).trans s2);have UT:=S2 _ _ Tw;clear s2 n2 S1 T9;symm;rename_i l3 n3;refine bT (b:=false) aa rfl rfl (by nofun) λH3 s3=>?_;have S3:ao H H3:=S2.trans ((ae n3).trans s3);have hp3:=S3 _ _ Tw;clear s3 n3 S2 UT;symm;have U9:=ok;simp only[Rw.ok,aH,aF,aN] at U9;intro r7 Uk m7 g7 _;refine⟨r7,Uk,_,rfl,⟨by first | decide | lia,by first | decide | lia⟩,aa,λH7 Ug Ui=>⟨rfl,?_⟩⟩;have s7:ao H3 H7:=λb o e=>Ug b o (by rw[ak (ag e m7),ak (ag e g7)];exact e) (ag e m7);have w7:bD a H7 r7 (.dr _):=⟨Uk,Ui⟩
     clear Ug Ui;symm;intro r8 Uj m8 g8 _;refine⟨r8,Uj,_,rfl,⟨by first | decide | lia,by first | decide | lia⟩,aa,λH8 Ue Uh=>⟨rfl,?_⟩⟩;have s8:ao H7 H8:=λb o e=>Ue b o (by rw[ak (ag e m8),ak (ag e g8)];exact e) (ag e m8);have w8:bD a H8 r8 (.call _):=⟨Uj,Uh⟩
     clear Ue Uh;symm;rename_i l9 n9;rw[show decide (V.str (aae "call")=V.str (aae "call"))=true from by nofun];refine .inr ⟨_,rfl,?_⟩;rw[if_pos rfl];refine b8 (ar.of aa) (v:=.ref r8) rfl ?_;exact q r8 _ (S3.trans (s7.trans (s8.trans (ae n9)))) (aG (S3.trans s7) m8) (w8.same (ae n9))
   case back b =>
     have Tw:H p=some (.tup [.str "back",.int b]):=hp;clear hp;symm;rename_i l1 n1;refine bT (b:=false) aa rfl rfl (by nofun) λH1 s1=>?_;have S1:ao H H1:=((ae n1).trans s1)
     have T9:=S1 _ _ Tw;clear s1 n1;symm;rename_i l2 n2;refine bT (b:=false) aa rfl rfl (by nofun) λH2 s2=>?_;have S2:ao H H2:=S1.trans ((ae n2).trans s2);have UT:=S2 _ _ Tw;clear s2 n2 S1 T9;symm;rename_i l3 n3;refine bT (b:=true) aa rfl rfl (by nofun) λH3 s3=>?_;have S3:ao H H3:=S2.trans ((ae n3).trans s3);have hp3:=S3 _ _ Tw;clear s3 n3 S2 UT;symm;have U9:=ok;simp only[Rw.ok,aH,aF,aN] at U9;intro r7 Uk m7 g7 _;refine⟨r7,Uk,_,rfl,⟨by first | decide | lia,by first | decide | lia⟩,aa,λH7 Ug Ui=>⟨rfl,?_⟩⟩;have s7:ao H3 H7:=λb o e=>Ug b o (by rw[ak (ag e m7),ak (ag e g7)];exact e) (ag e m7);have w7:bD a H7 r7 (.back _):=⟨Uk,Ui⟩
     clear Ug Ui;symm;intro r8 Uj m8 g8 _;refine⟨r8,Uj,_,rfl,⟨by first | decide | lia,by first | decide | lia⟩,aa,λH8 Ue Uh=>⟨rfl,?_⟩⟩;have s8:ao H7 H8:=λb o e=>Ue b o (by rw[ak (ag e m8),ak (ag e g8)];exact e) (ag e m8);have w8:bD a H8 r8 (.drop _):=⟨Uj,Uh⟩
     clear Ue Uh;symm;rename_i l9 n9;rw[show decide (V.str (aae "back")=V.str (aae "drop"))=false from by nofun];refine .inr ⟨_,rfl,?_⟩;rw[if_neg (show ¬ (false=true) by decide)];refine b8 (ar.of aa) (v:=.ref r7) rfl ?_;exact q r7 _ (S3.trans (s7.trans (s8.trans (ae n9)))) (aG S3 m7) (w7.same (s8.trans (ae n9)))
   case drop b =>
     have Tw:H p=some (.tup [.str "drop",.int b]):=hp;clear hp;symm;rename_i l1 n1;refine bT (b:=false) aa rfl rfl (by nofun) λH1 s1=>?_;have S1:ao H H1:=((ae n1).trans s1)
     have T9:=S1 _ _ Tw;clear s1 n1;symm;rename_i l2 n2;refine bT (b:=false) aa rfl rfl (by nofun) λH2 s2=>?_;have S2:ao H H2:=S1.trans ((ae n2).trans s2);have UT:=S2 _ _ Tw;clear s2 n2 S1 T9;symm;rename_i l3 n3;refine bT (b:=true) aa rfl rfl (by nofun) λH3 s3=>?_;have S3:ao H H3:=S2.trans ((ae n3).trans s3);have hp3:=S3 _ _ Tw;clear s3 n3 S2 UT;symm;have U9:=ok;simp only[Rw.ok,aH,aF,aN] at U9;intro r7 Uk m7 g7 _;refine⟨r7,Uk,_,rfl,⟨by first | decide | lia,by first | decide | lia⟩,aa,λH7 Ug Ui=>⟨rfl,?_⟩⟩;have s7:ao H3 H7:=λb o e=>Ug b o (by rw[ak (ag e m7),ak (ag e g7)];exact e) (ag e m7);have w7:bD a H7 r7 (.back _):=⟨Uk,Ui⟩
     clear Ug Ui;symm;intro r8 Uj m8 g8 _;refine⟨r8,Uj,_,rfl,⟨by first | decide | lia,by first | decide | lia⟩,aa,λH8 Ue Uh=>⟨rfl,?_⟩⟩;have s8:ao H7 H8:=λb o e=>Ue b o (by rw[ak (ag e m8),ak (ag e g8)];exact e) (ag e m8);have w8:bD a H8 r8 (.drop _):=⟨Uj,Uh⟩
     clear Ue Uh;symm;rename_i l9 n9;rw[show decide (V.str (aae "drop")=V.str (aae "drop"))=true from by nofun];refine .inr ⟨_,rfl,?_⟩;rw[if_pos rfl];refine b8 (ar.of aa) (v:=.ref r8) rfl ?_;exact q r8 _ (S3.trans (s7.trans (s8.trans (ae n9)))) (aG (S3.trans s7) m8) (w8.same (ae n9))
end
section
def QT (H:Hp)(i:Int)(v:V)(o:Int×Option Wt):Prop:=∃ q,v=.ref q/\H q=some (.tup [.int i,.int o.1,oV o.2])
def eL (H:Hp)(i:Int)(vs:List V)(os:List (Int×Option Wt)):Prop:=vs.length=os.length/\∀ (k:Nat) (o:Int×Option Wt),os[k]? = some o->∃ v,vs[k]? = some v/\QT H i v o
theorem eL.to {os:List (Int×Option Wt)}(h:eL H i vs os)(s:∀ b xs,H b=some (.tup xs)->H' b=some (.tup xs)):eL H' i vs os:=⟨h.1,λk o e=>let ⟨v,e1,q,e2,e3⟩:=h.2 k o e;⟨v,e1,q,e2,s _ _ e3⟩⟩
theorem eL.same {os:List (Int×Option Wt)}(h:eL H i vs os)(s:ao H H'):eL H' i vs os:=h.to λ_ _ e=>s _ _ e
theorem eL.nil:eL H i [] []:=⟨rfl,λi c e=>by simp at e⟩
theorem eL.app {cs ds:List (Int×Option Wt)}(h:eL H i vs cs)(k:eL H i us ds):eL H i (vs++us) (cs++ds):=by
 refine⟨by rw[aab,aab,h.1,k.1],λj o e=>?_⟩;by_cases hi:j<cs.length
 . rw[aas hi] at e;obtain⟨u,e1,e2⟩:=h.2 j o e;exact⟨u,by rw[aas (by rw[h.1];exact hi)];exact e1,e2⟩
 . rw[aaq (by lia)] at e;obtain⟨u,e1,e2⟩:=k.2 _ o e;exact⟨u,by rw[aaq (by rw[h.1];lia),h.1];exact e1,e2⟩
theorem eL.one {v:V}{o:Int×Option Wt}(h:QT H i v o):eL H i [v] [o]:=⟨rfl,λk c' e=>by
 cases k with
 | zero=>simp at e;subst e;exact⟨v,rfl,h⟩
 | succ k=>simp at e⟩
theorem FA (h:d9 r e=none) : 0<=e.h/\e.h<=4000/\(r.aE e.h).isSome=true:=by
 unfold d9 at h;split at h
 . cases h
 . rename_i hw;unfold du at hw;simp only[Bool.not_eq_true,Bool.or_eq_false_iff,decide_eq_false_iff_not] at hw;split at h
   . cases h
   . rename_i hg;exact⟨by omega,by omega,by cases hx:r.aE e.h with | none=>exact absurd hx hg | some z=>rfl⟩
theorem Iv (r:Rw)(i:Int):(r.dz i).length<=4000:=by cases r <;> exact aa3 rfl
theorem Ig (r:Rw)(i:Int):(once (r.dz i)).length<=9:=by
 cases r <;> simp[Rw.dz,once]
 split <;> simp
theorem q0 (T:TX):FE 5 "row_complaints" (N6 K a):=by
 refine bc 4 T.qY fG ?_ ?_;ac_nf
 . obtain ⟨c, l, i, prs, rs, ev, es, rfl, hc, Tn, hl, To, E', hi, hre, q⟩ := h;have S6:=Tn.1;have hri:rs[i]? = some rs[i]:=aaa hi;obtain ⟨p,hp⟩:∃ p,prs[i]? = some p:=⟨_,aaa (by lia)⟩
   obtain⟨dx,hx⟩:=Tn.2 i p _ hp hri;obtain⟨ok,hh⟩:=E'.ok _ (aaY hi);obtain⟨v,oe,TU,Uc,hmem,hv⟩:=To.at (c:=(i:Int)) (by lia) (by lia)
   rw[aaD] at Uc;have hatp:cT (prs.map V.ref) (i:Int)=some (.ref p):=bG (by rw[aah,hp];rfl);unfold nq at q;rw[hri,Uc,Option.join_some] at q;generalize rs[i]=r at *;walk_at"h";have nd:=fG.nd;refine' aW ?_ ?_;walk_at"tS";walk_at"c";walk_at"c";walk_at"c";walk_at"c";walk_at"n";exact(fu (i:=6) fG.nd rfl rfl (own:=["coming"]) (fr:=[("entries",1),("at",2),("row",3),("entry",4)]) rfl ⟨rfl,(by walk_at"clok"),(by walk_at"frok"),rfl,(by nofun),(by nofun),rfl⟩ (dP (K:=K) rfl (bp (ze T) (hr.mono (by decide)) b_ rfl (aj (AS (P:=P) (w:=w) (K:=K) (mg:=mg) (base:=base) (k:=1) ⟨rfl,rfl,rfl,rfl,rfl⟩ (pv 3) (hr.mono (by decide)) b_ (aj (pv 2) aD)) aD))) (λ_ _ _ _=>(bS (i:=0) (show aa7 [("coming" : Str),("entries" : Str),("at" : Str),("row" : Str),("entry" : Str)] from by nofun) rfl (Or.inl rfl))) (λ_ _ _ _=>c9) (λ_ _ _ _=>(pO (aj (pv 2) (aj (pv 0) (aj (bp (jv T) (hr.mono (by decide)) b_ rfl (aj (pv 3) (aj (pv 4) (aj (pv 0) (aj (pv 1) aD))))) aD))))));walk_at"c";walk_at"m";exact(iE (fz (own:=["complaint"]) (fr:=[]) rfl ⟨rfl,(by walk_at"clok"),(by walk_at"frok"),rfl,(by nofun),(by nofun),rfl⟩ (dP (K:=K) rfl (pv 6)) (λ_ _ _ _=>(bS (i:=0) (show aa7 [("complaint" : Str)] from by nofun) rfl (Or.inl rfl))) (λ_ _ _ _=>(wM (dO Aj (cB (dj (K:=K) rfl) (pv 0) aX (λ_ _=>rfl)) j7 (dZ _)))) (λ_ _ _ _=>(pv 0))));walk_at"s";symm;cases oe with
   | none =>
     cases hv
     symm;rename_i l1 UP;exact q l1 [] _ (ae UP) aa cA.nil UP
   | some e =>
     have q:∀ p us H',ao H H'->H' p=some (.lst us)->cA H' us (pU r e i es)->H p=none->Q (.ref p) H':=q;obtain⟨pe,rfl,he⟩:=id hv;have nn:=E'.nn e hmem;symm;refine⟨p,pe,r,e,rfl,⟨dx,hx⟩,ok,hh,he,λH1 s1=>?_⟩;have VG:=s1 _ _ hx;have he1:=he.same s1;have hl1:=s1 _ _ hl;have hev1:=To.same s1;unfold pU at q;cases ho:d9 r e with
     | some w =>
       rw[ho] at q;show bg 5 w.v _ _ _;symm;rename_i t nt l1 UP;exact q l1 [.ref t] _ (s1.trans (by walk_at"same")) aa (cA.one ⟨t,rfl,by bv_omega⟩) (aG s1 (by walk_at"none"))
     | none =>
       rw[ho] at q;show bg 5 V.aC _ _ _;have hnw : 0<=e.h/\e.h<=4000/\(r.aE e.h).isSome=true:=FA ho;obtain⟨e0,e4,hs⟩:=hnw;have nl0:∀ b,H1 b=none->H b=none:=λb z=>aG s1 z;symm;refine aY VG (xI _) ((rk T hh).mono (by decide)) ?_;symm;refine⟨p,(i:Int),rfl,⟨dx,VG⟩,λg ng=>?_⟩;symm;refine⟨g,r.dz i,rfl,ar.of aa,Iv r i,λq1 H2 s2 Vc=>?_⟩;have Ur:=(ae (o:=.lst ((r.dz i).map V.int)) ng).trans s2;have n2:∀ b,H2 b=none->H b=none:=λb z=>nl0 b (aG Ur z);have s02:=s1.trans Ur;have Va:=Ur _ _ VG;have he2:=he1.same Ur;have UG:=Ur _ _ hl1;have hev2:=hev1.same Ur;clear Ur s2 ng s1 VG he1 hl1 hev1 hx hl To he hv nl0 hc Tn;symm;have hol:=Ig r i;refine fW (K:=K) (a:=q1) (xs:=(once (r.dz i)).map V.int) (λk ys Z H3=>(∃ u,Z = [u,some (.ref l),some (.int (i:Int)),some (.ref p),some (.ref pe)])/\ao H2 H3/\eL H3 i ys (((once (r.dz i)).take k).map λc=>(c,fE r e c es))) ⟨⟨_,rfl⟩,ao.refl _,eL.nil⟩ (λk ys Z H3 hk ⟨_,s3,e3⟩=>⟨ar.of (s3 _ _ Vc),by have:=e3.1;rw[aac,aaz] at this;rw[aaJ];lia⟩) ?_ ?_
       . rintro k v ys Z H3 hk ⟨⟨u,rfl⟩,s3,ho3⟩;obtain⟨cc,hcc,rfl⟩:∃ n,(once (r.dz i))[k]? = some n/\v=.int n:=by
           rw[aah] at hk;obtain⟨p,hp,e⟩:=Option.map_eq_some_iff.mp hk;exact⟨p,hp,e.symm⟩
         symm;refine⟨p,pe,l,cc,r,e,ev,es,rfl,⟨dx,s3 _ _ Va⟩,ok,hh,he2.same s3,nn,e0,e4,hs,s3 _ _ UG,hev2.same s3,E'.nn,λH4 s4=>?_⟩;symm;rename_i t nt;refine⟨⟨_,rfl⟩,(s3.trans s4).trans (ae nt),?_⟩;rw[abF,hcc,abx,aaE];exact((ho3.same s4).same (ae nt)).app (eL.one ⟨t,rfl,aa⟩)
       rintro ys Z H3 ⟨_,s3,ho3⟩;rw[aac,aa1] at ho3;symm;rename_i lf Vr;have sn:=s3.trans (ae (o:=.lst ys) Vr);have Vd:(upd H3 lf (.lst ys)) lf=some (.lst ys):=aa;have ho4:=ho3.same (ae (o:=.lst ys) Vr);have n4:H lf=none:=n2 lf (aG s3 Vr);clear s3 Vr ho3;generalize upd H3 lf (.lst ys)=H4 at sn Vd ho4 ⊢;have s04:=s02.trans sn;have hx4:=sn _ _ Va;have hl4:=sn _ _ UG;have hev4:=hev2.same sn;clear sn s02 Va he2 UG hev2 Vc n2;have kk:∀ (lf:Addr) (H5:Hp),(∃ us os,ao H H5/\H5 lf=some (.lst us)/\eL H5 i us os/\os.length<=10/\(os.filterMap λo=>o.2.map λw=>Cm.mk i o.1 w)=((once (r.dz i)).filterMap λc=>(fE r e c es).map λw=>Cm.mk i c w)++tK r i es)->iA (xH K lf) (bg 0) (dC (br kS (br (bJ K) (aA 0) (tC (V.int 2))) (tC V.aC))) (aA 0) (λys H3=>∀ p,H3 p=none->Q (V.ref p) (upd H3 p (HO.lst ys))) [none] H5:=by
         rintro lf H5 ⟨us,os,s5,Vd,ho5,h10,hfm⟩;rw[<- hfm] at q;clear hfm;have Vu:=ho5.1;refine fW (K:=K) (a:=lf) (xs:=us) (λk ys Z H6=>(∃ u,Z = [u])/\H6=H5/\cA H5 ys ((os.take k).filterMap λo=>o.2.map λw=>Cm.mk i o.1 w)/\ys.length<=k) ⟨⟨_,rfl⟩,rfl,cA.nil,aag _⟩ (λk ys Z H6 hk ⟨_,e6,_,e7⟩=>⟨by rw[e6];exact ar.of Vd,by rw[aaJ];lia⟩) ?_ ?_
         . rintro k v ys Z H6 hk ⟨⟨u,rfl⟩,rfl,VM,VF⟩;have UA:k<os.length:=by rw [<- Vu];exact (List.getElem?_eq_some_iff.mp hk).1
           obtain⟨v',hv',qq,e1,e2⟩:=ho5.2 k _ (aaa UA);rw[hk] at hv';cases hv'
           subst e1;rw[abF,aaa UA,abx,List.filterMap_append];generalize os[k]=o at e2 ⊢;obtain⟨cc,ow⟩:=o;symm;cases ow with
           | none =>
             show kS V.aC V.aC _ _;symm;exact⟨⟨_,rfl⟩,rfl,by rw[show List.filterMap (λo:Int×Option Wt=>o.2.map λw=>Cm.mk i o.1 w) [(cc,none)]=[] from rfl,aaM];exact VM,by lia⟩
           | some w =>
             show kS w.v V.aC _ _;symm;exact⟨⟨_,rfl⟩,rfl,VM.app (cA.one (c:=⟨i,cc,w⟩) ⟨qq,rfl,e2⟩),by rw[aab];show _+1<=_+1;lia⟩
         . rintro ys Z H6 ⟨_,rfl,VM,VF⟩;rw[Vu,aa1] at VM;intro p1 np1;exact q p1 ys _ (s5.trans (ae np1)) aa (VM.same (ae np1)) (aG s5 np1)
       obtain⟨t',ty,kc,kb⟩:=lQ T hh ⟨dx,hx4⟩;cases hC:r.isCall with
       | false =>
         rw[hC] at kc
         with_reducible refine(?_:iU _ _ _ _)
         refine eX (λz=>by cases z) ty kc ?_;symm;refine kk lf H4 ⟨ys,_,s04,Vd,ho4,by rw[aac];lia,?_⟩;rw[adP,show tK r i es=[] from(by cases r <;> first | rfl | cases hC),aaM];rfl
       | true =>
         obtain⟨t,hrt⟩:∃ t,r=.call t:=by cases r <;> first | exact⟨_,rfl⟩ | cases hC
         rw[hC] at kc
         with_reducible refine(?_:iU _ _ _ _)
         refine eX (b:=true) (λz=>by cases z) ty kc ?_;rw[hrt] at hx4
         change H4 p=some (.ins a.aZ dx (au "target" (.int t) [])) at hx4
         symm;refine⟨p,l,t,ev,es,rfl,⟨dx,hx4⟩,hl4,hev4,λH5 s5=>?_⟩;have hlf5:=s5 _ _ Vd;have ho5:=ho4.same s5;have VF:ys.length<=10:=by rw[ho4.1,aac];lia
         symm;rename_i tt TF;have ho6:=(ho5.same (ae (o:=.tup [.int (i:Int),.int t,oV (eJ t es)]) TF)).app (eL.one (i:=i) (o:=(t,eJ t es)) ⟨tt,rfl,aa⟩);have kb6:∀ (b:Addr) (xs:List V),(upd H5 tt (.tup [.int (i:Int),.int t,oV (eJ t es)])) b=some (.tup xs)->(upd (upd H5 tt (.tup [.int (i:Int),.int t,oV (eJ t es)])) lf (.lst (ys++[.ref tt]))) b=some (.tup xs):=λb xs e=>by
           rw[ak (λz=>by subst z;rw[ai hlf5 TF] at e;cases e)];exact e
         have ho7:=ho6.to kb6;have s07:ao H (upd (upd H5 tt (.tup [.int (i:Int),.int t,oV (eJ t es)])) lf (.lst (ys++[.ref tt]))):=λb o e=>by
           rw[ak (ag e n4)];exact(s04.trans (s5.trans (ae TF))) b o e
         have hlf7:(upd (upd H5 tt (.tup [.int (i:Int),.int t,oV (eJ t es)])) lf (.lst (ys++[.ref tt]))) lf=some (.lst (ys++[.ref tt])):=aa;clear kb6 ho6 ho5 hlf5;generalize (upd (upd H5 tt (.tup [.int (i:Int),.int t,oV (eJ t es)])) lf (.lst (ys++[.ref tt])))=H7 at ho7 s07 hlf7 ⊢;refine kk lf H7 ⟨_,_,s07,hlf7,ho7,by rw[aab,aac];show _+1<=10;lia,?_⟩;rw[List.filterMap_append,adP,show tK r i es=((eJ t es).map λw=>Cm.mk i t w).toList from by rw[hrt];rfl];show _++(List.filterMap _ [(t,eJ t es)])=_++((eJ t es).map λw=>Cm.mk i t w).toList;cases eJ t es <;> rfl
theorem D_ (h:d9 r e=none) : 0<=e.h/\e.h<=4000/\(r.aE e.h).isSome=true:=by
 unfold d9 at h;split at h
 . cases h
 . rename_i hw;unfold du at hw;simp only[Bool.not_eq_true,Bool.or_eq_false_iff,decide_eq_false_iff_not] at hw;split at h
   . cases h
   . rename_i hg;exact⟨by omega,by omega,by cases hx:r.aE e.h with | none=>exact absurd hx hg | some z=>rfl⟩
theorem mZ (T:TX):FE 5 "landing_complaint" (Mb K a):=by
 refine bc 4 T.mQ gM ?_ ?_;ac_nf
 . obtain⟨c, l, i, z, prs, rs, ev, es, rfl, hc, Tn, hl, To, E', hre, q⟩ := h;have S6:=Tn.1;unfold mO at q;walk_at"h";have nd:=gM.nd;walk_at"v";symm;refine⟨i,l,ev,rfl,ar.of hl,?_⟩;rw[To.1];by_cases V0 : 0<=i/\i<(es.length:Int)
   . rw [decide_eq_true V0];rw [if_pos V0] at q;have hi:i.toNat<rs.length:=by omega
     have hri:rs[i.toNat]? = some rs[i.toNat]:=aaa hi;obtain⟨p,hp⟩:∃ p,prs[i.toNat]? = some p:=⟨_,aaa (by omega)⟩
     obtain⟨dx,hx⟩:=Tn.2 _ p _ hp hri;obtain⟨ok,hh⟩:=E'.ok _ (aaY hi);obtain⟨v,oe,TU,Uc,hmem,hv⟩:=To.at V0.1 V0.2;have hatp:cT (prs.map V.ref) i=some (.ref p):=by
       rw[show i=((i.toNat:Nat):Int) from by omega];exact bG (by rw[aah,hp];rfl)
     rw[hri,Uc,Option.join_some] at q;generalize rs[i.toNat]=r at *;have q:∀ H',ao H H'->Q (oV (za r oe z es)) H':=q;unfold za at q;symm;obtain⟨t',ty,kc,kb⟩:=lQ T hh ⟨dx,hx⟩;refine eX (λz=>by cases z) ty kc ?_;cases hC:r.isCall with
     | false =>
       rw[hC] at q;symm;exact q _ (ao.refl _)
     | true =>
       rw[hC] at q;symm;cases oe with
       | none =>
         cases hv
         symm;exact q _ (ao.refl _)
       | some e =>
         have q:∀ H',ao H H'->Q (oV (if (d9 r e).isSome=true then none else fE r e z es)) H':=q;obtain⟨pe,rfl,he⟩:=id hv;symm;refine⟨p,pe,r,e,rfl,⟨dx,hx⟩,ok,hh,he,λH1 s1=>?_⟩;cases ho:d9 r e with
         | some w =>
           rw[ho] at q;symm;show kS w.v V.aC _ _;symm;exact q _ s1
         | none =>
           rw[ho] at q;obtain⟨e0,e4,hs⟩:=D_ ho;have VG:=s1 _ _ hx;have W3:=s1 _ _ hc;symm;show kS V.aC V.aC _ _;symm;exact⟨p,pe,l,z,r,e,ev,es,rfl,⟨dx,VG⟩,ok,hh,he.same s1,E'.nn e hmem,e0,e4,hs,s1 _ _ hl,To.same s1,E'.nn,λH2 s2=>q _ (s1.trans s2)⟩
   . rw[decide_eq_false V0];rw[if_neg V0] at q;symm;exact q _ (ao.refl _)
theorem yF (T:TX):iJ P w K mg base (eQ P w) 5 "entries_of" (OS K a):=by
 refine A9 4 T.yM eO ?_ ?_;ac_nf
 . obtain ⟨c, d, prs, rs, ls, rfl, hc, Tn, az, Ti, Tc, hd, qe, q⟩ := h;have S6:=Tn.1;walk_at "h";have nd:=eO.nd;refine' aW ?_ ?_;walk_at "x";walk_at "tS";walk_at "n";walk_at "x";exact (c8 (i:=2) eO.nd rfl (Or.inr rfl) (fz (own:=["at"]) (fr:=[("code",0),("landings",1)]) rfl ⟨rfl,(by walk_at "clok"),(by walk_at "frok"),rfl,(by nofun),(by nofun),rfl⟩ (e_ rfl T.f9 (aj (cJ (ez (K:=K) rfl) rfl T.jc jf (aj (pv 0) aD)) aD)) (λ_ _ _ _=>(bS (i:=0) (show aa7 [("at" : Str),("code" : Str),("landings" : Str)] from by nofun) rfl (Or.inl rfl))) (λ_ _ _ _=>c9) (λ_ _ _ _=>(bp (El T) (hr.mono (by decide)) b_ rfl (aj (pv 1) (aj (pv 2) (aj (pv 0) aD)))))));walk_at "n";exact (c8 (i:=3) eO.nd rfl (Or.inr rfl) (bp (yo T) (hr.mono (by decide)) mB rfl (aj (pv 0) (aj (pv 2) aD))));walk_at "n";walk_at "x";exact (fu (i:=4) eO.nd rfl rfl (own:=["first"]) (fr:=[("code",0),("ways",2),("heights",3)]) rfl ⟨rfl,(by walk_at "clok"),(by walk_at "frok"),rfl,(by nofun),(by nofun),rfl⟩ (dP (K:=K) rfl (bp (gB T) (hr.mono (by decide)) b_ rfl (aj (gb (v:=.ref a.ji) rfl T.l0 rfl) aD))) (λ_ _ _ _=>(bS (i:=0) (show aa7 [("first" : Str),("code" : Str),("ways" : Str),("heights" : Str)] from by nofun) rfl (Or.inl rfl))) (λ_ _ _ _=>c9) (λ_ _ _ _=>(bp (A_ T) (hr.mono (by decide)) b_ rfl (aj (pv 1) (aj (pv 2) (aj (pv 3) (aj (pv 0) aD)))))));walk_at "n";walk_at "x";walk_at "tS";walk_at "n";walk_at "x";walk_at "g";exact (Nw (K:=K) rfl rfl T.yV (aj (pv 3) (aj (cB (dj (K:=K) rfl) (pv 4) aX (λ_ _=>rfl)) (aj (cB (dj (K:=K) rfl) (pv 4) aX (λ_ _=>rfl)) (aj (cB (dj (K:=K) rfl) (pv 4) aX (λ_ _=>rfl)) (aj (cB (dj (K:=K) rfl) (pv 4) aX (λ_ _=>rfl)) aD))))));walk_at "tG";walk_at "tB";exact λ_=>rfl;walk_at "m";walk_at "x";walk_at "tS";walk_at "s";ac_rfl;refine dQ (ar.of hc) ?_;rw [aac,S6];by_cases hz:rs=[]
   . subst hz;ac_rfl;rename_i l nl;exact q l [] [] _ (ae nl) nl aa ⟨rfl,λi oe e=>by simp at e⟩ ⟨rfl,λz=>absurd z (abB 0)⟩
   . have U3 : 0 < rs.length := List.length_pos_iff.mpr hz;ac_rfl;refine dQ (ar.of hc) ?_;rw [aac,S6];ac_rfl;rw [aaD];refine eK (λi ys Z H1=>(∃ v,Z = [v,some (.ref c),some (.ref d)])/\ao H H1/\∃ T5:List Addr,ys=T5.map V.ref/\T5.length=i/\∀ (j:Nat) (p:Addr),T5[j]? = some p->H1 p=some (.lst ((dB rs ls j).map V.int))) ⟨⟨_,rfl⟩,ao.refl _,[],rfl,rfl,λj p e=>by simp at e⟩ ?_ ?_ ?_
     . rintro i ys Z H1 hi ⟨_,_,T5,rfl,e,_⟩;rw[aac,e,aaJ];lia
     . rintro i ys Z H1 hi ⟨⟨v,rfl⟩,s1,T5,rfl,hl,hw⟩;ac_rfl;refine ⟨c,d,i,prs,rs,ls,by rw [Int.zero_add],s1 _ _ hc,Tn.same s1,az,s1 _ _ hd,Tc.1,hi,λp H2 s2 np hp=>?_⟩;refine ⟨⟨_,rfl⟩,s1.trans s2,T5++[p],by rw [aaE];rfl,by rw [aab,hl];rfl,λj p' e=>?_⟩;by_cases hj:j<i
       . rw[aas (by lia)] at e;exact s2 _ _ (hw j p' e)
       . rw[aaq (by lia)] at e;cases hjj:j - T5.length with
         | zero =>
           rw[hjj] at e
           have:p=p':=by simpa using e
           subst this;rw[show j=i by lia];exact hp
         | succ m=>rw[hjj] at e;simp at e
     rintro ys Z H1 ⟨_,s1,T5,rfl,hl,hw⟩ ly nly;have s2:=s1.trans (ae (o:=.lst (T5.map V.ref)) nly);have hwy:qK (upd H1 ly (.lst (T5.map V.ref))) ly rs ls:=⟨T5,aa,hl,λi p e=>ai (hw i p e) nly⟩
     generalize (upd H1 ly (.lst (T5.map V.ref)))=H2 at s2 hwy ⊢;clear s1 nly hl hw;obtain⟨qs',Tg,hst2⟩:=T.mz;ac_rfl;refine⟨c,ly,prs,rs,ls,rfl,s2 _ _ hc,Tn.same s2,az,U3,Ti,Tc,hwy,λhb H' s'=>qe ⟨U3,hb⟩ _ (s2.trans s'),λlh hs H3 s3 VE hlh hO=>?_⟩;have s23:=s2.trans s3;have hwy3:=hwy.same s3;clear s2 hwy s3 VE;ac_rfl;refine⟨a.ji,⟨0,128,16,32,64⟩,rfl,⟨qs',Tg _,hst2 _⟩,λtt TF=>?_⟩;have s4:=s23.trans (ae (o:=.tup (abX V.int (Ent.mk 0 128 16 32 64).dG)) TF);have T2:=ai (o:=.tup (abX V.int (Ent.mk 0 128 16 32 64).dG)) hlh TF;have hwy4:=hwy3.same (ae (o:=.tup (abX V.int (Ent.mk 0 128 16 32 64).dG)) TF);have htt:(upd H3 tt (.tup (abX V.int (Ent.mk 0 128 16 32 64).dG))) tt=some (.tup (firstsD.map λf:Nat=>V.int (f:Int))):=aa;generalize (upd H3 tt (.tup (abX V.int (Ent.mk 0 128 16 32 64).dG)))=H4 at s4 T2 hwy4 htt ⊢;clear TF s23;ac_rfl;refine zj (xs:=firstsD.map λf:Nat=>V.int (f:Int)) (λi ys Z H5=>(∃ v,Z = [v,some (.ref c),some (.ref ly),some (.ref lh)])/\ao H4 H5/\∃ ps:List Addr,ys=ps.map V.ref/\ps.length=i/\∀ (j:Nat) (p:Addr) (f:Nat),ps[j]? = some p->firstsD[j]? = some f->∃ ss,H5 p=some (.lst (ss.map cy))/\qj rs ls hs f ss) ⟨⟨_,rfl⟩,ao.refl _,[],rfl,rfl,λj p f e=>by simp at e⟩ ?_ ?_ ?_
     . rintro i ys Z H5 hi ⟨_,s5,ps,rfl,e,_⟩;refine⟨aI.of (s5 _ _ htt),?_⟩
       have:i<=4:=hi
       rw[aac,e,aaJ];lia
     . rintro i x ys Z H5 hx ⟨⟨v,rfl⟩,s5,ps,rfl,hl,hps⟩;rw[aah] at hx;obtain⟨f,hf,rfl⟩:=Option.map_eq_some_iff.mp hx;have hfb:f<2 ^ 4100:=by
         have hm:=aak hf
         have:f<=128:=by
           simp only[firstsD,aaQ,aaS,or_false] at hm
           lia
         exact aaG this (by decide)
       have s45:=s4.trans s5;ac_rfl;refine⟨c,ly,lh,prs,rs,ls,hs,f,rfl,s45 _ _ hc,Tn.same s45,az,U3,Ti,Tc,hwy4.same s5,s5 _ _ T2,hO,hfb,λp ss H6 s6 np hp hP=>?_⟩;refine⟨⟨_,rfl⟩,s5.trans s6,ps++[p],by rw[aaE];rfl,by rw[aab,hl];rfl,λj p' f' e ef=>?_⟩;by_cases hj:j<i
       . rw[aas (by lia)] at e;obtain⟨ss',e1,e2⟩:=hps j p' f' e ef;exact⟨ss',s6 _ _ e1,e2⟩
       . rw[aaq (by lia)] at e;cases hjj:j - ps.length with
         | zero =>
           rw[hjj] at e
           have:p=p':=by simpa using e
           subst this;obtain rfl:j=i:=by lia
           rw[hf] at ef;cases ef;exact⟨ss,hp,hP⟩
         | succ m=>rw[hjj] at e;simp at e
     rintro ys Z H5 ⟨_,s5,ps,rfl,hl,hps⟩ lf Vr;obtain⟨p0,p4,p5,p6,rfl⟩:∃ p0 p4 p5 p6,ps=[p0,p4,p5,p6]:=by
       match ps,hl with
       | [p0,p4,p5,p6],_=>exact⟨_,_,_,_,rfl⟩
     obtain⟨sb,hb,Pb⟩:=hps 0 p0 128 rfl rfl;obtain⟨s4',h4,P4⟩:=hps 1 p4 16 rfl rfl;obtain⟨s5',h5,P5⟩:=hps 2 p5 32 rfl rfl;obtain⟨s6',h6,P6⟩:=hps 3 p6 64 rfl rfl;have sn:=ae (o:=.lst ([p0,p4,p5,p6].map V.ref)) Vr;have Vd:(upd H5 lf (.lst ([p0,p4,p5,p6].map V.ref))) lf=some (.lst [V.ref p0,.ref p4,.ref p5,.ref p6]):=aa;have s6:=(s4.trans s5).trans sn;have hlh6:=sn _ _ (s5 _ _ T2);have hb6:=sn _ _ hb;have h46:=sn _ _ h4;have h56:=sn _ _ h5;have h66:=sn _ _ h6;generalize (upd H5 lf (.lst ([p0,p4,p5,p6].map V.ref)))=H6 at s6 Vd hlh6 hb6 h46 h56 h66 ⊢;clear hps sn hb h4 h5 h6 Vr s5 s4 T2 hwy4 htt hwy3 hlh;ac_rfl
     with_reducible refine Of ?_
     ac_rfl;rename_i le Ud;have VV:∀ {b:Addr} {o:HO},H6 b=some o->b≠le:=λe z=>by subst z;rw[Ud] at e;cases e
     have sn:=ae (o:=.lst []) Ud;refine⟨lh,p0,p4,p5,p6,_,_,_,_,_,rfl,ar.of (sn _ _ hlh6),ar.of (sn _ _ hb6),ar.of (sn _ _ h46),ar.of (sn _ _ h56),ar.of (sn _ _ h66),?_⟩;have nleH:H le=none:=aG s6 Ud;have S4:=hO.len
     refine Jp (by rw [aac, aac, Pb.pi.len, S4]) (by rw [aac, aac, P4.pi.len, S4]) (by rw [aac, aac, P5.pi.len, S4]) (by rw [aac, aac, P6.pi.len, S4])
       (λi Z HD=>ao H6 HD/\∃ (ev:List V) (u1 u2 u3 u4 u5:Option V),Z = [some (.ref c),some (.ref d),some (.ref ly),some (.ref lh),some (.ref lf),some (.ref le),u1,u2,u3,u4,u5]/\HD le=some (.lst ev)/\nM HD ev ((ab9 i).map (gC hs sb s4' s5' s6')))
       ⟨sn,[],_,_,_,_,_,rfl,aa,nM.nil⟩ (λi Z HD hi ⟨s,_⟩=>⟨ar.of (s _ _ hlh6),ar.of (s _ _ hb6),ar.of (s _ _ h46),ar.of (s _ _ h56),ar.of (s _ _ h66)⟩) ?_ ?_
     . rintro i x1 x2 x3 x4 x5 tn Z HD e1 e2 e3 e4 e5 ⟨s,ev,u1,u2,u3,u4,u5,rfl,To,hE⟩ nT;rw[aah] at e1 e2 e3 e4 e5;obtain⟨oh,f1,rfl⟩:=Option.map_eq_some_iff.mp e1;obtain⟨ob,f2,rfl⟩:=Option.map_eq_some_iff.mp e2;obtain⟨o4,f3,rfl⟩:=Option.map_eq_some_iff.mp e3;obtain⟨o5,f4,rfl⟩:=Option.map_eq_some_iff.mp e4;obtain⟨o6,f5,rfl⟩:=Option.map_eq_some_iff.mp e5;clear e1 e2 e3 e4 e5;have hi:i<hs.length:=(List.getElem?_eq_some_iff.mp f1).1;have hz:ev.length<aal:=by
         rw[hE.1,aac,List.length_range,aaJ];lia
       have hr:(ab9 (i+1)).map (gC hs sb s4' s5' s6')=(ab9 i).map (gC hs sb s4' s5' s6')++[gC hs sb s4' s5' s6' i]:=by
         rw[List.range_succ,aaE];rfl
       have hnT:tn≠le:=λz=>by subst z;rw[To] at nT;cases nT
       have Wr:(upd HD tn (.tup [bN oh,cy ob,cy o4,cy o5,cy o6])) le=some (.lst ev):=ai To nT;have sT:=s.trans (ae (o:=.tup [bN oh,cy ob,cy o4,cy o5,cy o6]) nT);have hET:=hE.to (H':=upd HD tn (.tup [bN oh,cy ob,cy o4,cy o5,cy o6])) (λb xs e=>ai e nT);cases oh with
       | none =>
         have UU:gC hs sb s4' s5' s6' i=none:=by unfold gC;rw[f1];rfl
         simp only[bN] at Wr sT hET ⊢;ac_rfl;refine t_ Wr hz ?_;refine⟨bC sT Ud,ev++[.aC],_,_,_,_,_,rfl,aa,?_⟩;rw[hr,UU];exact(hET.to (qM Wr)).snoc rfl
       | some h =>
         obtain⟨b,g2⟩:=y3 hO Pb f1;obtain⟨b4,g3⟩:=y3 hO P4 f1;obtain⟨b5,g4⟩:=y3 hO P5 f1;obtain⟨b6,g5⟩:=y3 hO P6 f1;rw[f2] at g2;rw[f3] at g3;rw[f4] at g4;rw[f5] at g5;cases g2;cases g3;cases g4;cases g5
         have UU:gC hs sb s4' s5' s6' i=some ⟨h,b,b4,b5,b6⟩:=by
           unfold gC gN;rw[f1,f2,f3,f4,f5];rfl
         simp only[bN,cy] at Wr sT hET ⊢;ac_rfl;rename_i tq ntq tp ntp;have k1:=ai (o:=.tup [V.int (b4:Int),V.int (b5:Int),V.int (b6:Int)]) Wr ntq;have k2:=ai (o:=.tup [V.int h,V.int (b:Int),.ref tq]) k1 ntp;have s1:=sT.trans ((ae (o:=.tup [V.int (b4:Int),V.int (b5:Int),V.int (b6:Int)]) ntq).trans (ae (o:=.tup [V.int h,V.int (b:Int),.ref tq]) ntp));refine t_ k2 hz ?_;refine⟨bC s1 Ud,ev++[.ref tp],_,_,_,_,_,rfl,aa,?_⟩;rw[hr,UU];refine((hET.to (λb xs e=>ai (ai e ntq) ntp)).to (qM k2)).snoc ⟨tp,tq,rfl,qM k2 _ _ aa,qM k2 _ _ (ai aa ntp)⟩
     . rintro Z HD ⟨s,ev,u1,u2,u3,u4,u5,rfl,To,hE⟩;ac_rfl;refine q le ev _ HD (s6.trans s) nleH To hE.ents ⟨?_,λ_=>⟨hs,sb,s4',s5',s6',⟨hO,Pb,P4,P5,P6⟩,λi hi=>?_⟩⟩
       . rw[aac,List.length_range,aac,S4]
       . rw[aah,List.getElem?_range (by rw[aac,S4];exact hi)];rfl
theorem I_ {K:W.Frag}{b:Addr}{g:TG}{tb:TS}{D:Ends}(Pv:Nat->L2.St->Hp->Prop)(h0:Pv 0 Z H)(hl:∀ i Z H,i<=xs.length->Pv i Z H->ar K H b xs)
   (hs:∀ i x T Z H,xs[i]? = some x->Pv i Z H->H T=none->g (.ref T) Z (upd H T (.tup [.int ((i:Int)+1),x])) λZ2 H2=>tb { D with nx:=Pv (i+1),ct:=Pv (i+1),bk:=D.nx } Z2 H2) (hd:∀ Z H,Pv xs.length Z H->D.nx Z H):zv (Kf K b) g tb D Z H:=by
 refine⟨λi m Z H=>m=xs.length - i/\i<=xs.length/\Pv i Z H,⟨xs.length,by simp,aaU _,h0⟩,?_⟩;rintro i m Z H ⟨rfl,hi,p⟩;have q1:=hl i Z H hi p;by_cases S9:i<xs.length
 . refine .inr ⟨⟨xs, xs[i], q1, by simp[S9]⟩, Pv (i + 1), λZ' H' p' => ⟨xs.length - (i + 1), by omega, rfl, S9, p'⟩, λx H' y => ?_⟩;obtain⟨T,x',rfl,hT,rfl,hxy⟩:=y;exact hs i x' T Z H (hxy _ q1) p hT
 . have e : i = xs.length := by omega
   subst e;exact .inl ⟨⟨xs,q1,aag _⟩,hd Z H p⟩
theorem a8.at2:∀ {vs:List V} {cs:List bM} {i:Nat} {v:V},a8 H vs cs->vs[i]? = some v->∃ c,cs[i]? = some c/\iO H v c
 | [],cs,i,v,_,e=>by simp at e
 | u::vs,[],i,v,h,_=>h.elim
 | u :: vs, c :: cs, 0, v, h, e => by
   cases e
   exact⟨c,rfl,h.1⟩
 | u::vs,c::cs,i+1,v,h,e=>a8.at2 (vs:=vs) (cs:=cs) (i:=i) h.2 (by simpa using e)
theorem va (T:TX):ME 5 a.ax "drop" (MJ K a):=by
 refine aB 4 T.cq T.wu gf ?_ ?_;ac_nf
 . obtain⟨m, pk, pt, v, S, es, kvs, rfl, MM, O, TT, LO, S9, T_, q⟩ := h;obtain⟨ev,TI,EV⟩:=id TT;obtain⟨dx,pc,ph,pl,fs,prs,cs,M⟩:=id MM;obtain⟨dt,l,d,ht,hl,hd,WN⟩:=id TI;have f1:=M.f.av;have f2:=M.f.held;have f3:=M.f.cells;have f5:=M.f.aU;have f6:=M.f.table;have fl:=M.f.len;have fn:=M.f.no;have hm:=M.hm;have hh:=M.hh;have Tc:=M.hl;have hmany:=O.many;have ha0:=O.fM;have hwl:=BH 5000 S.av (S.held.map V.int) S.cells (es:=es);have hwv:=O.walk es;unfold MS.walk at hwv;unfold MS.dropped at q;walk_at"h";have nd:=gf.nd;refine' aW ?_ ?_
   exact (Jy rfl rfl rfl (Mh (i := 2) gf.nd rfl (Or.inl rfl) (Lm (uR T) (hr.mono (by decide)) rfl (aj (cD (K := K) rfl (pv 0)) (aj (cD (K := K) rfl (pv 0)) (aj (cD (K := K) rfl (pv 0)) (aj (cD (K := K) rfl (pv 0)) aD)))))) T.ya.choose_spec rfl (λea => (aW (vY (K := K) rfl (pv 0) gP)
     (fq CJ))))
   walk_at"n";walk_at"g";exact(LA (K:=K) rfl rfl T.B_ (aj (pv 2) aD) aX);walk_at"tG";walk_at"m";walk_at"f";exact(PW.pt (lX (dO (lW (K:=K) rfl hr.units) (cB (dj (K:=K) rfl) (pv 4) aX (λ_ _=>rfl)) (cD (K:=K) rfl (pv 0)) (dZ _)) (l6 (Bz (Au (i_ hr) (cQ lZ (cB (dj (K:=K) rfl) (pv 4) aX (λ_ _=>rfl)) aX) (cD (K:=K) rfl (cD (K:=K) rfl (pv 0))))))));walk_at"tB";exact cL;exact λ_=>rfl;walk_at"c";walk_at"m";walk_at"tS";walk_at"s";symm;refine⟨pt,dt,l,d,ph,pl,S.av,ev,es,S.held.map V.int,S.cells,rfl,ht,hl,EV,ar.of hh,O.kn,ar.of Tc,O.pl,⟨by lia,by lia⟩,λhW p us H1 s1 np hp Ve=>?_,λr hW d1 H1 s1 Vv=>⟨rfl,d1,rfl,?_⟩⟩
   . rw [hW] at q;dsimp only at q;have Uz:=s1 _ _ hm;have M1:=M.to s1;have Vv:=s1 _ _ hd;have ht1:=s1 _ _ ht;unfold fR at ht1;generalize hcals:(bq es 5000 S.av (S.held.map V.int) S.cells).1=cals at q Ve hwl hwv;symm;refine ⟨p,us,rfl,rfl,ar.of hp,?_⟩;refine I_ (xs:=us) (λi Z H2=>(∃ u w,Z = [some (.ref m),some (.int v),some (.ref p),u,w])/\ao H1 H2/\∀ j c,j<i->cals[j]? = some c->landAt S.rows.length kvs c=false) ⟨⟨_,_,rfl⟩,ao.refl _,λj c hj=>absurd hj (acf _)⟩ (λi Z H2 _ ⟨_,s,_⟩=>ar.of (s _ _ hp)) ?_ ?_
     . rintro i x T1 Z H2 hx ⟨⟨u,w,rfl⟩,s2,VJ⟩ hT;obtain⟨c,hc,U4⟩:=a8.at2 Ve hx;obtain⟨t,q',rfl,Vc,hq2⟩:=id U4;have T7:=s2 _ _ Uz;have UJ:=s2 _ _ Vv;have US:=s2 _ _ ht1;have hq12:=s2 _ _ Vc;have inv:landAt S.rows.length kvs c=false->∀ j c',j<i+1->cals[j]? = some c'->landAt S.rows.length kvs c'=false:=λhf j c' hj e=>by
         rcases Nat.lt_or_ge j i with z | z
         . exact VJ j c' z e
         . have : j = i := by lia
           subst this;rw[hc] at e;cases e;exact hf
       by_cases hr1:c.r=(S.rows.length:Int)
       . symm;exact⟨⟨_,_,rfl⟩,by walk_at"same",inv (by unfold landAt;rw[decide_eq_false (λz=>z hr1)];rfl)⟩
       . symm;refine DA ?_;symm;refine zM (by walk_at"hlk") ?_;cases hv:cP kvs (.inl (c.r - 1)) with
         | none =>
           symm;exact⟨⟨_,_,rfl⟩,by walk_at"same",inv (by unfold landAt;rw[hv,Bool.and_comm];rfl)⟩
         | some val =>
           obtain⟨n,rfl⟩:=LO _ _ hv;have hfi:cals.findIdx? (landAt S.rows.length kvs)=some i:=by
             rw[List.findIdx?_eq_some_iff_getElem];have hi:i<cals.length:=(List.getElem?_eq_some_iff.mp hc).1;have hci:cals[i]=c:=(List.getElem?_eq_some_iff.mp hc).2;refine⟨hi,?_,λj hj=>?_⟩
             . rw[hci];unfold landAt;rw[hv,decide_eq_true hr1];rfl
             . have hj' : j < cals.length := by lia
               have:=VJ j cals[j] hj (aaa hj')
               rw[this];exact aap
           rw[hfi] at q;dsimp only at q;rw[hc] at q;dsimp only at q;have hln:vA kvs c=some n:=by unfold vA;rw[hv]
           rw[hln] at q;dsimp only at q;rw[adE];symm;refine aY (by walk_at"hlk") (fn _ (by nofun)) ((uH T).mono (by decide)) ?_;symm;have Ur:ao H (upd H2 T1 (.tup [.int ((i:Int)+1),.ref t])):=s1.trans (s2.trans (ae hT));refine⟨m,pk,pt,t,v,n,i+1,c,S,es,kvs,rfl,MM.to Ur,O,TT.same Ur,(U4.same s2).same (ae hT),(hwv c (aak hc)).2.2.2,T_,hv,λH' k M'=>?_⟩;symm;exact q H' ((aQ.of_same Ur).trans k) M'
     . rintro Z H2 ⟨⟨u,w,rfl⟩,s2,VJ⟩;have T7:=s2 _ _ Uz;have hfi:cals.findIdx? (landAt S.rows.length kvs)=none:=by
         rw[List.findIdx?_eq_none_iff];intro c hc;obtain⟨j,hj,e⟩:=List.mem_iff_getElem.mp hc;have S4:=Ve.len;exact VJ j c (by lia) (by rw[aaa hj,e])
       rw[hfi] at q;symm;rw[iK];exact q _ (aQ.m_ (aQ.of_same (s1.trans s2))) ⟨dx,pc,ph,pl,_,prs,cs,(M1.to s2).we aQ.refl T7 (M1.to s2).hh (M1.to s2).hl (M1.to s2).hk ((M1.to s2).clsAt aQ.refl) M.n2 M.n3 ((M.f.setState _).Oi _)⟩
   . rw[hW] at q;have Uz:=s1 _ _ hm;symm;exact q _ (aQ.m_ (aQ.of_same s1)) (M.qT s1 _)
theorem B9 (T:TX):FE 5 "_law_held" (gZ K a):=by
 refine bc 4 T.BQ kW ?_ ?_;ac_nf
 . obtain⟨m, t, lb0, pk, pt, S, es, ls, us, rfl, MM, O, ⟨ev, TI, EV⟩, hb, hcb, R, hc, q⟩ := h;obtain⟨dx,pc,ph,pl,fs,prs,cs,M⟩:=id MM;obtain⟨dt,l,d,ht,hl,hd,WN⟩:=TI;have f1:=M.f.av;have f2:=M.f.held;have f3:=M.f.cells;have fn:=M.f.no;have hm:=M.hm;have hh:=M.hh;have Tc:=M.hl;have ha0:=O.fM;have hmany:=O.many;have hW:=xa R O hc;have Vw:=BF R.act;have hrl:=R.lb.len;walk_at"h";have nd:=kW.nd;refine' aW ?_ ?_;exact(c8 (i:=3) kW.nd rfl (Or.inl rfl) (bp (uR T) (hr.mono (by decide)) Jz rfl (aj (pv 1) (aj (kJ (P:=P) (w:=w) (K:=K) (mg:=mg) (base:=base) (k:=1) ⟨rfl,rfl,rfl,rfl,rfl⟩ (pv 0) (hr.mono (by decide)) b_) (aj (kJ (P:=P) (w:=w) (K:=K) (mg:=mg) (base:=base) (k:=1) ⟨rfl,rfl,rfl,rfl,rfl⟩ (pv 0) (hr.mono (by decide)) b_) (aj (kJ (P:=P) (w:=w) (K:=K) (mg:=mg) (base:=base) (k:=1) ⟨rfl,rfl,rfl,rfl,rfl⟩ (pv 0) (hr.mono (by decide)) b_) aD))))));walk_at"m";walk_at"tS";walk_at"s";symm;refine aY hm (fn _ (by nofun)) ((nR T).mono (by decide)) ?_;symm;refine⟨m,dx,fs,_,rfl,hm,f1,?_⟩;symm;refine aY hm (fn _ (by nofun)) ((jm T).mono (by decide)) ?_;symm;refine⟨m,dx,ph,fs,_,rfl,hm,f2,hh,λlb nlb=>?_⟩;symm;refine aY (ai hm nlb) (fn _ (by nofun)) ((kE T).mono (by decide)) ?_;symm;refine⟨m,dx,pl,fs,_,rfl,ai hm nlb,f3,ai Tc nlb,λlp VD=>?_⟩;symm;have s0:ao H (upd (upd H lb (.lst (S.held.map V.int))) lp (.lst (S.cells.map V.int))):=(ae nlb).trans (ae VD);refine⟨t,dt,l,d,lb,lp,S.av,ev,es,S.held.map V.int,S.cells,rfl,s0 _ _ ht,s0 _ _ hl,EV.same s0,ar.of (ai aa VD),O.kn,ar.of aa,O.pl,⟨by lia,by lia⟩,λ_ p W7 H1 s1 np hp Ve=>?_,λr hr=>by rw[hW] at hr;cases hr⟩;rw[hW] at Ve;have Ve:a8 H1 W7 S.bk:=Ve;have S1:=s0.trans s1;have hb1:=S1 _ _ hb;have hcb1:=hcb.same S1;have Uz:=S1 _ _ hm;have hk1:=S1 _ _ M.hk;have hcl1:ClsAt H1 cs S.calls:=M.calls.to λb xs e=>S1 _ _ e;have f4:=M.f.calls;clear s0 s1 nlb VD hb hcb;symm;refine JU (.list (S.bk.map ny)) (jJ (ar.of hp) Ve.dp) (jJ (ar.of hb1) hcb1.dp) (rP _) ?_;symm;refine aY Uz (fn _ (by nofun)) ((uw T).mono (by decide)) ?_;symm;refine⟨m,dx,pk,fs,cs,rfl,Uz,f4,hk1,λl9 n9=>?_⟩;symm;have s9:ao H1 (upd H1 l9 (.lst cs.reverse)):=ae n9;refine JU (.list (S.bk.map ny)) (jJ (ar.of aa) (by rw[Qe];exact(hcl1.rev.to λb xs e=>s9 _ _ e).dp)) (jJ (ar.of (s9 _ _ hb1)) (hcb1.same s9).dp) (rP _) ?_;exact q _ (S1.trans s9)
theorem cA.to {cs:List Cm}(h:cA H vs cs)(s:∀ b xs,H b=some (.tup xs)->H' b=some (.tup xs)):cA H' vs cs:=⟨h.1,λk o e=>let ⟨v,e1,q,e2,e3⟩:=h.2 k o e;⟨v,e1,q,e2,s _ _ e3⟩⟩
theorem Lh {D PP:Addr->Hp->Prop}{G:Prop}(key:∀ lf H3,D lf H3->PP lf H3)(use:(∀ lf H3,D lf H3->PP lf H3)->G):G:=use key
theorem Bd {HX:Hp}{R:Hp->Prop}{b:Addr}{cs:List Cm}(h:ao H HX)(hb:HX b=some (.lst xs))(hc:cA HX xs cs)(k:∀ H9,ao H H9->H9 b=some (.lst xs)->cA H9 xs cs->R H9):R HX:=k HX h hb hc
variable {l:Addr}
theorem wz (h:H l=some (.lst ys))(b:Addr)(xs:List V)(e:H b=some (.tup xs)):(upd H l o) b=some (.tup xs):=by
 rw[ak (λz=>by subst z;rw[h] at e;cases e)];exact e
theorem ug (T:TX):FE 6 "checked" (wm K a):=by
 refine bc 5 T.DK mM ?_ ?_;ac_nf
 . obtain ⟨c, t, prs, rs, ev, es, ls, rfl, hc, Tn, ⟨dt, l, d, ht, hl, hd⟩, To, E', UE, h64, q⟩ := h;have S6:=Tn.1;have hel:=To.1;have en:=E'.ne;have rn:=E'.nr;unfold fR at ht;walk_at "h";have nd:=mM.nd;refine' aW ?_ ?_;walk_at "tS";walk_at "c";walk_at "c";walk_at "c";walk_at "n";walk_at "g";walk_at "tI";walk_at "tG";walk_at "m";exact (fZ (zY (K:=K) rfl abG PySem.F.slot_list_extend PySem.F.type_list_extend F4 (pv 3) (aj (bp (q0 T) (hr.mono (by decide)) b_ rfl (aj (pv 0) (aj (pv 2) (aj (pv 4) aD)))) aD)));exact λ_=>rfl;walk_at "n";walk_at "g";exact (dP (K:=K) rfl (cJ (Al rfl) rfl T.JE Ip (aj (cD (K:=K) rfl (pv 1)) aD)));walk_at "tG";walk_at "n";exact (c8 (i:=5) mM.nd rfl (Or.inl rfl) (wC (i_ hr) (cD (K:=K) rfl (pv 1)) (pv 4) (λ_ _=>rfl)));walk_at "c";walk_at "m";walk_at "tS";exact λ_=>rfl;walk_at "m";walk_at "tS";walk_at "s";symm;rw [show (abX V.ref prs).length=rs.length from by rw [aac,S6]];refine gL (λhh=>?_) (λhh=>?_)
   . symm;rename_i t1 Vq l1 UP;have hck:dH rs es ls []=[⟨-1,-1,.length⟩]:=by unfold dH;rw [if_neg (by lia)]
     exact q l1 [.ref t1] [] _ (by walk_at"same") aa (λz=>absurd z (by lia)) (by rw[hck];exact cA.one ⟨t1,rfl,by bv_omega⟩)
   have hre:es.length=rs.length:=by lia
   have hck:∀ ks,dH rs es ls ks=dF rs es++gK rs es rs.length++jU rs es ls ks:=λks=>by unfold dH;rw[if_pos hre]
   refine' Lh (D:=λlcm H1=>∃ us,H lcm=none/\ao H H1/\H1 lcm=some (.lst us)/\cA H1 us (dF rs es)) (PP:=?PP) ?key (λkk=>?use)
   case use =>
     symm;rename_i lcm V5;refine cW (λh1=>?_) (λh1=>?_)
     . have h1' : 0 < rs.length := by rw [aac] at h1; lia
       obtain⟨v,oe,TU,Uc,hmem,hv⟩:=To.at (c:=0) (acJ _) (by lia)
       obtain⟨qs,st1,W8⟩:=T.mz;symm;refine Qh oe lL (hv.same (ae V5)).dp (BG (st1 _) (W8 _)) ?_;have Uc:es[0]? = some oe:=Uc;have Tg:dF rs es=if ko oe lL=true then [] else [⟨-1,0,.start⟩]:=by unfold dF;rw[if_pos h1',Uc];rfl
       cases hb:ko oe lL with
       | true =>
         rw[hb,if_pos rfl] at Tg;ac_rfl;refine dQ (ar.of (by walk_at"hlk")) ?_;clear h1 h1' TU Uc;symm;refine Bd (H:=H) (b:=lcm) (cs:=dF rs es) (by walk_at"same") aa (by rw[Tg];exact cA.nil) (λH9 s9 hb9 hc9=>?_);exact kk lcm H9 ⟨_,V5,s9,hb9,hc9⟩
       | false =>
         rw[hb,if_neg (by decide)] at Tg;ac_rfl;rename_i t1 Vq;refine dQ (ar.of (by walk_at"hlk")) ?_;clear h1 h1' TU Uc;symm;refine Bd (H:=H) (b:=lcm) (cs:=dF rs es) (by walk_at"same") aa ?_ (λH9 s9 hb9 hc9=>?_)
         . rw[Tg];exact(cA.one ⟨t1,rfl,aa⟩).to (wz (by walk_at"hlk"))
         . exact kk lcm H9 ⟨_,V5,s9,hb9,hc9⟩
     . have Tg : dF rs es = [] := by unfold dF; rw [if_neg (by rw [aac] at h1; lia)]
       symm;refine Bd (H:=H) (b:=lcm) (cs:=dF rs es) (by walk_at"same") aa (by rw[Tg];exact cA.nil) (λH9 s9 hb9 hc9=>?_);exact kk lcm H9 ⟨_,V5,s9,hb9,hc9⟩
   case key =>
     rintro lcm H1 ⟨us,V5,s1,hlc,VM⟩;have sf:=EO rs es;refine fV (λi Z H2=>(∃ u1 u2 u3,Z = [some (.ref c),some (.ref t),some (.ref l),some (.ref lcm),u1,u2,u3])/\ao H H2/\∃ us,H2 lcm=some (.lst us)/\cA H2 us (dF rs es++gK rs es i)) ⟨⟨_,_,_,rfl⟩,s1,us,hlc,by rw[show gK rs es 0=[] from rfl,aaM];exact VM⟩ ?_ ?_
     . rintro i Z H2 hi ⟨⟨u1,u2,u3,rfl⟩,s2,us2,UK,Uw⟩;rw[aac] at hi;clear s1 hlc VM;symm;refine⟨c,l,i,prs,rs,ev,es,by rw[Int.zero_add],s2 _ _ hc,Tn.same s2,s2 _ _ hl,To.same s2,E',by lia,hre.symm,λp1 W7 H3 s3 T9 hcm3 np1=>?_⟩;have VQ:=s3 _ _ UK;have hcl2:=Uw.1;have hcl3:=hcm3.1;have f1:=ni rs es i;have f2:=xJ rs es i;rw[aab] at hcl2;symm;refine Jr VQ T9 (by rw[aaJ];lia) ?_;refine⟨⟨_,_,_,rfl⟩,λb o e=>by rw[ak (ag e V5)];exact(s2.trans s3) b o e,_,aa,?_⟩;rw[r9,<- acn];exact((Uw.same s3).app hcm3).to (wz VQ)
     rintro Z H2 ⟨⟨u1,u2,u3,rfl⟩,s2,us2,UK,Uw⟩;rw[show(((abX V.ref prs).length:Nat):Int).toNat=rs.length from by rw[aac,S6];lia] at Uw;clear s1 hlc VM;have US:=s2 _ _ ht;have UJ:=s2 _ _ hd;have f1:=ni rs es rs.length;symm;refine Lc UJ (G3 ls) (by rw[aac];exact h64) λks pp WA hpw hpp=>?_;have hkl:ks.length<64:=by rw[WA.length_eq,aac];exact h64
     symm;refine fi (K:=K) (a:=pp) (xs:=ks.map V.int) (λi Z H4=>(∃ u1 u2 u3,Z = [some (.ref c),some (.ref t),some (.ref l),some (.ref lcm),u1,u2,u3])/\ao H H4/\H4 pp=some (.lst (ks.map V.int))/\∃ us,H4 lcm=some (.lst us)/\us.length<=21000+i/\cA H4 us (dF rs es++gK rs es rs.length++jU rs es ls (ks.take i))) ⟨⟨_,_,_,rfl⟩,s2.trans (ae hpp),aa,us2,ai UK hpp,by rw[Uw.1,aab];lia,by rw[List.take_zero,show jU rs es ls []=[] from rfl,aaM];exact Uw.same (ae hpp)⟩ (λi Z H4 _ ⟨_,_,h4,_⟩=>ar.of h4) ?_ ?_
     . rintro i v Z H4 hvi ⟨⟨u1,u2,u3,rfl⟩,s4,hpp4,us4,hlc4,hul4,hcm4⟩;obtain⟨k,hk,rfl⟩:∃ n,ks[i]? = some n/\v=.int n:=by
         rw[aah] at hvi;obtain⟨p,hp,e⟩:=Option.map_eq_some_iff.mp hvi;exact⟨p,hp,e.symm⟩
       have hi:i<ks.length:=(List.getElem?_eq_some_iff.mp hk).1;obtain⟨kv,hkv,hke⟩:=List.mem_map.mp (WA.mem_iff.mp (aak hk));obtain⟨hv1,hv2⟩:=hG UE kv hkv;rw[hke] at hv1 hv2;rw[<- hv2] at hv1;have ht4:=s4 _ _ ht;have hd4:=s4 _ _ hd;have hnp:pp≠lcm:=λz=>by rw[z] at hpp;rw[UK] at hpp;cases hpp
       clear US UJ UK Uw s2;have htk:jU rs es ls (ks.take (i+1))=jU rs es ls (ks.take i)++((mO rs es k (lv ls k)).map λw=>Cm.mk k (lv ls k) w).toList:=by
         unfold jU;rw[abF,hk,abx,List.flatMap_append];simp
       rw[htk];symm;refine Ay ?_;symm;have dg:=gq.k (k:=.inl k) hd4;rw[hv1] at dg;refine⟨d,_,rfl,dg,?_⟩;symm;refine⟨c,l,k,lv ls k,prs,rs,ev,es,rfl,s4 _ _ hc,Tn.same s4,s4 _ _ hl,To.same s4,E',hre.symm,λH5 s5=>?_⟩;have Wn:=s5 _ _ hlc4;have hcm5:=hcm4.same s5;have s05:=s4.trans s5;have hpp5:=s5 _ _ hpp4;cases hw:mO rs es k (lv ls k) with
       | none =>
         show bg 6 V.aC _ _ _;symm;exact⟨⟨_,_,_,rfl⟩,s05,hpp5,us4,Wn,by lia,by show cA _ _ (_++(_++[]));rw[aaM];exact hcm5⟩
       | some w =>
         show bg 6 w.v _ _ _;symm;rename_i t1 Vq;refine⟨⟨_,_,_,rfl⟩,λb o e=>by rw[ak (ag e V5)];exact(s05.trans (ae Vq)) b o e,by rw[ak hnp];exact ai hpp5 Vq,_,aa,by rw[aab];show _+1<=_;lia,?_⟩;rw[<- acn];exact((hcm5.same (ae Vq)).app (cA.one (c:=⟨k,lv ls k,w⟩) ⟨t1,rfl,aa⟩)).to (wz (ai Wn Vq))
     . rintro Z H4 ⟨⟨u1,u2,u3,rfl⟩,s4,hpp4,us4,hlc4,hul4,hcm4⟩;rw[aac,aa1] at hcm4;symm;exact q lcm us4 ks H4 s4 hlc4 (λ_=>⟨WA,hpw⟩) (by rw[hck];exact hcm4)
theorem uT (T:TX):ME 6 a.ax "step" (KU K a):=by
 refine aB 5 T.cq T.vR kA ?_ ?_;ac_nf
 . obtain⟨m, pk, pt, S, es, kvs, rfl, MM, O, TT, LO, T_, q⟩ := h;obtain⟨dx,pc,ph,pl,fs,prs,cs,M⟩:=id MM;have f0:=M.f.state;have f1:=M.f.av;have f2:=M.f.code;have f3:=M.f.held;have fn:=M.f.no;have hm:=M.hm;have hc:=M.hc;have hh:=M.hh;have h8:=O.h8;unfold MS.bV at q;walk_at"h";have nd:=kA.nd;walk_at"v";by_cases hs:V.str S.state=V.str "runs"
   . have VU : S.state = "runs" := by injection hs
     rw[if_pos VU] at q;obtain⟨r,hr0,hmem⟩:=O.row VU;rw[hr0] at q;dsimp only at q;obtain⟨rok,rh0⟩:=O.ok r hmem;have a0:=O.fM;have a1:=O.rC VU;have hl:S.av.toNat<prs.length:=by rw[M.rows.1];lia
     have hp:prs[S.av.toNat]? = some prs[S.av.toNat]:=aaa hl;generalize prs[S.av.toNat]=p at hp;obtain⟨dxr,Tb⟩:=M.rows.2 _ _ _ hp hr0;have TU:cT (prs.map V.ref) S.av=some (.ref p):=by
       rw[show S.av=((S.av.toNat:Nat):Int) by lia];exact bG (by rw[aah,hp];rfl)
     symm;cases hD:r.dS with
     | false =>
       have rh:=rh0 hD;rw[Dd hD] at q;obtain⟨t1,ty1,kd,_,_⟩:=wD T rh ⟨dxr,Tb⟩
       with_reducible refine(?_:iU _ _ _ _)
       refine eX (λz=>by cases z) ty1 kd ?_;rw[hD];symm;refine aY hm (fn _ (by nofun)) ((yI T).mono (by decide)) ?_;symm;refine⟨m,p,pk,pt,r,S,rfl,MM,O,⟨dxr,Tb⟩,hmem,hD,M.n4 p (aak hp),a1,T_,λH' k M'=>?_⟩;symm;exact q H' k M'
     | true =>
       obtain⟨b,rfl⟩:∃ b,r=.drop b:=by cases r <;> first | exact⟨_,rfl⟩ | cases hD
       change H p=some (.ins a.be dxr (au "box" (.int b) [])) at Tb
       obtain⟨b0,b1⟩:aH b:=rok
       with_reducible refine(?_:iU _ _ _ _)
       refine eX (λz=>by cases z) (.ins Tb T.fX T.jh.1 T.eP T.eM T.jh.2) T.jz ?_;symm;refine aY hm (fn _ (by nofun)) ((va T).mono (by decide)) ?_;symm;refine⟨m,pk,pt,gI S.held b,S,es,kvs,rfl,MM,O,TT,LO,a1,T_,λH' k M'=>?_⟩;symm;exact q H' k M'
   . have VU : ¬ S.state = "runs" := λz => hs (by rw[z]);rw[if_neg VU] at q;symm;exact q H aQ.refl MM
theorem G_ (T:TX):iJ P w K mg base (eQ P w) 7 "guess" (vP K a)/\QZ P w K mg base (eQ P w) 7 "guess" (vP K a):=by
 refine Lk 6 T.Ii tD ?_ ?_;ac_nf
 . obtain ⟨c, lvv, prs, rs, ls, rfl, hc, Tn, az, Ti, Tc, hlv, qe, q⟩ := h;walk_at "h";have nd:=tD.nd;refine' aW ?_ ?_;walk_at "x";walk_at "tS";walk_at "n";exact (c8 (i:=3) tD.nd rfl (Or.inl rfl) (Aa (A3 T) (hr.mono (by decide)) b_ rfl (aj (bp (yF T) (hr.mono (by decide)) mB rfl (aj (pv 0) (aj (pv 2) aD))) (aj (pv 2) aD))));walk_at "n";walk_at "f";walk_at "y";walk_at "tT";walk_at "m";exact (nu T.iH rfl (aj gP aD));exact cL;walk_at "m";walk_at "x";walk_at "tS";walk_at "s";rcases hlv with ⟨rfl,rfl⟩ | ⟨d,rfl,hd⟩
   . ac_rfl;rename_i d nd;have s1:=ae (o:=.dK []) nd;have Vv:(upd H d (.dK [])) d=some (.dK (aw [])):=aa;generalize (upd H d (.dK []))=H1 at s1 Vv ⊢;have W3:=s1 _ _ hc;have hrs1:=Tn.same s1;ac_rfl;refine ⟨c,d,prs,rs,([]:List (Int×Int)),rfl,W3,hrs1,az,Ti,Tc,Vv,λhb H' s'=>qe (.inl hb) _ (s1.trans s'),λle ev es H2 s2 Ud VV To G=>?_⟩;have Ur:=s1.trans s2;have UJ:=s2 _ _ Vv;clear Ud;ac_rfl;intro xt dxt V4 U1 nne;refine' uG (kvs:=aw ([]:List (Int×Int))) (xs:=ev) V4 U1 ?h1 ?h2 ?q;(case h1=>exact ar.of VV)
     (case h2=>exact .inr ⟨d,rfl,UJ⟩)
     (case q =>
       intro l8 d8 H8 s8 nl8 nd8 n12 nxl WH WK VW hd8;refine⟨rfl,?_⟩;have s18:=Ur.trans s8;have nxtH:H xt=none:=aG Ur V4;have UM:=To.same s8;have nl8H:H l8=none:=aG Ur nl8;have nd8H:H d8=none:=aG Ur nd8;have Wg:TabOf K a H8 xt ev ([]:List (Int×Int)):=⟨dxt,l8,d8,WK,VW,hd8⟩
       clear s8 nl8 nd8 n12 nxl WH V4 U1 nne;ac_rfl;refine⟨c,xt,prs,rs,ev,es,([]:List (Int×Int)),rfl,s18 _ _ hc,Tn.same s18,Wg,UM,⟨az,DI G,Ti,by rw[G.len];exact Ti⟩,Tc.1,Tc.2.1,λp us ks H9 s9 hp hks VM=>?_⟩;have Wo:=(hks G.len).1;ac_rfl;refine dQ (ar.of hp) ?_;rw[VM.1];have s19:=s18.trans s9;by_cases hz:dH rs es ([]:List (Int×Int)) ks=[]
       . rw[hz];ac_rfl;exact q xt ev es ks H9 s19 nxtH ⟨dxt,l8,d8,nl8H,nd8H,s9 _ _ WK,s9 _ _ VW,s9 _ _ hd8⟩ (UM.same s9) G Wo hz
       . have : 0 < (dH rs es ([] : List (Int × Int)) ks).length := List.length_pos_iff.mpr hz;ac_rfl;refine jk ?_;ac_rfl;exact⟨by show 1<=1000;decide,qe (.inr ⟨es,ks,G,Wo,hz⟩) _ s19⟩)
   . have s1 := ao.refl H;have Vv:=hd;have W3:=s1 _ _ hc;have hrs1:=Tn.same s1;ac_rfl;refine ⟨c,d,prs,rs,ls,rfl,W3,hrs1,az,Ti,Tc,Vv,λhb H' s'=>qe (.inl hb) _ (s1.trans s'),λle ev es H2 s2 Ud VV To G=>?_⟩;have Ur:=s1.trans s2;have UJ:=s2 _ _ Vv;clear Ud;ac_rfl;intro xt dxt V4 U1 nne;refine' uG (kvs:=aw ls) (xs:=ev) V4 U1 ?h1 ?h2 ?q;(case h1=>exact ar.of VV)
     (case h2=>exact .inr ⟨d,rfl,UJ⟩)
     (case q =>
       intro l8 d8 H8 s8 nl8 nd8 n12 nxl WH WK VW hd8;refine⟨rfl,?_⟩;have s18:=Ur.trans s8;have nxtH:H xt=none:=aG Ur V4;have UM:=To.same s8;have nl8H:H l8=none:=aG Ur nl8;have nd8H:H d8=none:=aG Ur nd8;have Wg:TabOf K a H8 xt ev ls:=⟨dxt,l8,d8,WK,VW,hd8⟩
       clear s8 nl8 nd8 n12 nxl WH V4 U1 nne;ac_rfl;refine⟨c,xt,prs,rs,ev,es,ls,rfl,s18 _ _ hc,Tn.same s18,Wg,UM,⟨az,DI G,Ti,by rw[G.len];exact Ti⟩,Tc.1,Tc.2.1,λp us ks H9 s9 hp hks VM=>?_⟩;have Wo:=(hks G.len).1;ac_rfl;refine dQ (ar.of hp) ?_;rw[VM.1];have s19:=s18.trans s9;by_cases hz:dH rs es ls ks=[]
       . rw[hz];ac_rfl;exact q xt ev es ks H9 s19 nxtH ⟨dxt,l8,d8,nl8H,nd8H,s9 _ _ WK,s9 _ _ VW,s9 _ _ hd8⟩ (UM.same s9) G Wo hz
       . have : 0 < (dH rs es ls ks).length := List.length_pos_iff.mpr hz;ac_rfl;refine jk ?_;ac_rfl;exact⟨by show 1<=1000;decide,qe (.inr ⟨es,ks,G,Wo,hz⟩) _ s19⟩)
theorem HS (T:TX):iJ P w K mg base (eQ P w) 7 "guess" (vP K a):=(G_ T).1
theorem By (T:TX):FE 8 "_law_table" (y9 K a):=by
 refine bc 7 T.AQ gr ?_ ?_;ac_nf
 . obtain ⟨a0, c, d, ns, prs, rs, ls, rfl, hS, U6, hc, Tn, az, r1, r450, Tc, hd, qn, q⟩ := h;walk_at "h";have nd:=gr.nd;refine' aW ?_ ?_;walk_at "tS";walk_at "n";exact (LR rfl rfl rfl (Oz (i:=3) gr.nd rfl (Or.inl rfl) (HS T) (hr.mono (by decide)) rfl (aj (pv 1) (aj (pv 2) aD))) T.iH rfl (λea=>(fq (c8 (i:=3) gr.nd rfl (Or.inl rfl) j7))));walk_at "c";walk_at "c";walk_at "c";walk_at "c";walk_at "m";walk_at "tS";walk_at "s";ac_rfl
   with_reducible refine Lz ?_
   ac_rfl;refine⟨c,.ref d,prs,rs,ls,rfl,hc,Tn,az,by lia,Tc,.inr ⟨d,rfl,hd⟩,λ_ H1 s1=>⟨rfl,?_⟩,λt ev es ks H1 s1 nt Wg To G hks hz=>?_⟩
   . ac_rfl;exact qn H1 s1
   . obtain⟨dt, l, dd, nl, ndd, ht, hl, hdd⟩ := Wg;have L:=JW hz hks;have hS1:=aP s1 hS;have Vv:=s1 _ _ hd;have hel:=G.len;have hevl:=To.1;have hE:=MA L (DI G);refine(?_:Ends.nx _ [_,_,_,_,_,_] _);ac_rfl
     with_reducible refine eW (λhh=>?_) (λhh=>?_)
     . ac_rfl;exact q t H1 s1 ⟨dt,l,dd,ev,es,ht,hl,hdd,To,hel,λoe ho e he=>((hE oe ho) e he).1⟩
     . have m1 : Fb H H1 := ⟨s1⟩
       clear s1 nl ndd nt;have hl0 : 0<(ev.length:Int):=by lia
       have z0:=abj (cellAt ns 3) (show(ev.length:Int)≠0 by lia);have z1:=abb (cellAt ns 3) hl0;obtain⟨vf,oef,af,bf,mf,cf⟩:=To.at (c:=cellAt ns 3%(ev.length:Int)) z0 (by lia);ac_rfl;refine C3 (ar.of hl) λle Ud=>?_;have hen0:=To.same (ae Ud (o:=.lst ev));have cf0:=cf.same (ae Ud (o:=.lst ev));ac_rfl;refine dQ (ar.of aa) ?_;ac_rfl;refine⟨vf,oef,_,rfl,cf0,hE _ mf,λu oe' H2 s2 hu ho=>?_⟩;have hle2:=s2 _ _ (show(upd H1 le (.lst ev)) le=some (.lst ev) from aa);have hen2:=hen0.same s2;have UJ:=s2 _ _ (ai Vv Ud);have m2:Fb H1 H2:=⟨(ae Ud).trans s2⟩
       clear s2;ac_rfl;refine mG hle2 (Be z0 z1) ?_;have Wm:(upd H2 le (.lst (ev.set (cellAt ns 3%(ev.length:Int)).toNat u))) le=some (.lst (ev.set (cellAt ns 3%(ev.length:Int)).toNat u)):=aa;have WV:(upd H2 le (.lst (ev.set (cellAt ns 3%(ev.length:Int)).toNat u))) d=some (.dK (aw ls)):=by rw[ak (λz=>by rw[z,hle2] at UJ;cases UJ)];exact UJ
       have VR:=(hen2.set (j:=(cellAt ns 3%(ev.length:Int)).toNat) hu).off (o':=.lst (ev.set (cellAt ns 3%(ev.length:Int)).toNat u)) hle2 (.inl ⟨_,rfl⟩);have m3:Fb H (upd H2 le (.lst (ev.set (cellAt ns 3%(ev.length:Int)).toNat u))):=⟨bC (m1.s.trans m2.s) (aG m1.s Ud)⟩
       have hE3:∀ oe∈es.set (cellAt ns 3%(ev.length:Int)).toNat oe',EN oe:=λoe h=>by
         rcases acT h with z | z
         . exact λe he=>((hE oe z) e he).1
         . rw[z];exact ho
       have hel3:(es.set (cellAt ns 3%(ev.length:Int)).toNat oe').length=rs.length:=by rw[aa0];exact hel
       generalize ev.set (cellAt ns 3%(ev.length:Int)).toNat u=ev3 at Wm WV VR m3 ⊢;generalize es.set (cellAt ns 3%(ev.length:Int)).toNat oe'=es3 at VR hE3 hel3;generalize upd H2 le (HO.lst ev3)=H3 at Wm WV VR m3 ⊢;clear hle2 hen2 UJ hen0 cf0 m2 m1 Vv Ud hS1;ac_rfl;intro x dx nx ndx WH;refine' uG (kvs:=aw ls) (xs:=ev3) nx ndx ?h1 ?h2 ?q;(case h1=>exact ar.of Wm)
       (case h2=>exact .inr ⟨d,rfl,WV⟩)
       (case q =>
         intro l8 d8 H8 s8 nl8 nd8 n12 nxl WH WK VW hd8;refine⟨rfl,?_⟩;exact q x H8 (m3.s.trans s8) ⟨dx,l8,d8,ev3,es3,WK,VW,hd8,VR.same s8,hel3,hE3⟩)
theorem tQ (T:TX):FE 9 "_law_any_table" (y9 K a):=by
 refine bc 8 T.ua jV ?_ ?_;ac_nf
 . obtain ⟨a0, c, d, ns, prs, rs, ls, rfl, hS, U6, hc, Tn, az, r1, r450, Tc, hd, qn, q⟩ := h;walk_at "h";have nd:=jV.nd;walk_at "v";symm;refine eW (λhh=>?_) (λhh=>?_)
   . symm;exact⟨a0,c,d,ns,prs,rs,ls,rfl,hS,U6,hc,Tn,az,r1,r450,Tc,hd,qn,q⟩
   clear qn hh;symm;rename_i t1 Vq t2 nt2 le Ud;have hrl:=Tn.1;have S6:((prs.map V.ref).length:Int)=rs.length:=by rw[aac];lia
   refine⟨1,_,rfl,⟨by decide,by decide,by rw[S6];lia,by rw[S6];lia⟩,?_⟩;have en0:bK K (upd (upd (upd H t1 (HO.tup [V.int 16,V.int 32,V.int 64])) t2 (HO.tup [V.int 0,V.int 128,V.ref t1])) le (HO.lst [V.ref t2])) [V.ref t2] [some ⟨0,128,16,32,64⟩]:=bK.nil.snoc ⟨t2,rfl,t1,aI.of (ai aa Ud),aI.of (ai (ai aa nt2) Ud)⟩;have sB:ao H (upd (upd H t1 (HO.tup [V.int 16,V.int 32,V.int 64])) t2 (HO.tup [V.int 0,V.int 128,V.ref t1])):=(ae Vq).trans (ae nt2);generalize upd (upd H t1 (HO.tup [V.int 16,V.int 32,V.int 64])) t2 (HO.tup [V.int 0,V.int 128,V.ref t1])=HB at en0 sB Ud ⊢;have hdB:=sB _ _ hd;have hSB:=aP sB hS;clear Vq nt2 hd hS hc Tn;refine fV (λi Z HD=>∃ (ev:List V) (es:List (Option Ent)) (v:Option V),Z = [some (.ref a0),some (.ref c),some (.ref d),some (.ref le),v]/\ao HB HD/\HD le=some (.lst ev)/\bK K HD ev es/\es.length=1+i/\∀ oe∈es,KH oe) ⟨[.ref t2],[some ⟨0,128,16,32,64⟩],_,rfl,ae Ud,aa,en0,rfl,λoe ho=>?_⟩ ?_ ?_
   . have e : oe = some ⟨0, 128, 16, 32, 64⟩ := by simpa using ho
     rw[e];exact λe' z=>by cases z;exact⟨⟨by decide,by decide,by decide,by decide⟩,by decide,by decide⟩
   . rintro i Z HD hi ⟨ev,es,v,rfl,sD,VV,UU,hes,hE⟩;have hSD:=aP sD hSB;clear sB;symm;refine ⟨_,rfl,λu oe H3 s3 hu ho=>?_⟩;have Wm:=s3 _ _ VV;have hevl:=UU.1;have s4:=sD.trans s3;have VR:=UU.same s3;clear sD s3;symm;refine ⟨ev++[u],es++[oe],_,rfl,bC s4 Ud,aa,(VR.snoc hu).off Wm (.inl ⟨_,rfl⟩),by rw [aab,hes];rfl,λo VI=>?_⟩;rcases List.mem_append.mp VI with z | z
     . exact hE o z
     . have e : o = oe := by simpa using z
       rw[e];exact ho
   rintro Z HD ⟨ev,es,v,rfl,sD,VV,UU,hes,hE⟩;have hdD:=sD _ _ hdB;have SD:=sB.trans sD;have hesr:es.length=rs.length:=by rw[S6] at hes;lia
   clear sD sB hdB hSB en0 Ud S6 hes;symm;intro x dx nx ndx WH;refine' uG (kvs:=aw ls) (xs:=ev) nx ndx ?h1 ?h2 ?q;(case h1=>exact ar.of VV)
   (case h2=>exact .inr ⟨d,rfl,hdD⟩)
   (case q =>
     intro l8 d8 H8 s8 nl8 nd8 n12 nxl WH WK VW hd8;refine⟨rfl,?_⟩;exact q x H8 (SD.trans s8) ⟨dx,l8,d8,ev,es,WK,VW,hd8,UU.same s8,hesr,λoe h e he=>((hE oe h) e he).1⟩)
variable {ls:List (Int×Int)}
theorem Jf (T:TX){a0 d lc t lb xm pt pd:Addr}{b:Bool}{v4:Option V}{H:Hp}{dv:List V}{es:List (Option Ent)}{ns:List Int}{S:MS}(q:∀ (H':Hp),Q (V.bl true) H')(az:∀ r∈rs,iD r)(Vu:us.length=rs.length)(S6:prs.length=rs.length)(Tc:dN ls)(nck:lc≠pk)(nrk:l≠pk)
   (MM:cY a H xm pk pt S) (O:c5 S) (hSr:S.rows=rs) (R:Run S es ls) (T_:S.calls.length<=1) (hce:S.cells.length<=0) (TP:TabAt K a H pt pk es (aw ls)) (TT:TabAt K a H t pk es (aw ls)) (hl:H l=some (.lst us)) (V8:oZ H us rs) (hc:H lc=some (.lst (prs.map V.ref))) (hpd:H pd=some (.lst dv)) (hdv:a8 H dv S.bk) (jd:pd≠pk) :
   zv (oQ 0 (1+cellAt ns 11%40).toNat) (bg 10) (bY (eC (EJ (wY K (cj (gZ K a) E0 (ay (aA 8) (ay (aA 6) (ay (aA 9) aR)))))) (iN (tC (V.bl false))) dJ) (bY (eC (dC (br (gm K) (cE P w K mg base cb 1 (aae "word") E0 (aA 8) aR) (tC (V.str (aae "runs"))))) (iN (tC (V.bl true))) dJ) (bY (dk (cE P w K mg base cb 1 (aae "at") E0 (aA 8) aR) (bg 11)) (bY (dk (cE P w K mg base cb 1 (aae "boxes") E0 (aA 8) aR) (bg 12)) (bY (dk (nB (iQ K) (ay (cE P w K mg base cb 1 (aae "pile") E0 (aA 8) aR) aR)) (bg 13)) (bY (yY (cE P w K mg base cb 6 (aae "step") E0 (aA 8) aR)) (bY (eC (dC (br (gJ K) (br (bJ K) (br (bJ K) (aA 2) (aA 11)) (tC (V.int 0))) (tC (V.str (aae "call"))))) (dk (br (eE K) (oH (ay (ju (ay (br (eE K) (aA 11) (tC (V.int 1))) (ay (ju (ay (br (bJ K) (aA 12) (tC (V.int 4))) (ay (br (bJ K) (aA 12) (tC (V.int 5))) (ay (br (bJ K) (aA 12) (tC (V.int 6))) aR)))) (ay (aA 13) aR)))) aR)) (aA 9)) (bg 9)) dJ) (bY (eC (dC (br (gJ K) (br (bJ K) (br (bJ K) (aA 2) (aA 11)) (tC (V.int 0))) (tC (V.str (aae "back"))))) (dk (AH (jr K) (aA 9) (m6 (tC (V.int 1))) ij) (bg 9)) dJ) (eC (dC (br (gJ K) (br (bJ K) (br (bJ K) (aA 2) (aA 11)) (tC (V.int 0))) (tC (V.str (aae "drop"))))) (dk (AH (jr K) (aA 9) (m6 (cj qJ E0 (ay (aA 9) (ay (AN K (aA 6) (aae "landings")) (ay (nB (iQ K) (ay (aA 5) aR)) aR))))) ij) (bg 9)) dJ))))))))) { nx:=iN (cj (gZ K a) E0 (ay (aA 8) (ay (aA 6) (ay (aA 9) aR)))) { nx:=λx H'=>Q V.aC H',rt:=Q },rt:=({ nx:=λx H'=>Q V.aC H',rt:=Q }:Ends).rt } [some (V.ref a0),some (V.bl b),some (V.ref l),some (V.ref d),v4,some (V.ref lc),some (V.ref t),some (V.ref lb),some (V.ref xm),some (V.ref pd),none,none,none,none] H:=by
 refine fV (λi Z H'=>∃ (S:MS) (pd:Addr) (dv:List V) (v10 V2 v12 v13:Option V),Z = [some (.ref a0),some (.bl b),some (.ref l),some (.ref d),v4,some (.ref lc),some (.ref t),some (.ref lb),some (.ref xm),some (.ref pd),v10,V2,v12,v13]/\cY a H' xm pk pt S/\c5 S/\S.rows=rs/\Run S es ls/\S.calls.length<=1+i/\S.cells.length<=5*i/\TabAt K a H' pt pk es (aw ls)/\TabAt K a H' t pk es (aw ls)/\H' l=some (.lst us)/\oZ H' us rs/\H' lc=some (.lst (prs.map V.ref))/\H' pd=some (.lst dv)/\a8 H' dv S.bk/\pd≠pk) ⟨S,pd,dv,_,_,_,_,rfl,MM,O,hSr,R,T_,hce,TP,TT,hl,V8,hc,hpd,hdv,jd⟩ ?_ ?_
 . clear MM O hSr R T_ hce TP TT hl V8 hc hpd hdv jd;rintro i Z H1 hi ⟨S,pd,dv,v10,V2,v12,v13,rfl,MM1,O,hSr,R,T_,hce,TP1,TT1,hl1,htd1,W3,Wh,Wu,jd⟩;have hi40:i<40:=by lia
   ac_rfl;refine⟨xm,t,pd,pk,pt,S,es,ls,dv,rfl,MM1,O,TT1,Wh,Wu,R,by lia,λH2 s2=>?_⟩;have MM2:cY a H2 xm pk pt S:=MM1.to s2;have TP2:=TP1.same s2;have TT2:=TT1.same s2;have UG:=s2 _ _ hl1;have hc2:=s2 _ _ W3;have hpd2:=s2 _ _ Wh;have hdv2:=Wu.same s2;have htd2:=htd1.to (λb xs e=>s2 b (.tup xs) e);clear s2 MM1 TP1 TT1 hl1 W3 Wh Wu htd1;obtain⟨dx2,pc2,ph2,pl2,fs2,prs2,cs2,N⟩:=id MM2;have gn:=N.f.no;have T7:=N.hm;ac_rfl;refine aY T7 (gn _ (by nofun)) ((uv T).mono (by decide)) ?_;ac_rfl;refine⟨xm,dx2,fs2,_,rfl,T7,N.f.state,?_⟩;by_cases hs:V.str S.state=V.str "runs"
   . have VU : S.state = "runs" := by injection hs
     obtain⟨r,hr0,hmem⟩:=O.row VU;have a1:=O.rC VU;have a2:=O.fM;have hr1:rs[S.av.toNat]? = some r:=by rw[<- hSr];exact hr0
     obtain⟨⟨rok,rh⟩,rg⟩:=az r (aak hr1);have g0:=MT rok;have S9:S.av.toNat<us.length:=by rw[Vu,<- hSr];lia
     obtain⟨pu,hpu,Tb⟩:=htd2 _ _ _ (aaa S9) hr1;have TU:cT us S.av=some (.ref pu):=by
       rw[show S.av=((S.av.toNat:Nat):Int) by lia];exact bG (by rw[aaa S9,hpu])
     have h8:=O.h8;obtain⟨R5,VN,hcl5⟩:=Ji R O Tc VU hr0 (by lia) (by lia) g0;ac_rfl;refine aY T7 (gn _ (by nofun)) ((nR T).mono (by decide)) ?_;ac_rfl;refine⟨xm,dx2,fs2,_,rfl,T7,N.f.av,?_⟩;ac_rfl;refine aY T7 (gn _ (by nofun)) ((jm T).mono (by decide)) ?_;ac_rfl;refine⟨xm,dx2,ph2,fs2,_,rfl,T7,N.f.held,N.hh,λlh VE=>?_⟩;ac_rfl;refine aY (ai T7 VE) (gn _ (by nofun)) ((kE T).mono (by decide)) ?_;ac_rfl;refine⟨xm,dx2,pl2,fs2,_,rfl,ai T7 VE,N.f.cells,ai N.hl VE,λlp VD=>?_⟩;ac_rfl;have x1:lh≠xm:=(ag T7 VE).symm;have x2:lh≠pk:=(ag N.hk VE).symm;have s4:ao H2 (upd (upd H2 lh (.lst (S.held.map V.int))) lp (.lst (S.cells.map V.int))):=(ae VE).trans (ae VD);have h4:upd (upd H2 lh (.lst (S.held.map V.int))) lp (.lst (S.cells.map V.int)) lh=some (.lst (S.held.map V.int)):=ai aa VD
     try refine dQ (ar.of aa) ?_
     try rw[aac]
     ac_rfl;generalize upd (upd H2 lh (.lst (S.held.map V.int))) lp (.lst (S.cells.map V.int))=H4 at s4 h4 ⊢;have hm4:=s4 _ _ T7;have hk4:=s4 _ _ N.hk;refine aY hm4 (gn _ (by nofun)) ((uT T).mono (by decide)) ?_;ac_rfl;refine⟨xm,pk,pt,S,es,aw ls,rfl,MM2.to s4,O,TP2.same s4,Hm ls,by lia,λH5 k5 M5=>?_⟩;have kt5:∀ (b:Addr) (xs:List V),H2 b=some (.tup xs)->H5 b=some (.tup xs):=λb xs e=>k5 _ _ (s4 _ _ e) (λz=>by rw[z,T7] at e;cases e) (λz=>by rw[z,N.hk] at e;cases e);have q1:H5 l=some (.lst us):=k5 _ _ (s4 _ _ UG) (λz=>by rw[z,T7] at UG;cases UG) nrk;have q2:H5 lh=some (.lst (S.held.map V.int)):=k5 _ _ h4 x1 x2;have q3:H5 pd=some (.lst dv):=k5 _ _ (s4 _ _ hpd2) (λz=>by rw[z,T7] at hpd2;cases hpd2) jd;have q4:=htd2.to kt5;have q5:a8 H5 dv S.bk:=a8.kept k5 hm4 hk4 (hdv2.same s4);have q6:=kt5 _ _ Tb;have q7:H5 lc=some (.lst (prs.map V.ref)):=k5 _ _ (s4 _ _ hc2) (λz=>by rw[z,T7] at hc2;cases hc2) nck;have TP5:=(TP2.same s4).kept (MM2.to s4) k5;have TT5:=(TT2.same s4).kept (MM2.to s4) k5;clear VE VD s4 h4 k5 kt5 hm4 hk4 MM2 TP2 TT2 UG hc2 hpd2 hdv2 htd2 Tb T7 N x1 x2;obtain⟨dx5,pc5,ph5,pl5,fs5,prs5,cs5,N5⟩:=id M5;have hk5:=N5.hk;have stc:=Cg S es (aw ls);have hrws:(S.bV es (aw ls)).rows=rs:=by rw[DD];exact hSr
     have tc:=Fh rh;have tb:=G9 rh;have td:=Hb rh;have hdl:dv.length<=41:=by rw[q5.len];unfold MS.bk;rw[aa8,aac];lia
     have hce5:(S.bV es (aw ls)).cells.length<=5*(i+1):=by lia
     have hz0:cT (V.str r.eU.1::r.eU.2.map V.int) 0=some (V.str r.eU.1):=bG (xs:=V.str r.eU.1::r.eU.2.map V.int) (j:=0) rfl;clear hs;ac_rfl;rw[tc];cases hC:r.isCall with
     | true =>
       obtain⟨tt,rfl⟩:∃ tt,r=.call tt:=by cases r <;> first | exact⟨_,rfl⟩ | cases hC
       ac_rfl;rw[tb,show(Rw.call tt).d_=false from rfl];rename_i k1 nk1 t1 Vq l1 UP VA Ul;have sZ:ao H5 (upd (upd (upd (upd H5 k1 (.tup [.int (gI S.held 4),.int (gI S.held 5),.int (gI S.held 6)])) t1 (.tup [.int (S.av+1),.ref k1,.int (S.cells.length:Int)])) l1 (.lst [.ref t1])) VA (.lst ([.ref t1]++dv))):=(ae nk1).trans ((ae Vq).trans ((ae UP).trans (ae Ul)));have jd1:VA≠pk:=(ag (ai (ai (ai hk5 nk1) Vq) UP) Ul).symm;have z0:upd (upd (upd (upd H5 k1 (.tup [.int (gI S.held 4),.int (gI S.held 5),.int (gI S.held 6)])) t1 (.tup [.int (S.av+1),.ref k1,.int (S.cells.length:Int)])) l1 (.lst [.ref t1])) VA (.lst ([.ref t1]++dv)) VA=some (.lst ([.ref t1]++dv)):=aa;have z1:upd (upd (upd (upd H5 k1 (.tup [.int (gI S.held 4),.int (gI S.held 5),.int (gI S.held 6)])) t1 (.tup [.int (S.av+1),.ref k1,.int (S.cells.length:Int)])) l1 (.lst [.ref t1])) VA (.lst ([.ref t1]++dv)) t1=some (.tup [.int (S.av+1),.ref k1,.int (S.cells.length:Int)]):=ai (ai aa UP) Ul;have z2:upd (upd (upd (upd H5 k1 (.tup [.int (gI S.held 4),.int (gI S.held 5),.int (gI S.held 6)])) t1 (.tup [.int (S.av+1),.ref k1,.int (S.cells.length:Int)])) l1 (.lst [.ref t1])) VA (.lst ([.ref t1]++dv)) k1=some (.tup [.int (gI S.held 4),.int (gI S.held 5),.int (gI S.held 6)]):=ai (ai (ai aa Vq) UP) Ul;generalize upd (upd (upd (upd H5 k1 (.tup [.int (gI S.held 4),.int (gI S.held 5),.int (gI S.held 6)])) t1 (.tup [.int (S.av+1),.ref k1,.int (S.cells.length:Int)])) l1 (.lst [.ref t1])) VA (.lst ([.ref t1]++dv))=H6 at sZ z0 z1 z2 ⊢;have q16:=sZ _ _ q1;have q66:=sZ _ _ q6;have F6:∀ (v10 V2 v12 v13:Option V),∃ (S':MS) (pd':Addr) (dv':List V) (w10 w11 w12 w13:Option V),[some (.ref a0),some (.bl b),some (.ref l),some (.ref d),v4,some (.ref lc),some (.ref t),some (.ref lb),some (.ref xm),some (.ref VA),v10,V2,v12,v13]=[some (V.ref a0),some (V.bl b),some (V.ref l),some (V.ref d),v4,some (V.ref lc),some (V.ref t),some (V.ref lb),some (V.ref xm),some (V.ref pd'),w10,w11,w12,w13]/\cY a H6 xm pk pt S'/\c5 S'/\S'.rows=rs/\Run S' es ls/\S'.calls.length<=1+(i+1)/\S'.cells.length<=5*(i+1)/\TabAt K a H6 pt pk es (aw ls)/\TabAt K a H6 t pk es (aw ls)/\H6 l=some (.lst us)/\oZ H6 us rs/\H6 lc=some (.lst (prs.map V.ref))/\H6 pd'=some (.lst dv')/\a8 H6 dv' S'.bk/\pd'≠pk:=λv10 V2 v12 v13=>⟨S.bV es (aw ls),VA,[.ref t1]++dv,v10,V2,v12,v13,rfl,M5.to sZ,O.bV,hrws,R5,by lia,hce5,TP5.same sZ,TT5.same sZ,q16,q4.to (λb xs e=>sZ b (.tup xs) e),sZ _ _ q7,z0,by rw[VN];exact⟨⟨t1,k1,rfl,z1,z2⟩,q5.same sZ⟩,jd1⟩;clear sZ nk1 Vq UP Ul q1 q2 q3 q4 q5 q6 q7 M5 N5 TP5 TT5 z0 z1 z2;ac_rfl;rw[td,show(Rw.call tt).dS=false from rfl];ac_rfl;exact F6 _ _ _ _
     | false =>
       ac_rfl;rw[tb];cases hB:r.d_ with
       | true =>
         obtain⟨tt,rfl⟩:∃ tt,r=.back tt:=by cases r <;> first | exact⟨_,rfl⟩ | cases hB
         ac_rfl;rename_i VA Ul;rw[td,show(Rw.back tt).dS=false from rfl];ac_rfl;rw[show fS dv (some 1) none=dv.drop 1 from xZ dv 1] at *;have sZ:=ae (o:=HO.lst (dv.drop 1)) Ul;exact⟨S.bV es (aw ls),VA,dv.drop 1,_,_,_,_,rfl,M5.to sZ,O.bV,hrws,R5,by lia,hce5,TP5.same sZ,TT5.same sZ,sZ _ _ q1,q4.to (λb xs e=>sZ b (.tup xs) e),sZ _ _ q7,aa,by rw[VN];exact(q5.DN 1).same sZ,(ag hk5 Ul).symm⟩
       | false =>
         ac_rfl;rw[td];cases hD:r.dS with
         | true =>
           obtain⟨tt,rfl⟩:∃ tt,r=.drop tt:=by cases r <;> first | exact⟨_,rfl⟩ | cases hD
           obtain⟨ev5,⟨dt5,l5,d5,ht5,hlt5,WU,_⟩,_⟩:=id TT5;ac_rfl
           try refine dQ (ar.of q7) ?_
           try rw[aac,S6]
           ac_rfl;refine⟨pd,d5,_,dv,S.bk,aw ls,rfl,q3,q5,by lia,WU,?_⟩;have hx:=@L0 S.bk (rs.length:Int) (aw ls);have hbk2:(S.bV es (aw ls)).bk=S.bk.drop (jx S.bk (rs.length:Int) (aw ls)).toNat:=by rw[VN,Hh,hSr]
           generalize jx S.bk (rs.length:Int) (aw ls)=ix at hx hbk2 ⊢;obtain⟨kx,rfl⟩:=abd hx;ac_rfl;rename_i VA Ul;rw[xZ dv kx] at *;have sZ:=ae (o:=HO.lst (dv.drop kx)) Ul;exact⟨S.bV es (aw ls),VA,dv.drop kx,_,_,_,_,rfl,M5.to sZ,O.bV,hrws,R5,by lia,hce5,TP5.same sZ,TT5.same sZ,sZ _ _ q1,q4.to (λb xs e=>sZ b (.tup xs) e),sZ _ _ q7,aa,by rw[hbk2,aaD];exact(q5.DN kx).same sZ,(ag hk5 Ul).symm⟩
         | false =>
           ac_rfl;exact⟨S.bV es (aw ls),pd,dv,_,_,_,_,rfl,M5,O.bV,hrws,R5,by lia,hce5,TP5,TT5,q1,q4,q7,q3,by rw[VN,Gu hC hB hD];exact q5,jd⟩
   . ac_rfl;exact q _
 . clear MM O hSr R T_ hce TP TT hl V8 hc hpd hdv jd;rintro Z H1 ⟨S,pd,dv,v10,V2,v12,v13,rfl,MM1,O,hSr,R,T_,hce,TP1,TT1,hl1,htd1,W3,Wh,Wu,jd⟩;ac_rfl;exact⟨xm,t,pd,pk,pt,S,es,ls,dv,rfl,MM1,O,TT1,Wh,Wu,R,by lia,λH2 s2=>q H2⟩
variable {ns:List Int}
theorem Dn (T:TX){a0 d lc:Addr}{b:Bool}{v4:Option V}(q:∀ (H':Hp),Q (V.bl true) H')(hS:ar K H a0 (ns.map V.int))(U6:ns.length<=63)(hc:H lc=some (.lst (prs.map V.ref)))(hr:bL a H prs rs)(az:∀ r∈rs,iD r)(r1 : 1<=rs.length)(r450:rs.length<=450)(hl:H l=some (.lst us))(V8:oZ H us rs)(Vu:us.length=rs.length)(Tc:dN ls)(TR:Pk K a H t rs ls) :
   (λx H1=>bg 6 x [some (V.ref a0),some (V.bl b),some (V.ref l),some (V.ref d),v4,some (V.ref lc),none,none,none,none,none,none,none,none] H1 ({ nx:=bY (eC (JQ (dC (br pP (aA 6) (tC V.aC))) (dC (br (λx y H Q=>gm K x y H Q∨ml K x y H Q) (cj (wm K a) E0 (ay (aA 5) (ay (aA 6) aR))) (oH aR)))) (iN (tC (V.bl true))) dJ) (bY (vo 7 [aae "_law_k"] [(aae "_law_script",0)] (mX (ay (tC (V.int 7)) aR)) (bg 0) y7 (cj HJ E0 (ay (cj (ip K) E0 (ay (aA 1) (ay (br (eE K) (tC (V.int 4)) (aA 0)) aR))) aR))) (bY (dk (vb a.ax (V.int 0) (lU a) E0 (ay (aA 5) (ay (aA 6) (ay (aA 7) aR)))) (bg 8)) (bY (dk (oH (ay (ju (ay (nB (iQ K) (ay (aA 5) aR)) (ay (ju (ay (br (bJ K) (aA 7) (tC (V.int 4))) (ay (br (bJ K) (aA 7) (tC (V.int 5))) (ay (br (bJ K) (aA 7) (tC (V.int 6))) aR)))) (ay (tC (V.int 0)) aR)))) aR)) (bg 9)) (bY (HH (mX (ay (br (eE K) (tC (V.int 1)) (br (rI (λx j=>0<j) λi j=>V.int (i%j)) (cj (ip K) E0 (ay (aA 0) (ay (tC (V.int 11)) aR))) (tC (V.int 40)))) aR)) (bg 10) (bY (eC (EJ (wY K (cj (gZ K a) E0 (ay (aA 8) (ay (aA 6) (ay (aA 9) aR)))))) (iN (tC (V.bl false))) dJ) (bY (eC (dC (br (gm K) (cE P w K mg base cb 1 (aae "word") E0 (aA 8) aR) (tC (V.str (aae "runs"))))) (iN (tC (V.bl true))) dJ) (bY (dk (cE P w K mg base cb 1 (aae "at") E0 (aA 8) aR) (bg 11)) (bY (dk (cE P w K mg base cb 1 (aae "boxes") E0 (aA 8) aR) (bg 12)) (bY (dk (nB (iQ K) (ay (cE P w K mg base cb 1 (aae "pile") E0 (aA 8) aR) aR)) (bg 13)) (bY (yY (cE P w K mg base cb 6 (aae "step") E0 (aA 8) aR)) (bY (eC (dC (br (gJ K) (br (bJ K) (br (bJ K) (aA 2) (aA 11)) (tC (V.int 0))) (tC (V.str (aae "call"))))) (dk (br (eE K) (oH (ay (ju (ay (br (eE K) (aA 11) (tC (V.int 1))) (ay (ju (ay (br (bJ K) (aA 12) (tC (V.int 4))) (ay (br (bJ K) (aA 12) (tC (V.int 5))) (ay (br (bJ K) (aA 12) (tC (V.int 6))) aR)))) (ay (aA 13) aR)))) aR)) (aA 9)) (bg 9)) dJ) (bY (eC (dC (br (gJ K) (br (bJ K) (br (bJ K) (aA 2) (aA 11)) (tC (V.int 0))) (tC (V.str (aae "back"))))) (dk (AH (jr K) (aA 9) (m6 (tC (V.int 1))) ij) (bg 9)) dJ) (eC (dC (br (gJ K) (br (bJ K) (br (bJ K) (aA 2) (aA 11)) (tC (V.int 0))) (tC (V.str (aae "drop"))))) (dk (AH (jr K) (aA 9) (m6 (cj qJ E0 (ay (aA 9) (ay (AN K (aA 6) (aae "landings")) (ay (nB (iQ K) (ay (aA 5) aR)) aR))))) ij) (bg 9)) dJ)))))))))) (iN (cj (gZ K a) E0 (ay (aA 8) (ay (aA 6) (ay (aA 9) aR))))))))) { nx:=λx H'=>Q V.aC H',rt:=Q },rt:=({ nx:=λx H'=>Q V.aC H',rt:=Q }:Ends).rt }:Ends).nx) (V.ref t) H:=by
 obtain⟨dt,lt,dd,ev,es,ht,S9,hdd,To,hel,hEN⟩:=TR;have Wj:∀ r∈rs,r.ok/\r.here:=λr hr=>(az r hr).1;have hevl:=To.1;have hrl:=hr.1;symm;refine⟨lc,t,prs,rs,ev,es,ls,rfl,hc,hr,⟨dt,lt,dd,ht,S9,hdd⟩,To,⟨Wj,λe he=>hEN (some e) he e rfl,by lia,by lia⟩,Tc.1,Tc.2.1,λp2 us2 TQ HG sG UT hks2 Uw=>?_⟩;by_cases hu:us2=[]
 . subst hu;have hz:dH rs es ls TQ=[]:=List.length_eq_zero_iff.mp Uw.1.symm;have L:=JW hz (hks2 hel).1;clear Uw hks2;symm;rename_i lz nlz;refine CM (ai UT nlz) aa ?_;have sZ:ao H (upd HG lz (.lst [])):=sG.trans (ae nlz);generalize upd HG lz (HO.lst [])=HZ at sZ ⊢;clear sG nlz UT;have hSZ:=aP sZ hS;have hcZ:=sZ _ _ hc;have hrZ:=hr.same sZ;have hlZ:=sZ _ _ hl;have htdZ:=V8.to (λb xs e=>sZ b (.tup xs) e);have htZ:=sZ _ _ ht;have hltZ:=sZ _ _ S9;have hddZ:=sZ _ _ hdd;have hevZ:=To.same sZ;clear hS hc hr hl V8 ht S9 hdd To;clear sZ;symm;refine eK (λi ys Z H2=>ao HZ H2/\(∃ v,Z = [v,some (.ref a0)])/\∃ bs:List Int,ys=bs.map V.int/\bs.length=i/\∀ x∈bs,isVal x) ⟨ao.refl _,⟨_,rfl⟩,[],rfl,rfl,λx hx=>(nomatch hx)⟩ ?_ ?_ ?_
   . rintro i ys Z H2 hi ⟨_,_,bs,rfl,hl,_⟩;rw[aac];walk_at"small"
   . rintro i ys Z H2 hi ⟨s2,⟨v,rfl⟩,bs,rfl,hbl,hbv⟩;have hS2:=aP s2 hSZ;symm;refine ⟨_,rfl,λv9 H3 s3 hv=>⟨s2.trans s3,⟨_,rfl⟩,bs++[v9],by rw [aaE];rfl,by rw [aab,hbl];rfl,λy hy=>?_⟩⟩;rcases List.mem_append.mp hy with z | z
     . exact hbv y z
     . have e := List.mem_singleton.mp z;subst e;exact hv
   rintro ys Z H2 ⟨s2,_,bs,rfl,hb7,hbv⟩;rw[show(7:Int).toNat=7 from rfl] at hb7;symm;rename_i lb nlb;have sB:=s2.trans (ae (o:=HO.lst (bs.map V.int)) nlb);have hlbB:upd H2 lb (.lst (bs.map V.int)) lb=some (.lst (bs.map V.int)):=aa;generalize upd H2 lb (.lst (bs.map V.int))=HB at sB hlbB ⊢;clear s2 nlb;have hSB:=aP sB hSZ;have hcB:=sB _ _ hcZ;have hrB:=hrZ.same sB;have hlB:=sB _ _ hlZ;have htdB:=htdZ.to (λb xs e=>sB b (.tup xs) e);have htB:=sB _ _ htZ;have hltB:=sB _ _ hltZ;have hddB:=sB _ _ hddZ;have hevB:=hevZ.same sB;clear hSZ hcZ hrZ hlZ htdZ htZ hltZ hddZ hevZ;clear sB;intro xm dxm nxm ndxm nnem;refine NW (prs:=prs) (rs:=rs) (bs:=bs) (es:=ev) (kvs:=aw ls) nxm ndxm hcB hrB htB hltB hddB hlbB hb7 (by lia) (λpk pc pt ph pl fs cs H8 n1 n2 n3' n4 s8 M TN=>⟨rfl,?_⟩);obtain⟨dtm,lm,dm,hpt8,hlm8,hdm8,nlmpk,flm,fdm⟩:=TN;have nlk:lt≠pk:=ag hltB n1;have nck:lc≠pk:=ag hcB n1;have nrk:l≠pk:=ag hlB n1;have hS8:=aP s8 hSB;have hc8:=s8 _ _ hcB;have hr8:=hrB.same s8;have VW:=s8 _ _ hlB;have htd8:=htdB.to (λb xs e=>s8 b (.tup xs) e);have ht8:=s8 _ _ htB;have hlt8:=s8 _ _ hltB;have hdd8:=s8 _ _ hddB;have UM:=hevB.same s8;have hlb8:=s8 _ _ hlbB;clear hSB hcB hrB hlB htdB htB hltB hddB hevB hlbB;clear s8 n1 n2 n3' n4 nxm ndxm nnem flm fdm;have TP:TabAt K a H8 pt pk es (aw ls):=⟨ev,⟨dtm,lm,dm,hpt8,hlm8,hdm8,nlmpk⟩,UM⟩
   have TT:TabAt K a H8 t pk es (aw ls):=⟨ev,⟨dt,lt,dd,ht8,hlt8,hdd8,nlk⟩,UM⟩
   have MM0:cY a H8 xm pk pt (hJ rs bs 0):=⟨_,_,_,_,_,_,_,M⟩
   have hkk:=M.hk;have O0:=HV Wj r450 (by lia) hb7 hbv;have R0:=E5 L (by lia) hb7;have k4:gI (bs++[(rs.length:Int)]) 4=gI bs 4:=DL (by decide) (by lia);have k5:gI (bs++[(rs.length:Int)]) 5=gI bs 5:=DL (by decide) (by lia);have k6:gI (bs++[(rs.length:Int)]) 6=gI bs 6:=DL (by decide) (by lia);clear M hpt8 hlm8 hdm8;symm;rename_i t1 n1 t2 n2 pd npd;have hml:(prs.map V.ref).length=rs.length:=by rw[aac];exact hrl
   rw[hml] at npd ⊢;have s9:ao H8 (upd (upd (upd H8 t1 (.tup [.int (gI bs 4),.int (gI bs 5),.int (gI bs 6)])) t2 (.tup [.int (rs.length:Int),.ref t1,.int 0])) pd (.lst [.ref t2])):=(ae n1).trans ((ae n2).trans (ae npd));have c0:upd (upd (upd H8 t1 (.tup [.int (gI bs 4),.int (gI bs 5),.int (gI bs 6)])) t2 (.tup [.int (rs.length:Int),.ref t1,.int 0])) pd (.lst [.ref t2]) pd=some (.lst [.ref t2]):=aa;have c1:upd (upd (upd H8 t1 (.tup [.int (gI bs 4),.int (gI bs 5),.int (gI bs 6)])) t2 (.tup [.int (rs.length:Int),.ref t1,.int 0])) pd (.lst [.ref t2]) t2=some (.tup [.int (rs.length:Int),.ref t1,.int 0]):=ai aa npd;have c2:upd (upd (upd H8 t1 (.tup [.int (gI bs 4),.int (gI bs 5),.int (gI bs 6)])) t2 (.tup [.int (rs.length:Int),.ref t1,.int 0])) pd (.lst [.ref t2]) t1=some (.tup [.int (gI bs 4),.int (gI bs 5),.int (gI bs 6)]):=ai (ai aa n2) npd;have jd:pd≠pk:=(ag (ai (ai hkk n1) n2) npd).symm;generalize (upd (upd (upd H8 t1 (.tup [.int (gI bs 4),.int (gI bs 5),.int (gI bs 6)])) t2 (.tup [.int (rs.length:Int),.ref t1,.int 0])) pd (.lst [.ref t2]))=H9 at s9 c0 c1 c2 ⊢;have hdv:a8 H9 [.ref t2] (hJ rs bs 0).bk:=⟨⟨t2,t1,rfl,c1,by rw[k4.symm,k5.symm,k6.symm] at c2;exact c2⟩,aan⟩
   have Ta:=Jf T (a0:=a0) (d:=d) (lb:=lb) (b:=b) (v4:=v4) (ns:=ns) q az Vu hrl Tc nck nrk (MM0.to s9) O0 rfl R0 (aag _) (aag _) (TP.same s9) (TT.same s9) (s9 _ _ VW) (htd8.to (λb xs e=>s9 b (.tup xs) e)) (s9 _ _ hc8) c0 hdv jd;have hS9:=aP s9 hS8;clear s9 c0 c1 c2 hdv jd MM0 TP TT hS8 hc8 hr8 VW htd8 ht8 hlt8 hdd8 UM hlb8 hkk T;symm;exact Ta
 . have hu1 : 1 <= us2.length := by
     cases us2 with
     | nil=>exact(hu rfl).elim
     | cons=>exact adb (aaU _)
   symm;rename_i lz nlz;refine C2 (ai UT nlz) aa (by lia) ?_;symm;exact q _
variable {d:Addr}
theorem sP (T:TX){a0:Addr}{b:Bool}{v4:Option V}(q:∀ (H':Hp),Q (V.bl true) H')(hS:ar K H a0 (ns.map V.int))(U6:ns.length<=63)(hl:H l=some (.lst us))(u1 : 1<=us.length)(u450:us.length<=450)(Tr:aO iD H us)(hd:H d=some (.dK (aw ls)))(Tc:dN ls) :
   iA (xH K l) (bg 0) y7 (cj (Gq a) E0 (ay (aA 0) aR)) (λys H3=>∀ (p:Addr),H3 p=none->bg 5 (V.ref p) [some (V.ref a0),some (V.bl b),some (V.ref l),some (V.ref d),v4,none,none,none,none,none,none,none,none,none] (upd H3 p (HO.lst ys)) ({ nx:=bY (eC (wY K (aA 1)) (dk (cj (y9 K a) E0 (ay (aA 0) (ay (aA 5) (ay (aA 3) aR)))) (bg 6)) (dk (cj (y9 K a) E0 (ay (aA 0) (ay (aA 5) (ay (aA 3) aR)))) (bg 6))) (bY (eC (JQ (dC (br pP (aA 6) (tC V.aC))) (dC (br (λx y H Q=>gm K x y H Q∨ml K x y H Q) (cj (wm K a) E0 (ay (aA 5) (ay (aA 6) aR))) (oH aR)))) (iN (tC (V.bl true))) dJ) (bY (vo 7 [aae "_law_k"] [(aae "_law_script",0)] (mX (ay (tC (V.int 7)) aR)) (bg 0) y7 (cj HJ E0 (ay (cj (ip K) E0 (ay (aA 1) (ay (br (eE K) (tC (V.int 4)) (aA 0)) aR))) aR))) (bY (dk (vb a.ax (V.int 0) (lU a) E0 (ay (aA 5) (ay (aA 6) (ay (aA 7) aR)))) (bg 8)) (bY (dk (oH (ay (ju (ay (nB (iQ K) (ay (aA 5) aR)) (ay (ju (ay (br (bJ K) (aA 7) (tC (V.int 4))) (ay (br (bJ K) (aA 7) (tC (V.int 5))) (ay (br (bJ K) (aA 7) (tC (V.int 6))) aR)))) (ay (tC (V.int 0)) aR)))) aR)) (bg 9)) (bY (HH (mX (ay (br (eE K) (tC (V.int 1)) (br (rI (λx j=>0<j) λi j=>V.int (i%j)) (cj (ip K) E0 (ay (aA 0) (ay (tC (V.int 11)) aR))) (tC (V.int 40)))) aR)) (bg 10) (bY (eC (EJ (wY K (cj (gZ K a) E0 (ay (aA 8) (ay (aA 6) (ay (aA 9) aR)))))) (iN (tC (V.bl false))) dJ) (bY (eC (dC (br (gm K) (cE P w K mg base cb 1 (aae "word") E0 (aA 8) aR) (tC (V.str (aae "runs"))))) (iN (tC (V.bl true))) dJ) (bY (dk (cE P w K mg base cb 1 (aae "at") E0 (aA 8) aR) (bg 11)) (bY (dk (cE P w K mg base cb 1 (aae "boxes") E0 (aA 8) aR) (bg 12)) (bY (dk (nB (iQ K) (ay (cE P w K mg base cb 1 (aae "pile") E0 (aA 8) aR) aR)) (bg 13)) (bY (yY (cE P w K mg base cb 6 (aae "step") E0 (aA 8) aR)) (bY (eC (dC (br (gJ K) (br (bJ K) (br (bJ K) (aA 2) (aA 11)) (tC (V.int 0))) (tC (V.str (aae "call"))))) (dk (br (eE K) (oH (ay (ju (ay (br (eE K) (aA 11) (tC (V.int 1))) (ay (ju (ay (br (bJ K) (aA 12) (tC (V.int 4))) (ay (br (bJ K) (aA 12) (tC (V.int 5))) (ay (br (bJ K) (aA 12) (tC (V.int 6))) aR)))) (ay (aA 13) aR)))) aR)) (aA 9)) (bg 9)) dJ) (bY (eC (dC (br (gJ K) (br (bJ K) (br (bJ K) (aA 2) (aA 11)) (tC (V.int 0))) (tC (V.str (aae "back"))))) (dk (AH (jr K) (aA 9) (m6 (tC (V.int 1))) ij) (bg 9)) dJ) (eC (dC (br (gJ K) (br (bJ K) (br (bJ K) (aA 2) (aA 11)) (tC (V.int 0))) (tC (V.str (aae "drop"))))) (dk (AH (jr K) (aA 9) (m6 (cj qJ E0 (ay (aA 9) (ay (AN K (aA 6) (aae "landings")) (ay (nB (iQ K) (ay (aA 5) aR)) aR))))) ij) (bg 9)) dJ)))))))))) (iN (cj (gZ K a) E0 (ay (aA 8) (ay (aA 6) (ay (aA 9) aR)))))))))) { nx:=λx H'=>Q V.aC H',rt:=Q },rt:=({ nx:=λx H'=>Q V.aC H',rt:=Q }:Ends).rt }:Ends).nx) (mq [aae "_law_told"] [] [some (V.ref a0),some (V.bl b),some (V.ref l),some (V.ref d),v4,none,none,none,none,none,none,none,none,none]) H:=by
 refine fW (K:=K) (a:=l) (xs:=us) (λi ys Z H2=>(∃ v,Z = [v])/\ao H H2/\∃ (prs:List Addr) (rs:List Rw),ys=prs.map V.ref/\prs.length=i/\bL a H2 prs rs/\(∀ r∈rs,iD r)/\oZ H us rs) ⟨⟨_,rfl⟩,ao.refl _,[],[],rfl,rfl,bL.nil,(λ_ z=>by cases z),(λ_ _ _ _ z=>by cases z)⟩ (λi ys Z H2 hi ⟨_,s2,prs,rs,e,e2,_⟩=>⟨ar.of (s2 _ _ hl),by rw[e,aac,e2,aaJ];lia⟩) ?_ ?_
 . rintro i u ys Z H2 hu ⟨⟨v,rfl⟩,s2,prs,rs,rfl,e2,Tn,az,V8⟩;obtain ⟨r,td,ok⟩:=Tr u (aak hu);have hrl:=Tn.1;symm;refine ⟨_,r,rfl,td.same s2,ok,λx H3 s3 _ hx=>⟨⟨_,rfl⟩,s2.trans s3,prs++[x],rs++[r],by rw [aaE];rfl,by rw [aab,e2];rfl,(Tn.same s3).snoc hx,λr' hr'=>?_,V8.snoc (by lia) hu td⟩⟩;rcases List.mem_append.mp hr' with z | z
   . exact az r' z
   . have e : r' = r := by simpa using z
     rw[e];exact ok
 rintro ys Z H2 ⟨_,s2,prs,rs,rfl,e2,Tn,az,V8⟩;intro lc V5;have s3:=s2.trans (ae V5 (o:=.lst (prs.map V.ref)));have hr3:=Tn.same (ae V5 (o:=.lst (prs.map V.ref)));have hc3:(upd H2 lc (.lst (prs.map V.ref))) lc=some (.lst (prs.map V.ref)):=aa;generalize upd H2 lc (HO.lst (prs.map V.ref))=H3 at s3 hr3 hc3 ⊢;have WV:=s3 _ _ hd;have hl3:=s3 _ _ hl;have hS3:=aP s3 hS;have td3:=V8.to (λb xs e=>s3 b (.tup xs) e);have hrl:=Tn.1;have Wj:∀ r∈rs,r.ok/\r.here:=λr hr=>(az r hr).1;clear s2 s3 hl hd Tr hS Tn V5 V8;cases b with
 | true =>
   symm;refine⟨a0,lc,d,ns,prs,rs,ls,rfl,hS3,U6,hc3,hr3,Wj,by lia,by lia,Tc,WV,λH4 s4=>?_,λt H4 s4 TR=>?_⟩
   . symm;exact q _
   . exact Dn T (d:=d) (b:=true) (v4:=v4) q (aP s4 hS3) U6 (s4 _ _ hc3) (hr3.same s4) az (by lia) (by lia) (s4 _ _ hl3) (td3.to (λb xs e=>s4 b (.tup xs) e)) (by lia) Tc TR
 | false =>
   symm;refine⟨a0,lc,d,ns,prs,rs,ls,rfl,hS3,U6,hc3,hr3,Wj,by lia,by lia,Tc,WV,λH4 s4=>?_,λt H4 s4 TR=>?_⟩
   . symm;exact q _
   . exact Dn T (d:=d) (b:=false) (v4:=v4) q (aP s4 hS3) U6 (s4 _ _ hc3) (hr3.same s4) az (by lia) (by lia) (s4 _ _ hl3) (td3.to (λb xs e=>s4 b (.tup xs) e)) (by lia) Tc TR
end
section
theorem KR {fa:Addr}{fd:aa4}(T:TX)(F:ee K "law" "law" gy fa fd):c7 P w K mg base cb 10 fa fd ["_law_script"] (qD K):=by
 refine F.ok (k:=9) pL (λvs H Q E h=>?_) (λS0 A outer s H vs Q E hr h=>?_)
 . obtain⟨a0, ns, rfl, _⟩ := h;rfl
 . obtain⟨a0, ns, rfl, hS, U6, q⟩ := h;walk_at"h";have nd:=pL.nd;refine' aW ?_ ?_;walk_at"tS";walk_at"c";walk_at"c";walk_at"n";exact(fu (i:=5) pL.nd rfl rfl (own:=["_law_told"]) (fr:=[]) rfl ⟨rfl,(by walk_at"clok"),(by walk_at"frok"),rfl,(by nofun),(by nofun),rfl⟩ (dP (K:=K) rfl (pv 2)) (λ_ _ _ _=>(bS (i:=0) (show aa7 [("_law_told" : Str)] from by nofun) rfl (Or.inl rfl))) (λ_ _ _ _=>c9) (λ_ _ _ _=>(bp (Dx T) (hr.mono (by decide)) b_ rfl (aj (pv 0) aD))));walk_at"c";walk_at"n";walk_at"f";exact(PW.pt (EU (dO vV (pv 6) j7 (dZ _)) (Gm (dO (C6 (K:=K) rfl hr.units) (bp (ug T) (hr.mono (by decide)) b_ rfl (aj (pv 5) (aj (pv 6) aD))) (lI aD) (dZ _)))));walk_at"tB";exact cL;walk_at"n";exact(fu (i:=7) pL.nd rfl rfl (own:=["_law_k"]) (fr:=[("_law_script",0)]) rfl ⟨rfl,(by walk_at"clok"),(by walk_at"frok"),rfl,(by nofun),(by nofun),rfl⟩ (e_ rfl T.f9 (aj aX aD)) (λ_ _ _ _=>(bS (i:=0) (show aa7 [("_law_k" : Str),("_law_script" : Str)] from by nofun) rfl (Or.inl rfl))) (λ_ _ _ _=>c9) (λ_ _ _ _=>(bp (zJ T) (hr.mono (by decide)) b_ rfl (aj (bp (hU T) (hr.mono (by decide)) b_ rfl (aj (pv 1) (aj (cQ (dW (K:=K) rfl) aX (pv 0)) aD))) aD))));walk_at"n";exact(c8 (i:=8) pL.nd rfl (Or.inl rfl) (Js (BR T) (hr.mono (by decide)) b_ rfl (aj (pv 5) (aj (pv 6) (aj (pv 7) aD)))));walk_at"c";walk_at"c";walk_at"m";walk_at"tS";walk_at"s";symm;generalize decide (V.int (cellAt ns 0%2)=V.int 1)=b;cases b with
   | true =>
     symm;refine⟨a0,ns,rfl,hS,U6,λt l d us ls H1 s1 ht hl0 hd0 hld hl u1 u12 Tr hd Tc=>?_⟩;have Ta:=sP T (b:=true) (v4:=none) q (aP s1 hS) U6 hl u1 (by lia) Tr hd Tc;have hS1:=aP s1 hS;clear s1 hl0 hd0 hld Tr;symm;exact Ta
   | false =>
     symm;refine⟨a0,ns,rfl,hS,U6,λt l d us ls H1 s1 ht hl0 hd0 hld hl u1 u450 Tr hd Tc=>?_⟩;have hS1:=aP s1 hS;have m1:Fb H H1:=⟨s1⟩
     clear s1;symm;refine eW (λhx=>?_) (λhx=>?_)
     . symm
       try refine dQ (ar.of hl) ?_
       symm;refine⟨_,_,rfl,by lia,by lia,λu r H5 s5 hu ho=>?_⟩;have hul1 : 0<(us.length:Int):=by lia
       have z0:=abj (cellAt ns 1/3) (show(us.length:Int)≠0 by lia);have z1:=abb (cellAt ns 1/3) hul1;have hl5:=s5 _ _ hl;have WU:=s5 _ _ hd;have tds5:=Tr.same s5;have hS5:=aP s5 hS1;have m5:Fb H H5:=⟨m1.s.trans s5⟩
       clear s5 hl hd Tr hS1;symm;refine mG hl5 (Be z0 z1) ?_;have hS6:ar K (upd H5 l (.lst (us.set (cellAt ns 1/3%(us.length:Int)).toNat u))) a0 (ns.map V.int):=aP (bC m5.s hl0) hS;have hd6:(upd H5 l (.lst (us.set (cellAt ns 1/3%(us.length:Int)).toNat u))) d=some (.dK (aw ls)):=by rw[ak (λz=>by rw[z,hl5] at WU;cases WU)];exact WU
       have td6:aO iD (upd H5 l (.lst (us.set (cellAt ns 1/3%(us.length:Int)).toNat u))) (us.set (cellAt ns 1/3%(us.length:Int)).toNat u):=(tds5.set hu ho).off hl5;have Ta:=sP T (b:=false) (v4:=some u) q hS6 U6 aa (by rw[aa0];lia) (by rw[aa0];lia) td6 hd6 Tc;symm;exact Ta
     . have Ta := sP T (b := false) (v4 := none) q hS1 U6 hl u1 u450 Tr hd Tc;symm;exact Ta
end
theorem law_fn {P:Program}{w:World}{K:W.Frag}{mg:Str->Option Value}{base:Heap}{a:bH}{fa:Addr}{fd:aa4}(T:Txt K mg a)(F:ee K "law" "law" gy fa fd):c7 P w K mg base cb 10 fa fd ["_law_script"] (qD K):=NR (λ_ _ T F=>KR T F) ⟨P,w,K,mg,base,a⟩ _ _ T F
theorem gW {K:W.Frag}{x qual:Str}{st:Stmt}{f da:Addr}{n:Nat}{oc dc:Value}{od an dd:Option Addr}{Ts dl:Array (Option Value)}{kV S8 pm S0 ct:Value}(l:K.lookup f=some ⟨oc,od,.func (W.fnOf x qual (a_ st) (aV st) (ah st) (.ref da) kV S8 pm an S0 ct),Ts⟩)
   (d:K.lookup da=some ⟨dc,dd,.seq #[.none] n,dl⟩) (c:abR K S0 qual=true) (k:abi K (.ref f)=true):fj K x qual st f (W.fnOf x qual (a_ st) (aV st) (ah st) (.ref da) kV S8 pm an S0 ct):=LQ l ⟨d,n,rfl⟩ c k
theorem FT {K:W.Frag}{x qual:Str}{st:Stmt}{f:Addr}{fd:aa4}{ps:List Str}(F:fj K x qual st f fd)
   (h:∀ (da:Addr) (kV S8 pm:Value) (an:Option Addr) (S0 ct:Value) (us:List Value),us.length=ps.length->∃ k:Option (Array Value)->Sem (List (Str×Value)),abW (W.fnOf x qual (a_ st) (aV st) (ah st) (.ref da) kV S8 pm an S0 ct) ⟨us,[]⟩=acq (.ref da) >>= k/\k (some #[.none])=pure (ps.zip us)):Binds K fd ps []:=by
 obtain⟨oc,od,da,kV,S8,pm,an,S0,ct,Ts,o,n,rfl,lk,Ua,ld,ed⟩:=F.ex;intro s us KX hl;rw[aaM] at hl ⊢;obtain⟨k,h1,h2⟩:=h da kV S8 pm an S0 ct us hl;exact .of_defaults rfl (KX _ _ ld) ed h1 h2
section
variable {K:W.Frag} {h:Heap} {mg:Str->Option Value} {x qual:Str} {st:Stmt} {f C da:Addr} {n:Nat} {oc dc:Value} {od an dd:Option Addr} {Ts dl:Array (Option Value)} {kV S8 pm S0 ct:Value} {ps:List Str}
theorem tF (X:K.In h)(G:h.Ns aa5 mg)(a:W.nsIn K aa5 x=some (some (.ref f)))(l:K.lookup f=some ⟨oc,od,.func (W.fnOf x qual (a_ st) (aV st) (ah st) .none kV S8 pm an S0 ct),Ts⟩)(c:abR K S0 qual=true)(k:abi K (.ref f)=true)(b:∀ (kV S8 pm:Value) (an:Option Addr) (S0 ct:Value) (us:List Value),us.length=ps.length->abW (W.fnOf x qual (a_ st) (aV st) (ah st) .none kV S8 pm an S0 ct) ⟨us,[]⟩=pure (ps.zip us)):∃ f fd,ee K x qual st f fd/\mg x=some (.ref f)/\Binds K fd ps []:=⟨_,_,gQ l c k,W.mg_of X G a,(gQ l c k).binds b⟩
theorem tM (a:abh K (.ref C) x=some (some (.ref f)))(i:W.isFn K (.ref f)=true)(l:K.lookup f=some ⟨oc,od,.func (W.fnOf x qual (a_ st) (aV st) (ah st) .none kV S8 pm an S0 ct),Ts⟩)(c:abR K S0 qual=true)(k:abi K (.ref f)=true)(b:∀ (kV S8 pm:Value) (an:Option Addr) (S0 ct:Value) (us:List Value),us.length=ps.length->abW (W.fnOf x qual (a_ st) (aV st) (ah st) .none kV S8 pm an S0 ct) ⟨us,[]⟩=pure (ps.zip us)):∃ f fd,ee K x qual st f fd/\z_ K C x f/\Binds K fd ps []:=⟨_,_,gQ l c k,⟨a,i,k⟩,(gQ l c k).binds b⟩
theorem tI (m:W.makesIn K C=true)(kc:abi K (.ref C)=true)(a:abh K (.ref C) "__init__" = some (some (.ref f)))(i:W.isFn K (.ref f)=true)(l:K.lookup f=some ⟨oc,od,.func (W.fnOf "__init__" qual (a_ st) (aV st) (ah st) .none kV S8 pm an S0 ct),Ts⟩)(c:abR K S0 qual=true)(k:abi K (.ref f)=true)(b:∀ (kV S8 pm:Value) (an:Option Addr) (S0 ct:Value) (us:List Value),us.length=ps.length->abW (W.fnOf "__init__" qual (a_ st) (aV st) (ah st) .none kV S8 pm an S0 ct) ⟨us,[]⟩=pure (ps.zip us)):∃ f fd,ee K "__init__" qual st f fd/\Mk K C f/\Binds K fd ps []:=⟨_,_,gQ l c k,⟨m,a,i,kc⟩,(gQ l c k).binds b⟩
theorem Sm (m:W.makesIn K C=true)(kc:abi K (.ref C)=true)(a:abh K (.ref C) "__init__" = some (some (.ref f)))(i:W.isFn K (.ref f)=true)(l:K.lookup f=some ⟨oc,od,.func (W.fnOf "__init__" qual (a_ st) (aV st) (ah st) (.ref da) kV S8 pm an S0 ct),Ts⟩)(d:K.lookup da=some ⟨dc,dd,.seq #[.none] n,dl⟩)(c:abR K S0 qual=true)(k:abi K (.ref f)=true)(b:∀ (da:Addr) (kV S8 pm:Value) (an:Option Addr) (S0 ct:Value) (us:List Value),us.length=ps.length->∃ k:Option (Array Value)->Sem (List (Str×Value)),abW (W.fnOf "__init__" qual (a_ st) (aV st) (ah st) (.ref da) kV S8 pm an S0 ct) ⟨us,[]⟩=acq (.ref da) >>= k/\k (some #[.none])=pure (ps.zip us))(b2:∀ (da:Addr) (kV S8 pm:Value) (an:Option Addr) (S0 ct:Value) (us:List Value),us.length+1=ps.length->∃ k:Option (Array Value)->Sem (List (Str×Value)),abW (W.fnOf "__init__" qual (a_ st) (aV st) (ah st) (.ref da) kV S8 pm an S0 ct) ⟨us,[]⟩=acq (.ref da) >>= k/\k (some #[.none])=pure (ps.zip (us++[.none]))):∃ f fd,fj K "__init__" qual st f fd/\Mk K C f/\Binds K fd ps []/\Binds K fd ps [.none]:=⟨_,_,gW l d c k,⟨m,a,i,kc⟩,FT (gW l d c k) b,(gW l d c k).uV b2⟩
theorem R3 (X:K.In h)(G:h.Ns aa5 mg)(a:W.nsIn K aa5 x=some (some (.ref f)))(l:K.lookup f=some ⟨oc,od,.func (W.fnOf x qual (a_ st) (aV st) (ah st) (.ref da) kV S8 pm an S0 ct),Ts⟩)(d:K.lookup da=some ⟨dc,dd,.seq #[.none] n,dl⟩)(c:abR K S0 qual=true)(k:abi K (.ref f)=true)(b:∀ (da:Addr) (kV S8 pm:Value) (an:Option Addr) (S0 ct:Value) (us:List Value),us.length=ps.length->∃ k:Option (Array Value)->Sem (List (Str×Value)),abW (W.fnOf x qual (a_ st) (aV st) (ah st) (.ref da) kV S8 pm an S0 ct) ⟨us,[]⟩=acq (.ref da) >>= k/\k (some #[.none])=pure (ps.zip us))(b2:∀ (da:Addr) (kV S8 pm:Value) (an:Option Addr) (S0 ct:Value) (us:List Value),us.length+1=ps.length->∃ k:Option (Array Value)->Sem (List (Str×Value)),abW (W.fnOf x qual (a_ st) (aV st) (ah st) (.ref da) kV S8 pm an S0 ct) ⟨us,[]⟩=acq (.ref da) >>= k/\k (some #[.none])=pure (ps.zip (us++[.none]))):∃ f fd,fj K x qual st f fd/\mg x=some (.ref f)/\Binds K fd ps []/\Binds K fd ps [.none]:=⟨_,_,gW l d c k,W.mg_of X G a,FT (gW l d c k) b,(gW l d c k).uV b2⟩
theorem SH {nn:Int}{tk:Tok}(m:W.makesIn K C=true)(kc:abi K (.ref C)=true)(a:abh K (.ref C) "__init__" = some (some (.ref f)))(i:W.isFn K (.ref f)=true)(l:K.lookup f=some ⟨oc,od,.func (W.fnOf "__init__" qual (a_ st) (aV st) (ah st) (.ref da) kV S8 pm an S0 ct),Ts⟩)(d:K.lookup da=some ⟨dc,dd,.seq #[.int nn tk] n,dl⟩)(c:abR K S0 qual=true)(k:abi K (.ref f)=true)(b:∀ (da:Addr) (kV S8 pm:Value) (an:Option Addr) (S0 ct:Value) (us:List Value),us.length=ps.length->∃ k:Option (Array Value)->Sem (List (Str×Value)),abW (W.fnOf "__init__" qual (a_ st) (aV st) (ah st) (.ref da) kV S8 pm an S0 ct) ⟨us,[]⟩=acq (.ref da) >>= k/\k (some #[.int nn tk])=pure (ps.zip us))(b2:∀ (da:Addr) (kV S8 pm:Value) (an:Option Addr) (S0 ct:Value) (us:List Value),us.length+1=ps.length->∃ k:Option (Array Value)->Sem (List (Str×Value)),abW (W.fnOf "__init__" qual (a_ st) (aV st) (ah st) (.ref da) kV S8 pm an S0 ct) ⟨us,[]⟩=acq (.ref da) >>= k/\k (some #[.int nn tk])=pure (ps.zip (us++[.int nn tk]))):∃ f fd dv,lA K dv "__init__" qual st f fd/\Mk K C f/\Binds K fd ps []/\Binds K fd ps [dv]/\RelV (.int nn) dv:=⟨_,_,_,wk l d c k,⟨m,a,i,kc⟩,(wk l d c k).binds b,(wk l d c k).uV b2,⟨_,rfl⟩⟩
theorem tX (X:K.In h)(G:h.Ns aa5 mg)(cc:W.nsIn K aa5 x=some (some (.ref C)))(a:abh K (.ref C) "__init__" = some (some (.ref f)))(l:K.lookup f=some ⟨oc,od,.func (W.fnOf "__init__" qual (a_ st) (aV st) (ah st) .none kV S8 pm an S0 ct),Ts⟩)(c:abR K S0 qual=true)(k:abi K (.ref f)=true)(xw:qU K C f=true)(b:∀ (kV S8 pm:Value) (an:Option Addr) (S0 ct:Value) (us:List Value),us.length=ps.length->abW (W.fnOf "__init__" qual (a_ st) (aV st) (ah st) .none kV S8 pm an S0 ct) ⟨us,[]⟩=pure (ps.zip us)):∃ f fd,ee K "__init__" qual st f fd/\k9 K mg x C f/\Binds K fd ps []:=⟨_,_,gQ l c k,⟨W.mg_of X G cc,xw⟩,(gQ l c k).binds b⟩
theorem Sh (X:K.In h)(G:h.Ns aa5 mg)(cc:W.nsIn K aa5 x=some (some (.ref C)))(a:abh K (.ref C) "__init__" = some (some (.ref f)))(xw:qU K C f=true):∃ f,k9 K mg x C f:=⟨_,W.mg_of X G cc,xw⟩
theorem tS {a:Addr}{its:Array Value}{sl:Array (Option Value)}(hz:its.size<=aal)(l:K.lookup a=some ⟨.type "tuple",od,.seq its n,sl⟩)(v:aM xs its.toList):∀ H,aI K H a xs:=RC l hz v
end
variable {α : Type}
theorem N2 {P:List α->Prop}(f:∀ x0,P [x0]):∀ us:List α,us.length=1->P us
 | [x0],_=>f x0
theorem R8 {P:List α->Prop}(f:∀ x0,P [x0]):∀ us:List α,us.length+1=2->P us:=λus h=>N2 f us (adI h)
theorem ln2 {P:List α->Prop}(f:∀ x0 x1,P [x0,x1]):∀ us:List α,us.length=2->P us
 | [x0,x1],_=>f x0 x1
theorem Sx {P:List α->Prop}(f:∀ x0 x1,P [x0,x1]):∀ us:List α,us.length+1=3->P us:=λus h=>ln2 f us (adI h)
theorem QU {P:List α->Prop}(f:∀ x0 x1 x2,P [x0,x1,x2]):∀ us:List α,us.length=3->P us
 | [x0,x1,x2],_=>f x0 x1 x2
theorem OK {P:List α->Prop}(f:∀ x0 x1 x2 x3,P [x0,x1,x2,x3]):∀ us:List α,us.length=4->P us
 | [x0,x1,x2,x3],_=>f x0 x1 x2 x3
theorem So {P:List α->Prop}(f:∀ x0 x1 x2 x3,P [x0,x1,x2,x3]):∀ us:List α,us.length+1=5->P us:=λus h=>OK f us (adI h)
theorem QR {P:List α->Prop}(f:∀ x0 x1 x2 x3 x4,P [x0,x1,x2,x3,x4]):∀ us:List α,us.length=5->P us
 | [x0,x1,x2,x3,x4],_=>f x0 x1 x2 x3 x4
theorem tL {K:W.Frag}{h:Heap}{mg:Str->Option Value}{f fa:Addr}{oc:Value}{od an:Option Addr}{Ts:Array (Option Value)}{kV S8 pm S0 ct:Value}(X:K.In h)(G:h.Ns aa5 mg)(e:mg "law" = some (.ref fa))(a:W.nsIn K aa5 "law" = some (some (.ref f)))(l:K.lookup f=some ⟨oc,od,.func (W.fnOf "law" "law" (a_ gy) (aV gy) (ah gy) .none kV S8 pm an S0 ct),Ts⟩)(c:abR K S0 "law" = true)(k:abi K (.ref f)=true):∃ fd,ee K "law" "law" gy fa fd/\∀ (s:Shared) (v:Value),BindsTo s fd ⟨[v],[]⟩ [("_law_script",v)]:=by
 cases e.symm.trans (W.mg_of X G a)
 exact⟨_,gQ l c k,λs v=>.of_eq rfl⟩
theorem walk {l:W.OpenLaw}{q:Program}{UC:List Str}{XP:(Str->Option Value)->Heap->Prop}{YP:World->Heap->Prop}{d:DefRec}{K:Params->W.Frag}(hn:l.most=some 63)(hdf:d.params.defaults=[])
   (hY:∀ (w:World) (h:Heap),YP w h->(K w.params).In h)
   (F:∀ (w:World) (mg:Str->Option Value) (fa:Addr) (h:Heap),(K w.params).In h->h.Ns aa5 mg->mg d.name=some (.ref fa) ->
     ∃ fd:aa4,(∀ (s:Shared) (u:Value),BindsTo s fd ⟨[u],[]⟩ [("_law_script",u)])/\∀ base:Heap,(K w.params).In base->base.Ns aa5 mg->c7 l.prog w (K w.params) mg base cb 10 fa fd ["_law_script"] (qD (K w.params))) :
   W.WalkO q UC XP YP l.row.toRowW d [] (λf vs=>PySem.call f vs) :=
 L2.L8 (n:=63) (k:=10) (x:="_law_script") (CX:=λ_=>cb) (sp:=λw=>qD (K w.params)) hn (by decide) hdf ⟨rfl,by decide,by decide,rfl⟩ hY F (λ_ _ a ns hl _ hS=>⟨a,ns,rfl,hS,hl,λ_=>rfl⟩) λ_ _ _ _ _ z=>z
local macro_rules | `(tactic| walk_at "k") => `(tactic| first | k_is | kit_is | rfl | kernel_rfl)
local macro_rules | `(tactic| walk_at "b") => `(tactic| (first | (intro _ _ _ _ _ _; first | exact FB.ln0 rfl | exact FB.N2 (λ_ => rfl) | exact FB.ln2 (λ_ _ => rfl) | exact FB.QU (λ_ _ _ => rfl) | exact FB.OK (λ_ _ _ _ => rfl) | exact FB.QR (λ_ _ _ _ _ => rfl) | exact FB.ln6 (λ_ _ _ _ _ _ => rfl)) | (intro _ _ _ _ _ _ _; first | exact FB.ln0 ⟨_, rfl, rfl⟩ | exact FB.N2 (λ_ => ⟨_, rfl, rfl⟩) | exact FB.ln2 (λ_ _ => ⟨_, rfl, rfl⟩) | exact FB.QU (λ_ _ _ => ⟨_, rfl, rfl⟩) | exact FB.OK (λ_ _ _ _ => ⟨_, rfl, rfl⟩) | exact FB.QR (λ_ _ _ _ _ => ⟨_, rfl, rfl⟩) | exact FB.ln6 (λ_ _ _ _ _ _ => ⟨_, rfl, rfl⟩) | exact FB.lm0 ⟨_, rfl, rfl⟩ | exact FB.R8 (λ_ => ⟨_, rfl, rfl⟩) | exact FB.Sx (λ_ _ => ⟨_, rfl, rfl⟩) | exact FB.lm3 (λ_ _ _ => ⟨_, rfl, rfl⟩) | exact FB.So (λ_ _ _ _ => ⟨_, rfl, rfl⟩) | exact FB.lm5 (λ_ _ _ _ _ => ⟨_, rfl, rfl⟩) | exact FB.lm6 (λ_ _ _ _ _ _ => ⟨_, rfl, rfl⟩))))
local macro_rules | `(tactic| walk_at "T") => `(tactic| first | (refine W.mg_none_of (by assumption) (by assumption) ?_; walk_at "k") | (refine W.mg_of (by assumption) (by assumption) ?_; walk_at "k") | (refine' ⟨_, W.mg_of (by assumption) (by assumption) ?gg⟩; (case gg => walk_at "k")) | (refine' FB.tF (by assumption) (by assumption) ?a ?l ?c ?k ?b; (case a => walk_at "k"); (case l => walk_at "k"); (case c => walk_at "k"); (case k => walk_at "k"); (case b => walk_at "b")) | (refine' FB.tM ?a ?i ?l ?c ?k ?b; (case a => walk_at "k"); (case i => walk_at "k"); (case l => walk_at "k"); (case c => walk_at "k"); (case k => walk_at "k"); (case b => walk_at "b")) | (refine' FB.tI ?m ?kc ?a ?i ?l ?c ?k ?b; (case m => walk_at "k"); (case kc => walk_at "k"); (case a => walk_at "k"); (case i => walk_at "k"); (case l => walk_at "k"); (case c => walk_at "k"); (case k => walk_at "k"); (case b => walk_at "b")) | (refine' FB.Sm ?m ?kc ?a ?i ?l ?d ?c ?k ?b ?b2; (case m => walk_at "k"); (case kc => walk_at "k"); (case a => walk_at "k"); (case i => walk_at "k"); (case l => walk_at "k"); (case d => walk_at "k"); (case c => walk_at "k"); (case k => walk_at "k"); (case b => walk_at "b"); (case b2 => walk_at "b")) | (refine' FB.R3 (by assumption) (by assumption) ?a ?l ?d ?c ?k ?b ?b2; (case a => walk_at "k"); (case l => walk_at "k"); (case d => walk_at "k"); (case c => walk_at "k"); (case k => walk_at "k"); (case b => walk_at "b"); (case b2 => walk_at "b")) | (refine' FB.SH ?m ?kc ?a ?i ?l ?d ?c ?k ?b ?b2; (case m => walk_at "k"); (case kc => walk_at "k"); (case a => walk_at "k"); (case i => walk_at "k"); (case l => walk_at "k"); (case d => walk_at "k"); (case c => walk_at "k"); (case k => walk_at "k"); (case b => walk_at "b"); (case b2 => walk_at "b")) | (refine' FB.tX (by assumption) (by assumption) ?cc ?a ?l ?c ?k ?xw ?b; (case cc => walk_at "k"); (case a => walk_at "k"); (case l => walk_at "k"); (case c => walk_at "k"); (case k => walk_at "k"); (case xw => walk_at "k"); (case b => walk_at "b")) | (refine' FB.Sh (by assumption) (by assumption) ?cc ?a ?xw; (case cc => walk_at "k"); (case a => walk_at "k"); (case xw => walk_at "k")) | (unfold L2.a9; walk_at "k") | ((with_reducible show aci _ _ _ = _); walk_at "k") | ((with_reducible show L2.dY _ _); constructor <;> walk_at "k") | ((with_reducible show abh _ _ _ = _ /\ _); constructor <;> walk_at "k") | (refine ⟨W.mg_of (by assumption) (by assumption) ?_, ?_, ?_, ?_⟩ <;> walk_at "k") | (refine ⟨W.mg_of (by assumption) (by assumption) ?_, ?_⟩ <;> walk_at "k") | (refine ⟨?_, ?_, ?_, ?_, ?_, ?_, ?_, ?_⟩ <;> walk_at "k") | (refine ⟨?_, ?_, ?_, ?_⟩ <;> walk_at "k") | (refine ⟨?_, ?_⟩ <;> walk_at "k") | (unfold L2.a9; walk_at "k") | walk_at "k")
set_option maxRecDepth 100000 in
set_option maxHeartbeats 0 in
theorem PH:PySem.Challenge.rw_frameback_k91_whole_the_reader_tells_the.Holds:=by
 refine hd ?_
 k_fill
 refine FB.walk (l:=PySem.Challenge.rw_frameback_k91_whole_the_reader_tells_the) rfl rfl (λw h Y=>W.kIn_of Y) ?F
 case F =>
   intro w mg fa h KX G hmg;have T:∃ a:FB.bH,FB.Txt (L2.Ki KX) mg a:=by
     dsimp only[L2.Ki];refine'⟨⟨0,_,_,_,0,0,0,_,_,_,_,_,_,_,_,_,0,0,_,_,_,0,_,0,_,_,0,0,0,_,0,0,_,_,0,0⟩,?T⟩;(case T =>
       constructor
       (case p9=>walk_at"T")
       (case jO=>exact FB.tS (its:=#[.int 4 _,.int 5 _,.int 6 _]) (aa3 rfl) (by walk_at"k") (.cons ⟨_,rfl⟩ (.cons ⟨_,rfl⟩ (.cons ⟨_,rfl⟩ .nil))))
       (case rm=>walk_at"T")
       (case lu=>exact FB.tS (its:=#[.str "back" _,.int 4 _,.int 5 _,.int 6 _]) (aa3 rfl) (by walk_at"k") (.cons ⟨_,rfl⟩ (.cons ⟨_,rfl⟩ (.cons ⟨_,rfl⟩ (.cons ⟨_,rfl⟩ .nil)))))
       (case l0=>walk_at"T")
       (case mz=>exact⟨_,FB.tS (its:=#[.int 0 _,.int 128 _,.ref _]) (aa3 rfl) (by walk_at"k") (.cons ⟨_,rfl⟩ (.cons ⟨_,rfl⟩ (.cons rfl .nil))),FB.tS (its:=#[.int 16 _,.int 32 _,.int 64 _]) (aa3 rfl) (by walk_at"k") (.cons ⟨_,rfl⟩ (.cons ⟨_,rfl⟩ (.cons ⟨_,rfl⟩ .nil)))⟩)
       all_goals walk_at"T")
   have B:∃ fd:aa4,L2.ee (L2.Ki KX) "law" "law" FB.gy fa fd/\∀ (s:Shared) (v:Value),BindsTo s fd ⟨[v],[]⟩ [("_law_script",v)]:=by
     dsimp only[L2.Ki];refine' FB.tL KX G hmg ?l1 ?l2 ?l3 ?l4;(case l1=>walk_at"k")
     (case l2=>walk_at"k")
     (case l3=>walk_at"k")
     (case l4=>walk_at"k")
   obtain⟨a,T⟩:=T;obtain⟨fd,FF,B⟩:=B;exact⟨fd,B,λbase _ _=>FB.law_fn T FF⟩
end FB
theorem PySem.Challenge.cw_frameback_k91_whole_the_reader_tells_the_holds : PySem.Challenge.rw_frameback_k91_whole_the_reader_tells_the.Holds :=
 FB.PH
